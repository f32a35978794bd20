import PyProof.Rows.All
import Wide.All
import OpenK.AllK
import Wide.FinOn
import Lean
import PyProof.EqAt
import PyProof.EqKinds
import PyProof.TupleCall
import PyProof.NeKinds
import KE.KDictSum
import PyProof.Rows.SetFrom
import KE.KSortTup
import PySem.Challenge.RW_rankgarth_k54_wishes_by_their_ticks
set_option Elab.async false
set_option linter.all false
set_option maxRecDepth 100000
namespace L2
open PySem PySem.Spec PyProof.Rows
abbrev Key := Sum Int Str
def keyIs : Key → Value → Bool
  | .inl k, v => Value.isInt k v
  | .inr x, v => Value.isStrOf x v
def keyH (w : World) : Key → Int
  | .inl k => hashInt k
  | .inr x => hashStr w x
theorem keyIs_shape : ∀ {k : Key} {v : Value}, keyIs k v = true → (∃ i t, k = Sum.inl i ∧ v = Value.int i t) ∨ (∃ x t, k = Sum.inr x ∧ v = Value.str x t)
  | .inl i, v, h => by
    obtain ⟨t, e⟩ := Value.isInt_shape (k := i) (v := v) h
    exact .inl ⟨i, t, rfl, e⟩
  | .inr x, v, h => by
    obtain ⟨t, e⟩ := Value.isStrOf_shape (x := x) (v := v) h
    exact .inr ⟨x, t, rfl, e⟩
theorem keyIs_int (i : Int) (t : Tok) : keyIs (.inl i) (.int i t) = true := by simp [keyIs, Value.isInt]
theorem keyIs_str (x : Str) (t : Tok) : keyIs (.inr x) (.str x t) = true := by simp [keyIs, Value.isStrOf]
theorem key_ll (a b : Int) : decide ((Sum.inl a : Key) = Sum.inl b) = (a == b) := by
  by_cases e : a = b
  · subst e; simp
  · have h : ¬ (Sum.inl a : Key) = Sum.inl b := fun q => e (Sum.inl.inj q)
    rw [decide_eq_false h]
    exact (beq_eq_false_iff_ne.mpr e).symm
theorem key_rr (a b : Str) : decide ((Sum.inr a : Key) = Sum.inr b) = decide (a = b) := by
  by_cases e : a = b
  · subst e; simp
  · have h : ¬ (Sum.inr a : Key) = Sum.inr b := fun q => e (Sum.inr.inj q)
    rw [decide_eq_false h, decide_eq_false e]
theorem key_lr (a : Int) (b : Str) : decide ((Sum.inl a : Key) = Sum.inr b) = false := decide_eq_false (fun q => nomatch q)
theorem key_rl (a : Str) (b : Int) : decide ((Sum.inr a : Key) = Sum.inl b) = false := decide_eq_false (fun q => nomatch q)
def mixKind (prog : Program) (w : World) : PySem.KeyKind prog w Key where
  is := keyIs
  hash := keyH w
  inj := fun v a b ha hb => by
    rcases keyIs_shape ha with ⟨i, t, rfl, rfl⟩ | ⟨x, t, rfl, rfl⟩
    · rcases keyIs_shape hb with ⟨j, u, rfl, e⟩ | ⟨y, u, rfl, e⟩
      · injection e with e1 _; rw [e1]
      · exact nomatch e
    · rcases keyIs_shape hb with ⟨j, u, rfl, e⟩ | ⟨y, u, rfl, e⟩
      · exact nomatch e
      · injection e with e1 _; rw [e1]
  byValue := fun k v h => by
    rcases keyIs_shape h with ⟨i, t, rfl, rfl⟩ | ⟨x, t, rfl, rfl⟩ <;> rfl
  pyHash := fun hv h => by
    rcases keyIs_shape hv with ⟨i, t, rfl, rfl⟩ | ⟨x, t, rfl, rfl⟩
    · exact wpAny_pyHash_int h
    · exact wpAny_pyHash_str h
  eqBool := fun hu hv h => by
    rcases keyIs_shape hu with ⟨i, t, rfl, rfl⟩ | ⟨x, t, rfl, rfl⟩
    · rcases keyIs_shape hv with ⟨j, u, rfl, rfl⟩ | ⟨y, u, rfl, rfl⟩
      · rw [key_ll] at h; exact wpAny_eqBool_int h
      · rw [key_lr] at h; exact SeqAt.EqAt.int_str i t y u _ _ _ _ h
    · rcases keyIs_shape hv with ⟨j, u, rfl, rfl⟩ | ⟨y, u, rfl, rfl⟩
      · rw [key_rl] at h; exact SeqAt.EqAt.str_int x t j u _ _ _ _ h
      · rw [key_rr] at h; exact wpAny_eqBool_str h
  «strs» := fun k x t v h => by
    rcases keyIs_shape h with ⟨i, u, rfl, e⟩ | ⟨y, u, rfl, e⟩
    · exact nomatch e
    · injection e with e1 _
      subst e1
      cases v <;> rfl
theorem mixKind_int (prog : Program) (w : World) (i : Int) (t : Tok) : (mixKind prog w).is (.inl i) (.int i t) = true := keyIs_int i t
theorem mixKind_str (prog : Program) (w : World) (x : Str) (t : Tok) : (mixKind prog w).is (.inr x) (.str x t) = true := keyIs_str x t
end L2
namespace L2
open PySem PySem.Spec PyProof.Rows
inductive V where
  | non | bl (b : Bool) | int (i : Int) | str (x : Str) | byt (b : Array UInt8) | flt (b : UInt64) | ref (a : Addr) | ty (n : String)
  deriving DecidableEq
def RelV : V → Value → Prop
  | .non, u => u = Value.none
  | .bl b, u => u = Value.bool b
  | .int i, u => ∃ t, u = Value.int i t
  | .str x, u => ∃ t, u = Value.str x t
  | .byt b, u => ∃ t, u = Value.bytes b t
  | .flt b, u => ∃ t, u = Value.float b t
  | .ref a, u => u = Value.ref a
  | .ty n, u => u = Value.type n
abbrev Vals : List V → List Value → Prop := Paired RelV
theorem Vals.length {xs : List V} {us : List Value} (r : Vals xs us) : xs.length = us.length := Paired.length r
theorem Vals.get : ∀ {xs : List V} {us : List Value} {i : Nat} {x : V}, Vals xs us → xs[i]? = some x → ∃ u, us[i]? = some u ∧ RelV x u
  | _, _, _, _, .nil, e => by simp at e
  | _, _, 0, _, .cons r _, e => by simp at e; subst e; exact ⟨_, rfl, r⟩
  | _, _, i + 1, x, .cons _ t, e => by
    obtain ⟨u, h1, h2⟩ := Vals.get (i := i) (x := x) t (by simpa using e)
    exact ⟨u, by simpa using h1, h2⟩
theorem Vals.append : ∀ {xs ys : List V} {us ws : List Value}, Vals xs us → Vals ys ws → Vals (xs ++ ys) (us ++ ws)
  | _, _, _, _, .nil, s => s
  | _, _, _, _, .cons r t, s => .cons r (Vals.append t s)
theorem Vals.take : ∀ {xs : List V} {us : List Value} (n : Nat), Vals xs us → Vals (xs.take n) (us.take n)
  | _, _, 0, _ => .nil
  | _, _, _ + 1, .nil => .nil
  | _, _, n + 1, .cons r t => .cons r (Vals.take n t)
theorem Vals.drop : ∀ {xs : List V} {us : List Value} (n : Nat), Vals xs us → Vals (xs.drop n) (us.drop n)
  | _, _, 0, r => r
  | _, _, _ + 1, .nil => .nil
  | _, _, n + 1, .cons _ t => Vals.drop n t
def RelO : Option V → Option Value → Prop
  | some v, some u => RelV v u
  | none, none => True
  | _, _ => False
def KV {κ : Type} : List (κ × V) → List (κ × Value) → Prop := Paired fun (p : κ × V) (q : κ × Value) => p.1 = q.1 ∧ RelV p.2 q.2
def kV : Key → V
  | .inl i => .int i
  | .inr x => .str x
inductive HO where
    | lst (xs : List V)
    | tup (xs : List V)
    | dK (kvs : List (Key × V)) | dT (kvs : List (List Key × V))
    | set (S : Int → Bool) (n : Nat)
    | ins (C dx : Addr) (fs : List (Str × V))
    | own (x : Addr)
    | xd (fs : List (Str × V))
    | met (f x : Addr)
    | rng (lo hi : Int)
    | frz (o : Obj) (u : HO)
    | tbl (ps : Array Value)
    | ext (φ : Heap → Prop)
abbrev Hp := Addr → Option HO
def upd (H : Hp) (a : Addr) (o : HO) : Hp := fun b => if b = a then some o else H b
theorem upd_same {H : Hp} {a : Addr} {o : HO} : upd H a o a = some o := by unfold upd; rw [if_pos rfl]
theorem upd_ne {H : Hp} {a b : Addr} {o : HO} (h : b ≠ a) : upd H a o b = H b := by unfold upd; rw [if_neg h]
theorem ne_of_none {H : Hp} {a b : Addr} {o : HO} (h : H a = some o) (h' : H b = none) : a ≠ b := by
  intro e; subst e; rw [h] at h'; cases h'
section
variable (P : Program) (w : World)
def ObjOk (H : Hp) (h : Heap) (a : Addr) : HO → Prop
  | .lst xs => xs.length ≤ sizeLine ∧ ∃ (its : List Value) (n : Nat), Vals xs its ∧ h.get? a = some { cls := .type "list", data := .seq its.toArray n }
  | .tup xs => xs.length ≤ sizeLine ∧ ∃ its : List Value, Vals xs its ∧ IsTup h a its.toArray
  | .dK kvs => kvs.length ≤ sizeLine ∧ (a == sysModules) = false ∧ ∃ vs, KV kvs vs ∧ h.DictOf (mixKind P w) a vs
  | .dT kvs => kvs.length ≤ sizeLine ∧ (a == sysModules) = false ∧ ∃ xs : List (List Key × Addr × Value),
      Paired (fun (p : List Key × V) (q : List Key × Addr × Value) => p.1 = q.1 ∧ H q.2.1 = some (.tup (p.1.map kV)) ∧ RelV p.2 q.2.2) kvs xs ∧
      ∃ o es ep, h.get? a = some o ∧ o.ExactDict ∧ o.data = .dict es ep ∧ es.toList = xs.map (entryOfKey (tupleKind (mixKind P w))) ∧ (xs.map (·.1)).Nodup
  | .set S n => h.SetOf (intKind P w) a S n
  | .ins C dx fs => H dx = some (.own a) ∧ fs.length ≤ 1000 ∧ dx ≠ a ∧ h.get? a = some (PySem.W.instObj C dx) ∧
      ∃ mA, h.Ns1 dx mA ∧ (∀ f, RelO (fs.lookup f) (mA f)) ∧ PySem.Within mA (fs.map (·.1))
  | .own _ => ∃ o, h.get? a = some o
  | .xd fs => ∃ mA, h.Ns1 a mA ∧ ∀ f, RelO (fs.lookup f) (mA f)
  | .rng lo hi => ∃ t u v, h.get? a = some { cls := .type "range", data := .fields #[.int lo t, .int hi u, .int 1 v] }
  | .frz o u => h.get? a = some o ∧ ObjOk H h a u
  | .tbl ps => h.get? a = some { cls := .none, data := .fields ps }
  | .met f x => h.get? a = some (PySem.W.methodObj (.ref f) (.ref x))
  | .ext φ => φ h ∧ (∃ o, h.get? a = some o) ∧ ∀ h1 h2 : Heap, φ h1 → (∀ o, h1.get? a = some o → h2.get? a = some o) → φ h2
def HOk (H : Hp) (h : Heap) : Prop := ∀ a o, H a = some o → ObjOk P w H h a o
end
section
variable {P : Program} {w : World} {H H' : Hp} {h h' : Heap} {a : Addr} {o : HO}
theorem ObjOk.lt (x : ObjOk P w H h a o) : a < h.objs.size := by
  cases o with
  | lst xs => obtain ⟨_, _, _, _, e⟩ := x; exact Heap.lt_size e
  | tup xs => obtain ⟨_, _, _, p⟩ := x; exact p.lt
  | dK kvs => obtain ⟨_, _, _, _, o, _, _, e, _⟩ := x; exact Heap.lt_size e
  | dT kvs => obtain ⟨_, _, _, _, o, _, _, e, _⟩ := x; exact Heap.lt_size e
  | set S n => obtain ⟨o, _, _, _, e, _⟩ := x; exact Heap.lt_size e
  | ins C dx fs => obtain ⟨_, _, _, e, _⟩ := x; exact Heap.lt_size e
  | own y => obtain ⟨_, e⟩ := x; exact Heap.lt_size e
  | xd fs => obtain ⟨_, ⟨_, _, _, e, _⟩, _⟩ := x; exact Heap.lt_size e
  | rng lo hi => obtain ⟨_, _, _, e⟩ := x; exact Heap.lt_size e
  | frz ob u => obtain ⟨e, _⟩ := x; exact Heap.lt_size e
  | tbl ps => exact Heap.lt_size (show h.get? a = some _ from x)
  | met f y => exact Heap.lt_size (show h.get? a = some _ from x)
  | ext φ => obtain ⟨_, ⟨_, e⟩, _⟩ := x; exact Heap.lt_size e
theorem Paired.mapP {α β : Type} {F G : α → β → Prop} : ∀ {l₁ : List α} {l₂ : List β}, Paired F l₁ l₂ → (∀ a b, F a b → G a b) → Paired G l₁ l₂
  | _, _, .nil, _ => .nil
  | _, _, .cons r t, f => .cons (f _ _ r) (Paired.mapP t f)
theorem ObjOk.stay (x : ObjOk P w H h a o) (k : ∀ b u, (b = a ∨ H b = some (.own a)) → h.get? b = some u → h'.get? b = some u)
    (ho : ∀ b, H b = some (.own a) → H' b = some (.own a)) (ht : ∀ b xs, H b = some (.tup xs) → H' b = some (.tup xs)) : ObjOk P w H' h' a o := by
  induction o with
  | lst xs => obtain ⟨z, its, n, r, e⟩ := x; exact ⟨z, its, n, r, k _ _ (.inl rfl) e⟩
  | tup xs => obtain ⟨z, its, r, ob, e, c⟩ := x; exact ⟨z, its, r, ob, k _ _ (.inl rfl) e, c⟩
  | dK kvs => obtain ⟨z, y, vs, r, ob, es, ep, e, c⟩ := x; exact ⟨z, y, vs, r, ob, es, ep, k _ _ (.inl rfl) e, c⟩
  | dT kvs =>
    obtain ⟨z, y, xs, r, ob, es, ep, e, c⟩ := x
    exact ⟨z, y, xs, Paired.mapP r fun p q z => ⟨z.1, ht _ _ z.2.1, z.2.2⟩, ob, es, ep, k _ _ (.inl rfl) e, c⟩
  | set S n => obtain ⟨ob, es, ep, t, e, c⟩ := x; exact ⟨ob, es, ep, t, k _ _ (.inl rfl) e, c⟩
  | ins C dx fs =>
    obtain ⟨d, z, ne, e, mA, ⟨od, es, ep, e2, c⟩, r⟩ := x
    exact ⟨ho _ d, z, ne, k _ _ (.inl rfl) e, mA, ⟨od, es, ep, k _ _ (.inr d) e2, c⟩, r⟩
  | own y => obtain ⟨ob, e⟩ := x; exact ⟨ob, k _ _ (.inl rfl) e⟩
  | xd fs => obtain ⟨mA, ⟨od, es, ep, e, c⟩, r⟩ := x; exact ⟨mA, ⟨od, es, ep, k _ _ (.inl rfl) e, c⟩, r⟩
  | rng lo hi => obtain ⟨t, u, v, e⟩ := x; exact ⟨t, u, v, k _ _ (.inl rfl) e⟩
  | frz ob u ih => obtain ⟨e, q⟩ := x; exact ⟨k _ _ (.inl rfl) e, ih q⟩
  | tbl ps =>
    have e : h.get? a = some { cls := .none, data := .fields ps } := x
    show h'.get? a = some { cls := .none, data := .fields ps }
    exact k a _ (.inl rfl) e
  | met f y =>
    have e : h.get? a = some (PySem.W.methodObj (.ref f) (.ref y)) := x
    show h'.get? a = some (PySem.W.methodObj (.ref f) (.ref y))
    exact k a _ (.inl rfl) e
  | ext φ => obtain ⟨p, ⟨o, e⟩, st⟩ := x; exact ⟨st _ _ p fun o q => k _ _ (.inl rfl) q, ⟨o, k _ _ (.inl rfl) e⟩, st⟩
theorem HOk.lt (x : HOk P w H h) (e : H a = some o) : a < h.objs.size := (x a o e).lt
theorem HOk.fresh (x : HOk P w H h) (e : h.objs.size ≤ a) : H a = none := by
  cases q : H a with
  | none => rfl
  | some u => exact absurd (Nat.lt_of_lt_of_le (x.lt q) e) (Nat.lt_irrefl _)
theorem HOk.kept (x : HOk P w H h) (k : ∀ b u, h.get? b = some u → h'.get? b = some u) : HOk P w H h' := fun a o e =>
  (x a o e).stay (fun b u _ q => k b u q) (fun _ q => q) fun _ _ q => q
theorem HOk.laid (x : HOk P w H h) (k : ∀ b u, h.get? b = some u → h'.get? b = some u) (hp : h.objs.size ≤ a) (new : ObjOk P w (upd H a o) h' a o) : HOk P w (upd H a o) h' := fun b u e => by
  have hn := x.fresh hp
  by_cases hb : b = a
  · subst hb; rw [upd_same] at e; cases e; exact new
  · rw [upd_ne hb] at e
    exact (x b u e).stay (fun c v _ q => k c v q) (fun c q => by rw [upd_ne (ne_of_none q hn)]; exact q) fun c xs q => by rw [upd_ne (ne_of_none q hn)]; exact q
end
def Rd (H : Hp) (a : Addr) (u : HO) : Prop := H a = some u ∨ ∃ o, H a = some (.frz o u)
theorem Rd.ok {P : Program} {w : World} {H : Hp} {h : Heap} {a : Addr} {u : HO} (r : Rd H a u) (x : HOk P w H h) : ObjOk P w H h a u := by
  rcases r with r | ⟨o, r⟩
  · exact x a u r
  · obtain ⟨_, q⟩ := x a _ r
    exact q
def Mut : Option HO → Prop
  | some (.lst _) => True
  | some (.dK _) => True
  | some (.dT _) => True
  | some (.set _ _) => True
  | some (.ins _ _ _) => True
  | some (.ext _) => True
  | _ => False
section
variable {P : Program} {w : World} {H : Hp} {h h' : Heap} {x e : Addr} {o' : HO}
theorem HOk.write (ok : HOk P w H h) (mu : Mut (H x)) (he : e = x ∨ H e = some (.own x)) (k : ∀ b u, b ≠ e → h.get? b = some u → h'.get? b = some u) (heo : ∃ u, h'.get? e = some u)
    (new : ObjOk P w (upd H x o') h' x o') : HOk P w (upd H x o') h' := fun b u q => by
  have nown : ∀ c y, H c = some (.own y) → c ≠ x := fun c y r z => by subst z; rw [r] at mu; exact mu
  have ntup : ∀ c xs, H c = some (.tup xs) → c ≠ x := fun c xs r z => by subst z; rw [r] at mu; exact mu
  by_cases hb : b = x
  · subst hb; rw [upd_same] at q; cases q; exact new
  · rw [upd_ne hb] at q
    by_cases hbe : b = e
    · have q' : H b = some (.own x) := by
        rcases he with z | z
        · exact absurd (hbe.trans z) hb
        · rw [hbe]; exact z
      rw [q] at q'; cases q'
      obtain ⟨v, hv⟩ := heo
      exact ⟨v, by rw [hbe]; exact hv⟩
    · refine (ok b u q).stay (fun c v hc r => k c v ?_ r) (fun c r => by rw [upd_ne (nown c b r)]; exact r) fun c xs r => by rw [upd_ne (ntup c xs r)]; exact r
      rcases hc with rfl | hc
      · exact hbe
      · rintro rfl
        rcases he with z | z
        · exact nown c b hc z
        · rw [hc] at z; cases z; exact hb rfl
end
structure Un (fs ex : List Addr) (H H' : Hp) (h h' : Heap) : Prop where
  keep : ∀ b o, h.get? b = some o → H b = none → b ∉ fs → b ∉ ex → h'.get? b = some o
  slot : ∀ b o, h.get? b = some o → H b = none → b ∈ fs → b ∉ ex → ∃ sl, h'.get? b = some { o with slots := sl }
  free : ∀ b o, h.get? b = some o → H b = none → b ∉ ex → H' b = none
  there : ∀ b o, h.get? b = some o → b ∉ ex → ∃ o', h'.get? b = some o'
  tups : ∀ b xs, H b = some (.tup xs) → H' b = some (.tup xs)
  frzs : ∀ b o u, H b = some (.frz o u) → H' b = some (.frz o u)
  tbls : ∀ b ps, H b = some (.tbl ps) → ∃ more, H' b = some (.tbl (ps ++ more))
section
variable {fs fs' ex ex' : List Addr} {H H1 H2 : Hp} {h h1 h2 h' : Heap} {a x e : Addr} {o : HO}
theorem Un.any (u : Un fs ex H H1 h h1) {b : Addr} {ob : Obj} (q : h.get? b = some ob) (n : H b = none) (hx : b ∉ ex) : ∃ sl, h1.get? b = some { ob with slots := sl } := by
  by_cases hb : b ∈ fs
  · exact u.slot b ob q n hb hx
  · exact ⟨ob.slots, u.keep b ob q n hb hx⟩
theorem Un.kept (k : ∀ b u, h.get? b = some u → h'.get? b = some u) : Un fs ex H H h h' :=
  ⟨fun b ob q _ _ _ => k b ob q, fun b ob q _ _ _ => ⟨ob.slots, k b ob q⟩, fun _ _ _ n _ => n, fun b ob q _ => ⟨ob, k b ob q⟩, fun _ _ q => q, fun _ _ _ q => q, fun _ ps q => ⟨#[], by rw [q]; simp⟩⟩
theorem Un.refl : Un fs ex H H h h := Un.kept fun _ _ q => q
theorem Un.laid (k : ∀ b u, h.get? b = some u → h'.get? b = some u) (hp : h.objs.size ≤ a) (hn : H a = none) : Un fs ex H (upd H a o) h h' where
  keep := fun b u q _ _ _ => k b u q
  slot := fun b u q _ _ _ => ⟨u.slots, k b u q⟩
  free := fun b u q n _ => by rw [upd_ne (Nat.ne_of_lt (Nat.lt_of_lt_of_le (Heap.lt_size q) hp))]; exact n
  there := fun b u q _ => ⟨u, k b u q⟩
  tups := fun b xs q => by rw [upd_ne (ne_of_none q hn)]; exact q
  frzs := fun b u xs q => by rw [upd_ne (ne_of_none q hn)]; exact q
  tbls := fun b ps q => ⟨#[], by rw [upd_ne (ne_of_none q hn), q]; simp⟩
theorem Un.write (mu : Mut (H x)) (he : e = x ∨ H e = some (.own x)) (k : ∀ b u, b ≠ e → h.get? b = some u → h'.get? b = some u) (heo : ∃ u, h'.get? e = some u) : Un fs ex H (upd H x o) h h' := by
  have hx : ∀ b, H b = none → b ≠ x := fun b n z => by subst z; rw [n] at mu; exact mu
  have hb : ∀ b, H b = none → b ≠ e := fun b n z => by
    subst z
    rcases he with r | r
    · exact hx b n r
    · rw [n] at r; cases r
  have hm : ∀ b u, H b = some u → ¬ Mut (some u) → b ≠ x := fun b u q nm z => by subst z; rw [q] at mu; exact nm mu
  refine ⟨fun b u q n _ _ => k b u (hb b n) q, fun b u q n _ _ => ⟨u.slots, k b u (hb b n) q⟩, fun b u q n _ => by rw [upd_ne (hx b n)]; exact n, fun b u q _ => ?_,
    fun b xs q => by rw [upd_ne (hm b _ q fun z => z)]; exact q, fun b u xs q => by rw [upd_ne (hm b _ q fun z => z)]; exact q, fun b ps q => ⟨#[], by rw [upd_ne (hm b _ q fun z => z), q]; simp⟩⟩
  by_cases hbe : b = e
  · subst hbe; exact heo
  · exact ⟨u, k b u hbe q⟩
end
def trk (h : Heap) (H : Hp) : List Addr := (List.range h.objs.size).filter fun a => (H a).isSome
def hidT (h : Heap) (H : Hp) : Heap := PySem.W.hideAll h (trk h H)
theorem hidT_size (h : Heap) (H : Hp) : (hidT h H).objs.size = h.objs.size := PySem.W.hideAll_size _ _
theorem hidT_get {h : Heap} {H : Hp} {b : Addr} {o : Obj} (e : h.get? b = some o) (n : H b = none) : (hidT h H).get? b = some o :=
  PySem.W.hideAll_get _ e fun hm => by
    have q : (H b).isSome = true := (List.mem_filter.mp hm).2
    rw [n] at q; simp at q
theorem of_hidT {h : Heap} {H : Hp} {b : Addr} {o : Obj} (e : (hidT h H).get? b = some o) : h.get? b = some o ∧ H b = none := by
  have e' : h.get? b = some o := PySem.W.of_hideAll (trk h H) e
  refine ⟨e', ?_⟩
  cases q : H b with
  | none => rfl
  | some x =>
    have hm : b ∈ trk h H := List.mem_filter.mpr ⟨List.mem_range.mpr (Heap.lt_size e'), by simp [q]⟩
    have z : (hidT h H).get? b = none := PySem.W.hideAll_none (trk h H) hm
    rw [z] at e; cases e
end L2
namespace L2
open PySem PySem.Spec PyProof.Rows
structure Mod (K : PySem.W.Frag) (mg : Str → Option Value) (base : Heap) : Prop where
  kin : K.In base
  glob : base.Ns mainGlobals mg
  blt : ∃ mb, base.Ns builtinsNs mb ∧ ∀ x : Str, x ≠ "__name__" → mb x = bootBuiltins x
  nolimit : base.NoLimit
structure Cx where
  prog : Program
  w : World
  K : PySem.W.Frag
  mg : Str → Option Value
  base : Heap
  A : Around
  N : List Str
  s₀ : Shared
  H₀ : Hp
  env : Env
  outer : List Env
  stack : List Env
  ex : List Addr
  fn : Str → Bool
  calm : Bool
  pn : List (Addr × Obj)
  xe : Value → Shared → Prop
def frs (l : List Env) : List Addr := l.filterMap (·.frame)
abbrev Cx.fs (X : Cx) : List Addr := frs X.outer
def Vis (sc : Scope) (x : Str) : Prop := sc.names.lookup x = some .local ∨ sc.names.lookup x = some .cell ∨ sc.names.lookup x = some .free
def Loc (sc : Scope) (x : Str) : Prop := sc.names.lookup x = some .local ∨ sc.names.lookup x = some .cell
def Look (env : Env) (h : Heap) (m : Str → Option Value) (x : Str) (u : Value) : Prop :=
  (env.kindOf x = some .local ∧ m x = some u) ∨ ((env.kindOf x = some .cell ∨ env.kindOf x = some .free) ∧ ∃ c, env.cells.lookup x = some c ∧ h.IsCell c (some u))
structure Cx.Ok (X : Cx) : Prop where
  mod : Mod X.K X.mg X.base
  kind : X.env.scope.kind = .function
  glob : X.env.globals = mainGlobals
  blt : X.env.builtins = builtinsNs
  above : X.s₀.heap.objs.size ≤ X.env.locals
  inj : ∀ x y c, X.env.cells.lookup x = some c → X.env.cells.lookup y = some c → x = y
  has : ∀ x, (X.env.kindOf x = some .cell ∨ X.env.kindOf x = some .free) → ∃ c, X.env.cells.lookup x = some c
  cab : ∀ x c, X.fn x = true → X.env.cells.lookup x = some c → X.s₀.heap.objs.size ≤ c
  hd : X.calm = true → X.A.handled = none
  frames : X.A.frames = some X.stack
  stk : X.stack = X.outer ∨ (X.stack = X.env :: X.outer ∧ X.env.frame = some X.env.locals)
  exf : ∀ b ∈ X.ex, b ≠ X.env.locals ∧ ∀ x c, X.env.cells.lookup x = some c → c ≠ b
  bs : ∀ b o, X.base.get? b = some o → X.s₀.heap.get? b = some o ∧ X.H₀ b = none
  bsz : X.base.objs.size ≤ X.s₀.heap.objs.size
  noex : ∀ b o, X.base.get? b = some o → b ∉ X.ex
  exfs : ∀ b ∈ X.ex, b ∉ X.fs
  funs : X.s₀.heap.FunFrames X.base X.outer
  frf : ∀ b ∈ X.fs, X.H₀ b = none
structure Inv (X : Cx) (pins : List (Addr × Obj)) (σ : List (Option V)) (H : Hp) (s : Shared) : Prop where
  ok : X.Ok
  os : s.os = X.s₀.os
  bare : AllBare s.gens
  base : Un X.fs X.ex X.H₀ H X.s₀.heap s.heap
  loc : ∃ m, s.heap.Ns X.env.locals m ∧ ∀ (i : Nat) (x : Str) (v : V), X.N[i]? = some x → σ[i]? = some (some v) → Vis X.env.scope x → ∃ u, RelV v u ∧ Look X.env s.heap m x u
  cell : ∀ x c, X.env.cells.lookup x = some c → ∃ v, s.heap.IsCell c v
  free : H X.env.locals = none
  freeC : ∀ x c, X.env.cells.lookup x = some c → H c = none
  pin : ∀ p ∈ X.pn ++ pins, s.heap.get? p.1 = some p.2 ∧ H p.1 = none ∧ p.1 ≠ X.env.locals ∧ p.1 ∉ X.fs ∧ ∀ v, p.2.data ≠ .cell v
  hok : HOk X.prog X.w H s.heap
  len : σ.length = X.N.length
section
variable {X : Cx} {pins : List (Addr × Obj)} {σ : List (Option V)} {H H' : Hp} {s : Shared} {h' : Heap}
theorem Cx.Ok.nofr (ok : X.Ok) {b : Addr} {o : Obj} (e : X.base.get? b = some o) : b ∉ X.fs := fun hb => by
  have := (ok.funs.mem hb).1
  rw [e] at this; cases this
theorem Inv.bs (I : Inv X pins σ H s) : ∀ b o, X.base.get? b = some o → s.heap.get? b = some o ∧ H b = none := fun b o e =>
  ⟨I.base.keep b o (I.ok.bs b o e).1 (I.ok.bs b o e).2 (I.ok.nofr e) (I.ok.noex b o e), I.base.free b o (I.ok.bs b o e).1 (I.ok.bs b o e).2 (I.ok.noex b o e)⟩
theorem Inv.bk (I : Inv X pins σ H s) : ∀ b o, X.base.get? b = some o → s.heap.get? b = some o := fun b o e => (I.bs b o e).1
theorem Inv.mod (I : Inv X pins σ H s) : Mod X.K X.mg X.base := I.ok.mod
theorem Inv.kIn (I : Inv X pins σ H s) : X.K.In s.heap := I.ok.mod.kin.keeps I.bk
theorem Inv.lt (I : Inv X pins σ H s) : X.env.locals < s.heap.objs.size := let ⟨_, hn, _⟩ := I.loc; hn.lt
theorem Inv.sz (I : Inv X pins σ H s) : X.s₀.heap.objs.size ≤ s.heap.objs.size := Nat.le_trans I.ok.above (Nat.le_of_lt I.lt)
theorem Inv.nofs (I : Inv X pins σ H s) {a : Addr} (h : s.heap.objs.size ≤ a) : a ∉ X.fs := fun hb => by
  obtain ⟨_, o, ho, _⟩ := I.ok.funs.mem hb
  exact absurd (Nat.lt_of_lt_of_le (Heap.lt_size ho) (Nat.le_trans I.sz h)) (Nat.lt_irrefl _)
theorem Inv.cne (I : Inv X pins σ H s) : ∀ x c, X.env.cells.lookup x = some c → c ≠ X.env.locals := fun x c e z => by
  obtain ⟨v, o, ho, hd⟩ := I.cell x c e
  obtain ⟨m, ⟨o', es, ep, ho', hd', _⟩, _⟩ := I.loc
  rw [z, ho'] at ho; cases ho; rw [hd'] at hd; cases hd
theorem Inv.funs (I : Inv X pins σ H s) : s.heap.FunFrames X.base X.outer := by
  have all : ∀ (l : List Env), (∀ b ∈ frs l, b ∈ X.fs) → X.s₀.heap.FunFrames X.base l → s.heap.FunFrames X.base l := by
    intro l
    induction l with
    | nil => intro _ _; trivial
    | cons env r ih =>
      intro hs hl
      obtain ⟨hk, ⟨L, o, hf, hn, ho, hd⟩, hr⟩ := hl
      have hL : L ∈ X.fs := hs L (by unfold frs; rw [List.filterMap_cons, hf]; exact List.mem_cons_self)
      obtain ⟨sl, e⟩ := I.base.slot L o ho (I.ok.frf L hL) hL fun z => I.ok.exfs L z hL
      exact ⟨hk, ⟨L, _, hf, hn, e, hd⟩, ih (fun b hb => hs b (by unfold frs; rw [List.filterMap_cons, hf]; exact List.mem_cons_of_mem _ hb)) hr⟩
  exact all X.outer (fun _ hb => hb) I.ok.funs
theorem Inv.stack (I : Inv X pins σ H s) : s.heap.FunFrames X.base X.stack := by
  rcases I.ok.stk with e | ⟨e, hf⟩
  · rw [e]; exact I.funs
  · rw [e]
    obtain ⟨m, hn, _⟩ := I.loc
    refine .cons (by rw [I.ok.kind]; decide) hf hn ?_ I.funs
    exact Heap.get?_none_of_le (Nat.le_trans I.ok.bsz I.ok.above)
theorem Inv.stkSub (I : Inv X pins σ H s) : ∀ b ∈ frs X.stack, b ∈ X.env.locals :: X.fs := fun b hb => by
  rcases I.ok.stk with e | ⟨e, hf⟩
  · rw [e] at hb; exact List.mem_cons_of_mem _ hb
  · rw [e] at hb
    unfold frs at hb
    rw [List.filterMap_cons, hf] at hb
    exact hb
theorem Inv.stkFree (I : Inv X pins σ H s) : ∀ b ∈ frs X.stack, H b = none := fun b hb => by
  rcases List.mem_cons.mp (I.stkSub b hb) with e | hb
  · rw [e]; exact I.free
  · obtain ⟨_, o, ho, _⟩ := I.ok.funs.mem hb
    exact I.base.free b o ho (I.ok.frf b hb) fun z => I.ok.exfs b z hb
theorem Inv.step {g' : Array GenState} {t' : Nat} {d' : Drawn} {ch : List Addr} (I : Inv X pins σ H s)
    (hch : ∀ b ∈ ch, (b ∈ X.ex ∨ X.s₀.heap.objs.size ≤ b) ∧ b ≠ X.env.locals ∧ (∀ x c, X.env.cells.lookup x = some c → c ≠ b) ∧ ∀ p ∈ X.pn ++ pins, p.1 ≠ b)
    (keep : ∀ b o, b ≠ X.env.locals → b ∉ X.fs → b ∉ ch → s.heap.get? b = some o → H b = none → h'.get? b = some o)
    (slot : ∀ b o, b ≠ X.env.locals → b ∈ X.fs → b ∉ ch → s.heap.get? b = some o → H b = none → ∃ sl, h'.get? b = some { o with slots := sl }) (free : ∀ b o, b ∉ ch → s.heap.get? b = some o → H b = none → H' b = none)
    (there : ∀ b o, b ∉ ch → s.heap.get? b = some o → ∃ o', h'.get? b = some o')
    (tups : ∀ b xs, H b = some (.tup xs) → H' b = some (.tup xs)) (frzs : ∀ b o u, H b = some (.frz o u) → H' b = some (.frz o u)) (tbls : ∀ b ps, H b = some (.tbl ps) → ∃ more, H' b = some (.tbl (ps ++ more)))
    (ns : ∀ m, s.heap.Ns X.env.locals m → h'.Ns X.env.locals m) (hok : HOk X.prog X.w H' h') (hg : AllBare g') :
    Inv X pins σ H' { s with heap := h', gens := g', drawn := d', toks := t' } := by
  have neL : ∀ b o, X.s₀.heap.get? b = some o → b ≠ X.env.locals := fun b o e => Nat.ne_of_lt (Nat.lt_of_lt_of_le (Heap.lt_size e) I.ok.above)
  have neC : ∀ b o, X.s₀.heap.get? b = some o → b ∉ X.ex → b ∉ ch := fun b o e hx hb => by
    rcases (hch b hb).1 with z | z
    · exact hx z
    · exact absurd (Nat.lt_of_lt_of_le (Heap.lt_size e) z) (Nat.lt_irrefl _)
  have cellK : ∀ x c, X.env.cells.lookup x = some c → ∀ v, s.heap.IsCell c v → h'.IsCell c v := fun x c e v ⟨o, ho, hd⟩ => by
    have nch : c ∉ ch := fun z => (hch c z).2.2.1 x c e rfl
    by_cases hc : c ∈ X.fs
    · obtain ⟨sl, q⟩ := slot c o (I.cne x c e) hc nch ho (I.freeC x c e)
      exact ⟨_, q, hd⟩
    · exact ⟨o, keep c o (I.cne x c e) hc nch ho (I.freeC x c e), hd⟩
  refine ⟨I.ok, I.os, hg, ⟨fun b o e n hb hx => ?_, fun b o e n hb hx => ?_, fun b o e n hx => ?_, fun b o e hx => ?_, fun b xs e => tups b xs (I.base.tups b xs e), fun b o xs e => frzs b o xs (I.base.frzs b o xs e), fun b ps e => ?_⟩, ?_, fun x c e => ?_, ?_, fun x c e => ?_, fun p hp => ?_, hok, I.len⟩
  · exact keep b o (neL b o e) hb (neC b o e hx) (I.base.keep b o e n hb hx) (I.base.free b o e n hx)
  · obtain ⟨sl, e1⟩ := I.base.slot b o e n hb hx
    obtain ⟨sl', e2⟩ := slot b _ (neL b o e) hb (neC b o e hx) e1 (I.base.free b o e n hx)
    exact ⟨sl', e2⟩
  · obtain ⟨o', e1⟩ := I.base.there b o e hx
    exact free b o' (neC b o e hx) e1 (I.base.free b o e n hx)
  · obtain ⟨o', e1⟩ := I.base.there b o e hx
    exact there b o' (neC b o e hx) e1
  · obtain ⟨m1, e1⟩ := I.base.tbls b ps e
    obtain ⟨m2, e2⟩ := tbls b _ e1
    exact ⟨m1 ++ m2, by rw [e2, Array.append_assoc]⟩
  · obtain ⟨m, hn, hl⟩ := I.loc
    refine ⟨m, ns m hn, fun i x v e1 e2 e3 => ?_⟩
    obtain ⟨u, r, l⟩ := hl i x v e1 e2 e3
    refine ⟨u, r, ?_⟩
    rcases l with l | ⟨k, c, e, z⟩
    · exact .inl l
    · exact .inr ⟨k, c, e, cellK x c e _ z⟩
  · obtain ⟨v, z⟩ := I.cell x c e
    exact ⟨v, cellK x c e v z⟩
  · obtain ⟨m, ⟨o, _, _, ho, _⟩, _⟩ := I.loc
    exact free _ o (fun z => (hch _ z).2.1 rfl) ho I.free
  · obtain ⟨v, o, ho, hd⟩ := I.cell x c e
    exact free c o (fun z => (hch c z).2.2.1 x c e rfl) ho (I.freeC x c e)
  · obtain ⟨e, n, ne, nf, d⟩ := I.pin p hp
    have nch : p.1 ∉ ch := fun z => (hch p.1 z).2.2.2 p hp rfl
    exact ⟨keep p.1 p.2 ne nf nch e n, free p.1 p.2 nch e n, ne, nf, d⟩
theorem Inv.un {t' : Nat} (I : Inv X pins σ H s) (u : Un X.fs [] H H' s.heap h') (hok : HOk X.prog X.w H' h') : Inv X pins σ H' { s with heap := h', toks := t' } := by
  obtain ⟨m, ⟨o, es, ep, ho, r⟩, _⟩ := id I.loc
  obtain ⟨sl, hL⟩ := u.any ho I.free (by simp)
  exact I.step (g' := s.gens) (d' := s.drawn) (ch := []) (fun _ z => nomatch z) (fun b o _ hb _ e n => u.keep b o e n hb (by simp)) (fun b o _ hb _ e n => u.slot b o e n hb (by simp)) (fun b o _ e n => u.free b o e n (by simp)) (fun b o _ e => u.there b o e (by simp)) u.tups u.frzs u.tbls (fun m' hm => by
    obtain ⟨o', es', ep', ho', r'⟩ := hm
    rw [ho] at ho'; cases ho'
    exact ⟨_, es', ep', hL, r'⟩) hok I.bare
theorem Inv.call {g' : Array GenState} {t' : Nat} {d' : Drawn} {ch : List Addr} (I : Inv X pins σ H s) (u : Un (frs X.stack) ch H H' s.heap h') (hok : HOk X.prog X.w H' h') (hg : AllBare g')
    (hch : ∀ b ∈ ch, (b ∈ X.ex ∨ X.s₀.heap.objs.size ≤ b) ∧ b ≠ X.env.locals ∧ (∀ x c, X.env.cells.lookup x = some c → c ≠ b) ∧ ∀ p ∈ X.pn ++ pins, p.1 ≠ b) :
    Inv X pins σ H' { s with heap := h', gens := g', drawn := d', toks := t' } := by
  obtain ⟨m, ⟨o, es, ep, ho, r⟩, _⟩ := id I.loc
  obtain ⟨sl, hL⟩ := u.any ho I.free fun z => (hch _ z).2.1 rfl
  exact I.step (ch := ch) hch (fun b o hL hb hc e n => u.keep b o e n (fun z => (List.mem_cons.mp (I.stkSub b z)).elim hL hb) hc) (fun b o _ _ hc e n => u.any e n hc) (fun b o hc e n => u.free b o e n hc) (fun b o hc e => u.there b o e hc) u.tups u.frzs u.tbls (fun m' hm => by
    obtain ⟨o', es', ep', ho', r'⟩ := hm
    rw [ho] at ho'; cases ho'
    exact ⟨_, es', ep', hL, r'⟩) hok hg
theorem Inv.turned {t' : Nat} {it : Addr} (I : Inv X pins σ H s) (k : ∀ b o, b ≠ it → s.heap.get? b = some o → h'.get? b = some o) (hn : H it = none) (hL : it ≠ X.env.locals)
    (h1 : it ∈ X.ex ∨ X.s₀.heap.objs.size ≤ it) (h2 : ∀ x c, X.env.cells.lookup x = some c → c ≠ it) (h3 : ∀ p ∈ X.pn ++ pins, p.1 ≠ it) : Inv X pins σ H { s with heap := h', toks := t' } := by
  have nit : ∀ b u, H b = some u → b ≠ it := fun b u e z => by rw [z, hn] at e; cases e
  refine I.step (g' := s.gens) (d' := s.drawn) (ch := [it]) (fun b hb => ?_) (fun b o _ _ hc e _ => k b o (fun z => hc (by simp [z])) e) (fun b o _ _ hc e _ => ⟨o.slots, k b o (fun z => hc (by simp [z])) e⟩) (fun _ _ _ _ n => n)
    (fun b o hc e => ⟨o, k b o (fun z => hc (by simp [z])) e⟩) (fun _ _ e => e) (fun _ _ _ e => e) (fun b ps e => ⟨#[], by rw [e]; simp⟩) (fun m hm => ?_) (fun b u e => ?_) I.bare
  · have e : b = it := by simpa using hb
    subst e
    exact ⟨h1, hL, h2, h3⟩
  · obtain ⟨o, es, ep, ho, r⟩ := hm
    exact ⟨o, es, ep, k _ o (Ne.symm hL) ho, r⟩
  · refine (I.hok b u e).stay (fun c v hc q => k c v ?_ q) (fun _ q => q) fun _ _ q => q
    rcases hc with z | z
    · rw [z]; exact nit b u e
    · exact nit c _ z
theorem Inv.tok (I : Inv X pins σ H s) (t : Nat) : Inv X pins σ H { s with toks := t } := I.un (h' := s.heap) (t' := t) Un.refl I.hok
theorem Inv.kept {t' : Nat} (I : Inv X pins σ H s) (k : ∀ b u, s.heap.get? b = some u → h'.get? b = some u) : Inv X pins σ H { s with heap := h', toks := t' } := I.un (Un.kept k) (I.hok.kept k)
theorem Inv.laid {a : Addr} {o : HO} {t' : Nat} (I : Inv X pins σ H s) (k : ∀ b u, s.heap.get? b = some u → h'.get? b = some u) (hp : s.heap.objs.size ≤ a) (new : ObjOk X.prog X.w (upd H a o) h' a o) :
    Inv X pins σ (upd H a o) { s with heap := h', toks := t' } := I.un (Un.laid k hp (I.hok.fresh hp)) (I.hok.laid k hp new)
theorem Inv.write {x e : Addr} {o : HO} {t' : Nat} (I : Inv X pins σ H s) (mu : Mut (H x)) (he : e = x ∨ H e = some (.own x)) (k : ∀ b u, b ≠ e → s.heap.get? b = some u → h'.get? b = some u) (heo : ∃ u, h'.get? e = some u)
    (new : ObjOk X.prog X.w (upd H x o) h' x o) : Inv X pins σ (upd H x o) { s with heap := h', toks := t' } := I.un (Un.write mu he k heo) (I.hok.write mu he k heo new)
theorem Inv.weak {σ' : List (Option V)} (I : Inv X pins σ H s) (hl : σ'.length = σ.length) (w : ∀ (i : Nat) v, σ'[i]? = some (some v) → σ[i]? = some (some v)) : Inv X pins σ' H s :=
  ⟨I.ok, I.os, I.bare, I.base, let ⟨m, hn, hl'⟩ := I.loc; ⟨m, hn, fun i x v e1 e2 e3 => hl' i x v e1 (w i v e2) e3⟩, I.cell, I.free, I.freeC, I.pin, I.hok, hl.trans I.len⟩
theorem Inv.pins_of {pins' : List (Addr × Obj)} (I : Inv X pins σ H s) (h : ∀ p ∈ pins', s.heap.get? p.1 = some p.2 ∧ H p.1 = none ∧ p.1 ≠ X.env.locals ∧ p.1 ∉ X.fs ∧ ∀ v, p.2.data ≠ .cell v) : Inv X pins' σ H s :=
  ⟨I.ok, I.os, I.bare, I.base, I.loc, I.cell, I.free, I.freeC, fun p hp => (List.mem_append.mp hp).elim (fun z => I.pin p (List.mem_append_left _ z)) (h p), I.hok, I.len⟩
theorem nodup_ix {N : List Str} (hN : N.Nodup) {i j : Nat} {x : Str} (a : N[i]? = some x) (b : N[j]? = some x) : i = j := by
  obtain ⟨h1, e1⟩ := List.getElem?_eq_some_iff.mp a
  obtain ⟨h2, e2⟩ := List.getElem?_eq_some_iff.mp b
  exact (List.getElem_inj hN).mp (e1.trans e2.symm)
theorem store_ok2 {M : Model} {A : Around} {E : Value → Shared → Prop} {i : Nat} {x : Str} {v : V} {u : Value} {Q : Unit → Shared → Prop} (I : Inv X pins σ H s) (hN : X.N.Nodup) (hi : X.N[i]? = some x) (hx : Loc X.env.scope x) (r : RelV v u)
    (h : ∀ s', Inv X pins (σ.set i (some v)) H s' → (∃ a, Heap.SameBut a s.heap s'.heap ∧ (a = X.env.locals ∨ X.env.cells.lookup x = some a)) → Q () s') (hf : X.fn x = true ∨ X.env.scope.names.lookup x = some .local := by first | exact .inl rfl | exact .inr rfl | assumption) : wpAny M A (storeName X.env x u) Q E s := by
  obtain ⟨m, hn, hl⟩ := id I.loc
  have hcls : (X.env.scope.kind == .class || (X.env.scope.kind == .module && X.env.locals != X.env.globals)) = false := by rw [I.ok.kind]; rfl
  have hiσ : i < σ.length := by rw [I.len]; exact (List.getElem?_eq_some_iff.mp hi).1
  have cne := I.cne
  have tracked : ∀ {a : Addr} {h' : Heap}, (∃ o, s.heap.get? a = some o ∧ H a = none) → Heap.SameBut a s.heap h' → HOk X.prog X.w H h' := fun {a h'} ha hs b ob e => by
    obtain ⟨_, _, hfree⟩ := ha
    refine (I.hok b ob e).stay (fun c w' hc q => (hs.2 c ?_).trans q) (fun _ q => q) fun _ _ q => q
    rintro rfl
    rcases hc with rfl | hc
    · rw [hfree] at e; cases e
    · rw [hfree] at hc; cases hc
  rcases hx with hk | hk
  · refine wpAny_storeName_local hk hn (fun h' hn' hs => ?_) hcls
    obtain ⟨oL, _, _, hoL, _⟩ := id hn
    refine h _ ⟨I.ok, I.os, I.bare, ⟨fun b o e n hb hx => ?_, fun b o e n hb hx => ?_, I.base.free, fun b o e hx => ?_, I.base.tups, I.base.frzs, I.base.tbls⟩, ⟨_, hn', fun j y v' e1 e2 e3 => ?_⟩, fun y c e => ?_, I.free, I.freeC, fun p hp => ?_, tracked ⟨oL, hoL, I.free⟩ hs, by simpa using I.len⟩ ⟨_, hs, .inl rfl⟩
    · exact (hs.2 b (Nat.ne_of_lt (Nat.lt_of_lt_of_le (Heap.lt_size e) I.ok.above))).trans (I.base.keep b o e n hb hx)
    · obtain ⟨sl, e1⟩ := I.base.slot b o e n hb hx
      exact ⟨sl, (hs.2 b (Nat.ne_of_lt (Nat.lt_of_lt_of_le (Heap.lt_size e) I.ok.above))).trans e1⟩
    · obtain ⟨o', e1⟩ := I.base.there b o e hx
      exact ⟨o', (hs.2 b (Nat.ne_of_lt (Nat.lt_of_lt_of_le (Heap.lt_size e) I.ok.above))).trans e1⟩
    · by_cases hj : j = i
      · subst hj
        rw [hi] at e1; cases e1
        rw [List.getElem?_set_self hiσ] at e2
        cases e2
        exact ⟨u, r, .inl ⟨hk, by simp⟩⟩
      · rw [List.getElem?_set_ne (Ne.symm hj)] at e2
        obtain ⟨u', r', q⟩ := hl j y v' e1 e2 e3
        refine ⟨u', r', ?_⟩
        rcases q with ⟨k, e⟩ | ⟨k, c, e, z⟩
        · refine .inl ⟨k, ?_⟩
          have : y ≠ x := fun e => hj (nodup_ix hN e1 (e ▸ hi))
          simp [this, e]
        · exact .inr ⟨k, c, e, z.sameBut hs (cne y c e)⟩
    · obtain ⟨w', z⟩ := I.cell y c e
      exact ⟨w', z.sameBut hs (cne y c e)⟩
    · obtain ⟨e, n, ne, nf, d⟩ := I.pin p hp
      exact ⟨(hs.2 p.1 ne).trans e, n, ne, nf, d⟩
  · have hfn : X.fn x = true := by
      rcases hf with z | z
      · exact z
      · rw [z] at hk; cases hk
    obtain ⟨c, hc⟩ := I.ok.has x (.inl hk)
    obtain ⟨w', z⟩ := I.cell x c hc
    refine wpAny_storeName_cell I.ok.kind hk hc z (fun h' hc' hs => ?_)
    obtain ⟨oc, hoc, hocd⟩ := id z
    refine h { s with heap := h' } ⟨I.ok, I.os, I.bare, ⟨fun b o e n hb hx => ?_, fun b o e n hb hx => ?_, I.base.free, fun b o e hx => ?_, I.base.tups, I.base.frzs, I.base.tbls⟩, ⟨m, hn.sameBut hs (Ne.symm (cne x c hc)), fun j y v' e1 e2 e3 => ?_⟩, fun y c' e => ?_, I.free, I.freeC, fun p hp => ?_, tracked ⟨oc, hoc, I.freeC x c hc⟩ hs, by simpa using I.len⟩ ⟨c, hs, .inr hc⟩
    · exact (hs.2 b (Nat.ne_of_lt (Nat.lt_of_lt_of_le (Heap.lt_size e) (I.ok.cab x c hfn hc)))).trans (I.base.keep b o e n hb hx)
    · obtain ⟨sl, e1⟩ := I.base.slot b o e n hb hx
      exact ⟨sl, (hs.2 b (Nat.ne_of_lt (Nat.lt_of_lt_of_le (Heap.lt_size e) (I.ok.cab x c hfn hc)))).trans e1⟩
    · obtain ⟨o', e1⟩ := I.base.there b o e hx
      exact ⟨o', (hs.2 b (Nat.ne_of_lt (Nat.lt_of_lt_of_le (Heap.lt_size e) (I.ok.cab x c hfn hc)))).trans e1⟩
    · by_cases hj : j = i
      · subst hj
        rw [hi] at e1; cases e1
        rw [List.getElem?_set_self hiσ] at e2
        cases e2
        exact ⟨u, r, .inr ⟨.inl hk, c, hc, hc'⟩⟩
      · rw [List.getElem?_set_ne (Ne.symm hj)] at e2
        obtain ⟨u', r', q⟩ := hl j y v' e1 e2 e3
        refine ⟨u', r', ?_⟩
        rcases q with q | ⟨k, c', e, z'⟩
        · exact .inl q
        · refine .inr ⟨k, c', e, z'.sameBut hs ?_⟩
          rintro rfl
          exact hj (nodup_ix hN e1 (I.ok.inj _ _ _ e hc ▸ hi))
    · by_cases hcc : c' = c
      · subst hcc; exact ⟨_, hc'⟩
      · obtain ⟨w2, z2⟩ := I.cell y c' e
        exact ⟨w2, z2.sameBut hs hcc⟩
    · obtain ⟨e, n, ne, nf, d⟩ := I.pin p hp
      refine ⟨(hs.2 p.1 ?_).trans e, n, ne, nf, d⟩
      intro q
      rw [q, hoc] at e
      have q' : oc = p.2 := Option.some.inj e
      exact d w' (by rw [← q']; exact hocd)
theorem store_ok {M : Model} {A : Around} {E : Value → Shared → Prop} {i : Nat} {x : Str} {v : V} {u : Value} {Q : Unit → Shared → Prop} (I : Inv X pins σ H s) (hN : X.N.Nodup) (hi : X.N[i]? = some x) (hx : Loc X.env.scope x) (r : RelV v u)
    (h : ∀ s', Inv X pins (σ.set i (some v)) H s' → Q () s') (hf : X.fn x = true ∨ X.env.scope.names.lookup x = some .local := by first | exact .inl rfl | exact .inr rfl | assumption) : wpAny M A (storeName X.env x u) Q E s :=
  store_ok2 I hN hi hx r (fun s' I' _ => h s' I') hf
theorem Inv.call' {s' : Shared} {ch : List Addr} (I : Inv X pins σ H s) (ho : s'.os = s.os) (u : Un (frs X.stack) ch H H' s.heap s'.heap) (hok : HOk X.prog X.w H' s'.heap) (hg : AllBare s'.gens)
    (hch : ∀ b ∈ ch, (b ∈ X.ex ∨ X.s₀.heap.objs.size ≤ b) ∧ b ≠ X.env.locals ∧ (∀ x c, X.env.cells.lookup x = some c → c ≠ b) ∧ ∀ p ∈ X.pn ++ pins, p.1 ≠ b) : Inv X pins σ H' s' := by
  obtain ⟨h', g', d', t', o'⟩ := s'
  have e : o' = s.os := ho
  subst e
  exact I.call (g' := g') (t' := t') (d' := d') u hok hg hch
end
abbrev XK := Value → Option Addr → Hp → Prop
abbrev St := List (Option V)
abbrev VK := V → Hp → Prop
abbrev TE := St → Hp → VK → Prop
abbrev TT := St → Hp → (Bool → Hp → Prop) → Prop
abbrev TA := St → Hp → (List V → Hp → Prop) → Prop
structure Ends where
  nx : St → Hp → Prop
  rt : VK
  bk : St → Hp → Prop := fun _ _ => False
  ct : St → Hp → Prop := fun _ _ => False
abbrev TS := Ends → St → Hp → Prop
def EP (X : Cx) (pins : List (Addr × Obj)) (σ : St) (Q : VK) (u : Value) (s' : Shared) : Prop := ∃ v H', Inv X pins σ H' s' ∧ RelV v u ∧ Q v H'
def TP (X : Cx) (pins : List (Addr × Obj)) (σ : St) (Q : Bool → Hp → Prop) (b : Bool) (s' : Shared) : Prop := ∃ H', Inv X pins σ H' s' ∧ Q b H'
def AP (X : Cx) (pins : List (Addr × Obj)) (σ : St) (Q : List V → Hp → Prop) (us : List Value) (s' : Shared) : Prop := ∃ vs H', Inv X pins σ H' s' ∧ Vals vs us ∧ Q vs H'
def SP (X : Cx) (pins : List (Addr × Obj)) (D : Ends) (f : Flow) (s' : Shared) : Prop :=
  match f with
  | .next => ∃ σ' H', Inv X pins σ' H' s' ∧ D.nx σ' H'
  | .brk => ∃ σ' H', Inv X pins σ' H' s' ∧ D.bk σ' H'
  | .cont => ∃ σ' H', Inv X pins σ' H' s' ∧ D.ct σ' H'
  | .ret u => ∃ v σ' H', Inv X pins σ' H' s' ∧ RelV v u ∧ D.rt v H'
def PE (X : Cx) (e : Expr) (t : TE) : Prop :=
  ∀ (pins : List (Addr × Obj)) (s : Shared) (σ : St) (H : Hp) (Q : VK), Inv X pins σ H s → t σ H Q → wpAny (model X.prog X.w) X.A (eval e X.env) (EP X pins σ Q) X.xe s
def PT (X : Cx) (e : Expr) (t : TT) : Prop :=
  ∀ (pins : List (Addr × Obj)) (s : Shared) (σ : St) (H : Hp) (Q : Bool → Hp → Prop), Inv X pins σ H s → t σ H Q → wpAny (model X.prog X.w) X.A (isTrue e X.env (eval e X.env)) (TP X pins σ Q) X.xe s
def PW (X : Cx) (e : Expr) (t : TT) : Prop :=
  ∀ (whole : Sem Value) (pins : List (Addr × Obj)) (s : Shared) (σ : St) (H : Hp) (Q : Bool → Hp → Prop), Inv X pins σ H s → t σ H Q → wpAny (model X.prog X.w) X.A (isTrue e X.env whole) (TP X pins σ Q) X.xe s
theorem PW.pt {X : Cx} {e : Expr} {t : TT} (h : PW X e t) : PT X e t := h _
def PA (X : Cx) (es : List Expr) (t : TA) : Prop :=
  ∀ (pos : Pos) (pins : List (Addr × Obj)) (s : Shared) (σ : St) (H : Hp) (Q : List V → Hp → Prop), Inv X pins σ H s → t σ H Q → wpAny (model X.prog X.w) X.A (spliced (backTo pos (starEach es X.env))) (AP X pins σ Q) X.xe s
def PS (X : Cx) (st : Stmt) (t : TS) : Prop :=
  ∀ (pins : List (Addr × Obj)) (s : Shared) (σ : St) (H : Hp) (D : Ends), Inv X pins σ H s → t D σ H → wpAny (model X.prog X.w) X.A (exec st X.env) (SP X pins D) X.xe s
def PSs (X : Cx) (st : List Stmt) (t : TS) : Prop :=
  ∀ (pins : List (Addr × Obj)) (s : Shared) (σ : St) (H : Hp) (D : Ends), Inv X pins σ H s → t D σ H → wpAny (model X.prog X.w) X.A (execs st X.env) (SP X pins D) X.xe s
theorem thn {α : Type} {t : Sem α} {Q Q' : α → Shared → Prop} {M : Model} {A : Around} {E : Value → Shared → Prop} {s : Shared} (h : wpAny M A t Q E s) (hQ : ∀ a s, Q a s → Q' a s) : wpAny M A t Q' E s := wpAny_mono h hQ fun _ _ x => x
end L2
namespace L2
open PySem PySem.Spec PyProof.Rows
section
variable {X : Cx}
def tVar (i : Nat) : TE := fun σ H Q => ∃ v, σ[i]? = some (some v) ∧ Q v H
def tC (v : V) : TE := fun _ H Q => Q v H
theorem pe_var {i : Nat} {x : Str} {pos : Pos} (hN : X.N[i]? = some x) (hv : Vis X.env.scope x) (hd : (x == ("__debug__" : Str)) = false := by decide) (hcd : (x == ("__classdict__" : Str)) = false := by decide) : PE X (.Name x pos) (tVar i) := by
  intro pins s σ H Q I h
  obtain ⟨v, e, h⟩ := h
  obtain ⟨m, hn, hl⟩ := I.loc
  obtain ⟨u, r, l⟩ := hl i x v hN e hv
  have fin : EP X pins σ Q u s := ⟨v, H, I, r, h⟩
  rcases l with ⟨hk, hm⟩ | ⟨hk, c, hc, hcell⟩
  · exact wpAny_Name (wpAny_loadName_local I.ok.kind hk hn hm fin) hd
  · rcases hk with hk | hk
    · exact wpAny_Name (wpAny_loadName_cell I.ok.kind hk hc hcell fin) hd
    · exact wpAny_Name (wpAny_loadName_free I.ok.kind hk hc hcell fin hcd) hd
theorem pe_int {i j pos} : PE X (.Constant (.int i) j pos) (tC (.int i)) := fun _ _ _ H _ I h => wpAny_Constant_int ⟨.int i, H, I.tok _, ⟨_, rfl⟩, h⟩
theorem pe_bl {b j pos} : PE X (.Constant (.bool b) j pos) (tC (.bl b)) := fun _ _ _ H _ I h => Constant_bool ⟨.bl b, H, I, rfl, h⟩
theorem pe_non {j pos} : PE X (.Constant .none j pos) (tC .non) := fun _ _ _ H _ I h => Constant_none ⟨.non, H, I, rfl, h⟩
theorem pe_str {x j pos} : PE X (.Constant (.str x) j pos) (tC (.str x)) := fun _ _ _ H _ I h => Calls.Constant_str ⟨.str x, H, I.tok _, ⟨_, rfl⟩, h⟩
def Gl (X : Cx) (x : Str) : Prop := X.env.kindOf x = some .globalImplicit
theorem ld_glob {E : Value → Shared → Prop} {pins : List (Addr × Obj)} {s : Shared} {σ : St} {H : Hp} {x : Str} {u : Value} {pos : Pos} {Q : Value → Shared → Prop} (I : Inv X pins σ H s) (hg : Gl X x) (hm : X.mg x = some u) (h : Q u s)
    (hd : (x == ("__debug__" : Str)) = false := by decide) : wpAny (model X.prog X.w) X.A (eval (.Name x pos) X.env) Q E s :=
  Calls.Name_function_global I.ok.kind hg (Calls.loadGlobal_global (by rw [I.ok.glob]; exact I.mod.glob.keeps I.bk) hm h) hd
theorem ld_blt {E : Value → Shared → Prop} {pins : List (Addr × Obj)} {s : Shared} {σ : St} {H : Hp} {x : Str} {u : Value} {pos : Pos} {Q : Value → Shared → Prop} (I : Inv X pins σ H s) (hg : Gl X x) (hm : X.mg x = none) (hv : bootBuiltins x = some u) (h : Q u s)
    (hn : x ≠ "__name__" := by decide) (hd : (x == ("__debug__" : Str)) = false := by decide) : wpAny (model X.prog X.w) X.A (eval (.Name x pos) X.env) Q E s := by
  obtain ⟨mb, h1, h2⟩ := I.mod.blt
  exact Calls.Name_function_global I.ok.kind hg (Calls.loadGlobal_builtin (by rw [I.ok.glob]; exact I.mod.glob.keeps I.bk) hm (by rw [I.ok.blt]; exact h1.keeps I.bk) ((h2 x hn).trans hv) h) hd
theorem pe_glob {x : Str} {v : V} {u : Value} {pos : Pos} (hg : Gl X x) (hm : X.mg x = some u) (r : RelV v u) (hd : (x == ("__debug__" : Str)) = false := by decide) : PE X (.Name x pos) (tC v) :=
  fun _ _ _ H _ I h => ld_glob I hg hm ⟨v, H, I, r, h⟩ hd
theorem pe_bltn {x : Str} {v : V} {u : Value} {pos : Pos} (hg : Gl X x) (hm : X.mg x = none) (hv : bootBuiltins x = some u) (r : RelV v u) (hn : x ≠ "__name__" := by decide) (hd : (x == ("__debug__" : Str)) = false := by decide) : PE X (.Name x pos) (tC v) :=
  fun _ _ _ H _ I h => ld_blt I hg hm hv ⟨v, H, I, r, h⟩ hn hd
variable {a b : Expr} {ta tb : TE} {pos : Pos}
def PC (X : Cx) (op : CmpOp) (a b : Expr) (t : TE) : Prop :=
  ∀ (pins : List (Addr × Obj)) (s : Shared) (σ : St) (H : Hp) (Q : VK), Inv X pins σ H s → t σ H Q →
    wpAny (model X.prog X.w) X.A (eval a X.env) (fun v s₁ => wpAny (model X.prog X.w) X.A (eval b X.env) (fun u s₂ => wpAny (model X.prog X.w) X.A (compareOp op v u) (EP X pins σ Q) X.xe s₂) X.xe s₁) X.xe s
theorem nobehind (b : Expr) {op : CmpOp} (h : op ≠ .In) (h2 : op ≠ .NotIn) : behindInMarks op b = false := by
  have e1 : (op == CmpOp.In) = false := by cases op <;> first | rfl | exact absurd rfl h
  have e2 : (op == CmpOp.NotIn) = false := by cases op <;> first | rfl | exact absurd rfl h2
  cases b <;> simp [behindInMarks, e1, e2]
def tIsN (ta : TE) : TE := fun σ H Q => ta σ H fun x H1 => Q (.bl (decide (x = .non))) H1
theorem RelV.none_iff {x : V} {v : Value} (r : RelV x v) : (v == Value.none) = decide (x = .non) := by
  cases x with
  | non => cases r; rfl
  | bl _ => cases r; rfl
  | int _ => obtain ⟨t, rfl⟩ := r; rfl
  | str _ => obtain ⟨t, rfl⟩ := r; rfl
  | byt _ => obtain ⟨t, rfl⟩ := r; rfl
  | flt _ => obtain ⟨t, rfl⟩ := r; rfl
  | ref _ => cases r; rfl
  | ty _ => cases r; rfl
theorem pc_isN {j pos'} (ha : PE X a ta) : PC X .Is a (.Constant .none j pos') (tIsN ta) := by
  intro pins s σ H Q I h
  refine thn (ha pins s σ H _ I h) fun v s1 hm0 => ?_
  obtain ⟨x, H1, I1, r1, q1⟩ := hm0
  exact Constant_none (is_none_gen ⟨.bl _, H1, I1, by rw [r1.none_iff]; rfl, q1⟩)
def tB (t : TE) : TT := fun σ H Q => t σ H fun x H1 => ∃ c, x = .bl c ∧ Q c H1
theorem pe_cmp {op : CmpOp} {t : TE} (h : PC X op a b t) (h1 : behindInMarks op b = false := by first | exact nobehind _ (by decide) (by decide) | rfl) : PE X (.Compare a [op] [b] pos) t := fun pins s σ H Q I hw => wpAny_Compare1 (h pins s σ H Q I hw) h1
theorem pt_cmp {op : CmpOp} {t : TE} (h : PC X op a b t) (h1 : behindInMarks op b = false := by first | exact nobehind _ (by decide) (by decide) | rfl) : PT X (.Compare a [op] [b] pos) (tB t) := by
  intro pins s σ H Q I hw
  refine wpAny_isTrue_Compare1 (thn (h pins s σ H _ I hw) fun v s1 h1 => thn h1 fun u s2 h2 => thn h2 fun c s3 hm0 => ?_) h1
  obtain ⟨x, H1, I1, r1, q1⟩ := hm0
  obtain ⟨d, rfl, q⟩ := q1
  cases r1
  exact wpAny_truthy_bool ⟨H1, I1, q⟩
theorem pt_val {e : Expr} {t : TE} (h : PE X e t) (he : ∀ whole, isTrue e X.env whole = (do let v ← whole; standAt e.pos; holding [v] (truthy v)) := by intro _; rfl) : PT X e (tB t) := by
  intro pins s σ H Q I hw
  refine isTrue_plain (thn (h pins s σ H _ I hw) fun v s1 hm0 => ?_) (he _)
  obtain ⟨x, H1, I1, r1, q1⟩ := hm0
  obtain ⟨d, rfl, q⟩ := q1
  cases r1
  exact wpAny_truthy_bool ⟨H1, I1, q⟩
variable {tA tB' : TT} {rest : List Expr}
def tAnd (t u : TT) : TT := fun σ H Q => t σ H fun c H1 => if c = true then u σ H1 Q else Q false H1
def tOr (t u : TT) : TT := fun σ H Q => t σ H fun c H1 => if c = true then Q true H1 else u σ H1 Q
def tNot (t : TT) : TT := fun σ H Q => t σ H fun c H1 => Q (!c) H1
theorem pw_and1 (ha : PT X a tA) : PW X (.BoolOp .And [a] pos) tA := by
  intro wh pins s σ H Q I h
  refine isTrue_and (thn (ha pins s σ H Q I h) fun c s1 e => ?_)
  cases c with
  | true => exact isTrue_and_nil e
  | false => exact e
theorem pw_or1 (ha : PT X a tA) : PW X (.BoolOp .Or [a] pos) tA := by
  intro wh pins s σ H Q I h
  refine isTrue_or (thn (ha pins s σ H Q I h) fun c s1 e => ?_)
  cases c with
  | false => exact isTrue_or_nil e
  | true => exact e
theorem pw_and (ha : PT X a tA) (hb : PW X (.BoolOp .And (b :: rest) pos) tB') : PW X (.BoolOp .And (a :: b :: rest) pos) (tAnd tA tB') := by
  intro wh pins s σ H Q I h
  refine isTrue_and (thn (ha pins s σ H _ I h) fun c s1 hm0 => ?_)
  obtain ⟨H1, I1, q1⟩ := hm0
  cases c with
  | true => exact hb wh pins s1 σ H1 Q I1 q1
  | false => exact ⟨H1, I1, q1⟩
theorem pw_or (ha : PT X a tA) (hb : PW X (.BoolOp .Or (b :: rest) pos) tB') : PW X (.BoolOp .Or (a :: b :: rest) pos) (tOr tA tB') := by
  intro wh pins s σ H Q I h
  refine isTrue_or (thn (ha pins s σ H _ I h) fun c s1 hm0 => ?_)
  obtain ⟨H1, I1, q1⟩ := hm0
  cases c with
  | true => exact ⟨H1, I1, q1⟩
  | false => exact hb wh pins s1 σ H1 Q I1 q1
theorem pt_not (ha : PT X a tA) : PT X (.UnaryOp .Not a pos) (tNot tA) := by
  intro pins s σ H Q I h
  exact isTrue_not (ha pins s σ H (fun c H1 => Q (!c) H1) I h)
def tAndV (ta tb : TE) : TE := fun σ H Q => ta σ H fun x H1 => ∃ c, x = .bl c ∧ if c = true then tb σ H1 Q else Q (.bl false) H1
def tOrV (ta tb : TE) : TE := fun σ H Q => ta σ H fun x H1 => ∃ c, x = .bl c ∧ if c = true then Q (.bl true) H1 else tb σ H1 Q
def tNotV (ta : TE) : TE := fun σ H Q => ta σ H fun x H1 => ∃ c, x = .bl c ∧ Q (.bl (!c)) H1
theorem pe_one {op} {t : TE} (h : PE X a t) : PE X (.BoolOp op [a] pos) t := fun pins s σ H Q I hw => BoolOp_one (h pins s σ H Q I hw)
theorem pe_and (ha : PE X a ta) (hb : PE X (.BoolOp .And (b :: rest) pos) tb) : PE X (.BoolOp .And (a :: b :: rest) pos) (tAndV ta tb) := by
  intro pins s σ H Q I h
  refine BoolOp_and (thn (ha pins s σ H _ I h) fun v s1 hm0 => ?_)
  obtain ⟨x, H1, I1, r1, q1⟩ := hm0
  obtain ⟨c, rfl, q1⟩ := q1
  cases r1
  refine wpAny_truthy_bool ?_
  cases c with
  | true => exact hb pins s1 σ H1 Q I1 q1
  | false => exact ⟨.bl false, H1, I1, rfl, q1⟩
theorem pe_or (ha : PE X a ta) (hb : PE X (.BoolOp .Or (b :: rest) pos) tb) : PE X (.BoolOp .Or (a :: b :: rest) pos) (tOrV ta tb) := by
  intro pins s σ H Q I h
  refine BoolOp_or (thn (ha pins s σ H _ I h) fun v s1 hm0 => ?_)
  obtain ⟨x, H1, I1, r1, q1⟩ := hm0
  obtain ⟨c, rfl, q1⟩ := q1
  cases r1
  refine wpAny_truthy_bool ?_
  cases c with
  | false => exact hb pins s1 σ H1 Q I1 q1
  | true => exact ⟨.bl true, H1, I1, rfl, q1⟩
theorem pe_not (ha : PE X a ta) : PE X (.UnaryOp .Not a pos) (tNotV ta) := by
  intro pins s σ H Q I h
  refine UnaryOp_ (thn (ha pins s σ H _ I h) fun v s1 hm0 => ?_)
  obtain ⟨x, H1, I1, r1, q1⟩ := hm0
  obtain ⟨c, rfl, q1⟩ := q1
  cases r1
  exact not_of (wpAny_truthy_bool ⟨.bl (!c), H1, I1, rfl, q1⟩)
def tIf (t : TT) (ta tb : TE) : TE := fun σ H Q => t σ H fun c H1 => if c = true then ta σ H1 Q else tb σ H1 Q
theorem pe_ifExp {c : Expr} (hc : PT X c tA) (ha : PE X a ta) (hb : PE X b tb) : PE X (.IfExp c a b pos) (tIf tA ta tb) := by
  intro pins s σ H Q I h
  refine wpAny_IfExp (thn (hc pins s σ H _ I h) fun d s1 hm0 => ?_)
  obtain ⟨H1, I1, q1⟩ := hm0
  cases d with
  | true => exact ha pins s1 σ H1 Q I1 q1
  | false => exact hb pins s1 σ H1 Q I1 q1
end
end L2
namespace L2
open PySem PySem.Spec PyProof.Rows
def SqL (K : PySem.W.Frag) (H : Hp) (a : Addr) (xs : List V) : Prop :=
  Rd H a (.lst xs) ∨
    ∃ (o : Obj) (its : Array Value) (n : Nat), K.lookup a = some o ∧ o.cls = .type "list" ∧ o.dict = none ∧ o.data = .seq its n ∧ its.size ≤ sizeLine ∧ Vals xs its.toList
def SqT (K : PySem.W.Frag) (H : Hp) (a : Addr) (xs : List V) : Prop :=
  Rd H a (.tup xs) ∨
    ∃ (o : Obj) (its : Array Value) (n : Nat), K.lookup a = some o ∧ o.cls = .type "tuple" ∧ o.data = .seq its n ∧ its.size ≤ sizeLine ∧ Vals xs its.toList
def absV : Value → Option V
  | .none => some .non
  | .bool b => some (.bl b)
  | .int i _ => some (.int i)
  | .str x _ => some (.str x)
  | .bytes b _ => some (.byt b)
  | .float b _ => some (.flt b)
  | .ref a => some (.ref a)
  | .type n => some (.ty n)
  | _ => none
theorem RelV.abs {x : V} {u : Value} (r : RelV x u) : absV u = some x := by
  cases x with
  | non => cases r; rfl
  | bl _ => cases r; rfl
  | int _ => obtain ⟨t, rfl⟩ := r; rfl
  | str _ => obtain ⟨t, rfl⟩ := r; rfl
  | byt _ => obtain ⟨t, rfl⟩ := r; rfl
  | flt _ => obtain ⟨t, rfl⟩ := r; rfl
  | ref _ => cases r; rfl
  | ty _ => cases r; rfl
theorem RelV.inj {x y : V} {u : Value} (r : RelV x u) (q : RelV y u) : x = y := Option.some.inj (r.abs.symm.trans q.abs)
theorem Vals.inj : ∀ {xs ys : List V} {us : List Value}, Vals xs us → Vals ys us → xs = ys
  | _, _, _, .nil, .nil => rfl
  | _, _, _, .cons r t, .cons r' t' => by rw [r.inj r', Vals.inj t t']
section
variable {X : Cx} {pins : List (Addr × Obj)} {σ : St} {H : Hp} {s : Shared} {a : Addr} {xs ys : List V}
theorem SqL.of {K : PySem.W.Frag} (h : H a = some (.lst xs)) : SqL K H a xs := .inl (.inl h)
theorem SqT.of {K : PySem.W.Frag} (h : H a = some (.tup xs)) : SqT K H a xs := .inl (.inl h)
theorem Inv.list (I : Inv X pins σ H s) (h : SqL X.K H a xs) : ∃ its : List Value, Vals xs its ∧ PlainL s.heap a its.toArray ∧ xs.length ≤ sizeLine := by
  rcases h with h | ⟨o, its, n, hk, hc, hd, hs, hz, r⟩
  · obtain ⟨z, its, n, r, e⟩ := h.ok I.hok
    exact ⟨its, r, ⟨_, n, e, rfl, rfl, rfl⟩, z⟩
  · refine ⟨its.toList, r, ⟨o, n, I.kIn a o hk, hc, hd, by simpa using hs⟩, ?_⟩
    have e := r.length
    simp only [Array.length_toList] at e
    omega
theorem Inv.tuple (I : Inv X pins σ H s) (h : SqT X.K H a xs) : ∃ its : List Value, Vals xs its ∧ IsTup s.heap a its.toArray ∧ xs.length ≤ sizeLine := by
  rcases h with h | ⟨o, its, n, hk, hc, hs, hz, r⟩
  · obtain ⟨z, its, r, p⟩ := h.ok I.hok
    exact ⟨its, r, p, z⟩
  · refine ⟨its.toList, r, ⟨o, I.kIn a o hk, hc, n, by simpa using hs⟩, ?_⟩
    have e := r.length
    simp only [Array.length_toList] at e
    omega
theorem Inv.list_inj (I : Inv X pins σ H s) (h : SqL X.K H a xs) (h' : SqL X.K H a ys) : xs = ys := by
  obtain ⟨its, r, ⟨o, n, e, _, _, d⟩, _⟩ := I.list h
  obtain ⟨its', r', ⟨o', n', e', _, _, d'⟩, _⟩ := I.list h'
  rw [e] at e'; cases e'
  rw [d] at d'
  injection d' with d1 _
  have : its = its' := by simpa using congrArg Array.toList d1
  subst this
  exact r.inj r'
theorem Inv.tuple_inj (I : Inv X pins σ H s) (h : SqT X.K H a xs) (h' : SqT X.K H a ys) : xs = ys := by
  obtain ⟨its, r, ⟨o, e, _, n, d⟩, _⟩ := I.tuple h
  obtain ⟨its', r', ⟨o', e', _, n', d'⟩, _⟩ := I.tuple h'
  rw [e] at e'; cases e'
  rw [d] at d'
  injection d' with d1 _
  have : its = its' := by simpa using congrArg Array.toList d1
  subst this
  exact r.inj r'
end
abbrev Cx.wish (X : Cx) (E : Value → Shared → Prop) : Cx := { X with xe := E }
abbrev Cx.nox (X : Cx) : Cx := X.wish fun _ _ => False
theorem Cx.Ok.wish {X : Cx} (ok : X.Ok) (E : Value → Shared → Prop) : (X.wish E).Ok :=
  ⟨ok.mod, ok.kind, ok.glob, ok.blt, ok.above, ok.inj, ok.has, ok.cab, ok.hd, ok.frames, ok.stk, ok.exf, ok.bs, ok.bsz, ok.noex, ok.exfs, ok.funs, ok.frf⟩
theorem Cx.Ok.unwish {X : Cx} {E : Value → Shared → Prop} (ok : (X.wish E).Ok) : X.Ok :=
  ⟨ok.mod, ok.kind, ok.glob, ok.blt, ok.above, ok.inj, ok.has, ok.cab, ok.hd, ok.frames, ok.stk, ok.exf, ok.bs, ok.bsz, ok.noex, ok.exfs, ok.funs, ok.frf⟩
section
variable {X : Cx} {pins : List (Addr × Obj)} {σ : St} {H : Hp} {s : Shared} {E : Value → Shared → Prop}
theorem Inv.wish (I : Inv X pins σ H s) (E : Value → Shared → Prop) : Inv (X.wish E) pins σ H s := ⟨I.ok.wish E, I.os, I.bare, I.base, I.loc, I.cell, I.free, I.freeC, I.pin, I.hok, I.len⟩
theorem Inv.unwish (I : Inv (X.wish E) pins σ H s) : Inv X pins σ H s := ⟨I.ok.unwish, I.os, I.bare, I.base, I.loc, I.cell, I.free, I.freeC, I.pin, I.hok, I.len⟩
theorem SP.unwish {D : Ends} {f : Flow} {s' : Shared} (h : SP (X.wish E) pins D f s') : SP X pins D f s' := by
  cases f with
  | next => obtain ⟨σ', H', I, q⟩ := h; exact ⟨σ', H', I.unwish, q⟩
  | brk => obtain ⟨σ', H', I, q⟩ := h; exact ⟨σ', H', I.unwish, q⟩
  | cont => obtain ⟨σ', H', I, q⟩ := h; exact ⟨σ', H', I.unwish, q⟩
  | ret u => obtain ⟨v, σ', H', I, r, q⟩ := h; exact ⟨v, σ', H', I.unwish, r, q⟩
theorem PSs.nox {st : List Stmt} {t : TS} (h : PSs X.nox st t) : PSs X st t := fun pins s σ H D I hw =>
  wpAny_mono (h pins s σ H D (I.wish _) hw) (fun _ _ q => q.unwish) fun _ _ z => False.elim z
end
section
variable {X : Cx} {st : Stmt} {rest : List Stmt} {t u : TS} {e : Expr} {te : TE} {pos : Pos}
def tNext : TS := fun D σ H => D.nx σ H
def tSeq (t u : TS) : TS := fun D σ H => t { D with nx := u D } σ H
theorem pss_nil : PSs X [] tNext := fun _ _ σ H _ I h => wpAny_execs_nil ⟨σ, H, I, h⟩
theorem pss_cons (h1 : PS X st t) (h2 : PSs X rest u) : PSs X (st :: rest) (tSeq t u) := by
  intro pins s σ H D I h
  refine wpAny_execs_cons (thn (h1 pins s σ H { D with nx := u D } I h) fun f s1 q => ?_)
  cases f with
  | next =>
    obtain ⟨σ', H', I', q⟩ := q
    exact h2 pins s1 σ' H' D I' q
  | ret v => exact q
  | brk => exact q
  | cont => exact q
theorem pss_one (h1 : PS X st t) : PSs X [st] t := by
  intro pins s σ H D I h
  refine wpAny_execs_cons (thn (h1 pins s σ H D I h) fun f s1 q => ?_)
  cases f with
  | next => exact wpAny_execs_nil q
  | ret v => exact q
  | brk => exact q
  | cont => exact q
theorem Inv.quiet {pins : List (Addr × Obj)} {σ : St} {H : Hp} {s : Shared} (I : Inv X pins σ H s) : interactive X.env = false := by simp [interactive, I.ok.kind]
def tDrop (te : TE) : TS := fun D σ H => te σ H fun _ H1 => D.nx σ H1
theorem ps_expr (he : PE X e te) (hs : swapsWith e none pos.line X.env = pure false := by rfl) : PS X (.Expr e pos) (tDrop te) := by
  intro pins s σ H D I h
  refine wpAny_Expr_any (thn (he pins s σ H _ I h) fun v s1 hm0 => ?_) I.quiet hs
  obtain ⟨x, H1, I1, r1, q1⟩ := hm0
  exact ⟨σ, H1, I1, q1⟩
def tRet (te : TE) : TS := fun D σ H => te σ H D.rt
theorem ps_ret (he : PE X e te) : PS X (.Return (some e) pos) (tRet te) := by
  intro pins s σ H D I h
  refine wpAny_Return_some (thn (he pins s σ H _ I h) fun v s1 hm0 => ?_)
  obtain ⟨x, H1, I1, r1, q1⟩ := hm0
  exact ⟨x, σ, H1, I1, r1, q1⟩
def tIfS (c : TT) (t u : TS) : TS := fun D σ H => c σ H fun b H1 => if b = true then t D σ H1 else u D σ H1
theorem ps_if {c : Expr} {a b : List Stmt} {tc : TT} (hc : PT X c tc) (ha : PSs X a t) (hb : PSs X b u) : PS X (.If c a b pos) (tIfS tc t u) := by
  intro pins s σ H D I h
  refine wpAny_If (thn (hc pins s σ H _ I h) fun d s1 hm0 => ?_)
  obtain ⟨H1, I1, q1⟩ := hm0
  cases d with
  | true => exact ha pins s1 σ H1 D I1 q1
  | false => exact hb pins s1 σ H1 D I1 q1
def tNever : TS := fun _ _ _ => False
theorem ps_never : PS X st tNever := fun _ _ _ _ _ _ h => h.elim
end
abbrev TG := V → St → Hp → (St → Hp → Prop) → Prop
abbrev TGs := List V → St → Hp → (St → Hp → Prop) → Prop
def PG (X : Cx) (target : Expr) (t : TG) : Prop :=
  ∀ (pins : List (Addr × Obj)) (s : Shared) (σ : St) (H : Hp) (v : V) (u : Value) (Q : St → Hp → Prop), Inv X pins σ H s → RelV v u → t v σ H Q →
    wpAny (model X.prog X.w) X.A (assign target X.env u) (fun _ s' => ∃ σ' H', Inv X pins σ' H' s' ∧ Q σ' H') X.xe s
def PGs (X : Cx) (ts : List Expr) (t : TGs) : Prop :=
  ∀ (pins : List (Addr × Obj)) (s : Shared) (σ : St) (H : Hp) (vs : List V) (us : List Value) (Q : St → Hp → Prop), Inv X pins σ H s → Vals vs us → t vs σ H Q →
    wpAny (model X.prog X.w) X.A (assignInOrder ((assignEach ts X.env).map (·.2)) us) (fun _ s' => ∃ σ' H', Inv X pins σ' H' s' ∧ Q σ' H') X.xe s
section
variable {X : Cx} {pos : Pos}
def gName (i : Nat) : TG := fun v σ H Q => Q (σ.set i (some v)) H
theorem pg_name {i : Nat} {x : Str} (hN : X.N.Nodup) (hi : X.N[i]? = some x) (hx : Loc X.env.scope x) (hf : X.fn x = true ∨ X.env.scope.names.lookup x = some .local := by first | exact .inl rfl | exact .inr rfl | assumption) : PG X (.Name x pos) (gName i) := by
  intro pins s σ H v u Q I r h
  exact wpAny_assign_Name (store_ok I hN hi hx r (fun s' I' => ⟨_, H, I', h⟩) hf)
def gNil : TGs := fun vs σ H Q => vs = [] ∧ Q σ H
def gCons (t : TG) (u : TGs) : TGs := fun vs σ H Q => ∃ v r, vs = v :: r ∧ t v σ H fun σ' H' => u r σ' H' Q
theorem pgs_nil : PGs X [] gNil := by
  intro pins s σ H vs us Q I r h
  obtain ⟨e, h⟩ := h
  subst e
  cases r
  exact assignInOrder_nil ⟨σ, H, I, h⟩
theorem pgs_cons {e : Expr} {es : List Expr} {t : TG} {u : TGs} (h1 : PG X e t) (h2 : PGs X es u)
    (hs : (assignEach (e :: es) X.env).map (·.2) = assign e X.env :: (assignEach es X.env).map (·.2) := by rfl) : PGs X (e :: es) (gCons t u) := by
  intro pins s σ H vs us Q I r h
  obtain ⟨v, vr, e1, h⟩ := h
  subst e1
  cases r with
  | cons r rr =>
    rw [hs]
    refine assignInOrder_cons (thn (h1 pins s σ H _ _ _ I r h) fun _ s1 hm0 => ?_)
    obtain ⟨σ1, H1, I1, q1⟩ := hm0
    exact h2 pins s1 σ1 H1 _ _ Q I1 rr q1
def gTup (K : PySem.W.Frag) (n : Nat) (t : TGs) : TG := fun v σ H Q => ∃ a xs, v = .ref a ∧ SqT K H a xs ∧ xs.length = n ∧ t xs σ H Q
theorem pg_tup {es : List Expr} {k : Nat} {t : TGs} {n : Nat} (hc : X.calm = true) (h : PGs X es t)
    (hn : (assignEach es X.env).length = n := by rfl) (hst : (assignEach es X.env).findIdx? (·.1) = none := by rfl) : PG X (.Tuple es k pos) (gTup X.K n t) := by
  intro pins s σ H v u Q I r hw
  obtain ⟨a, xs, e1, hq, hl, hw⟩ := hw
  subst e1
  cases r
  obtain ⟨its, rv, ht, hz⟩ := I.tuple hq
  refine assign_Tuple_tuple (I.ok.hd hc) ht (by simp [hn, ← hl, rv.length]) hst fun h' hx => ?_
  have I1 : Inv X pins σ H { s with heap := h' } := I.kept (t' := s.toks) fun b o e => hx b o (Nat.ne_of_lt (Heap.lt_size e)) e
  exact h pins _ σ H xs _ Q I1 (by simpa using rv) hw
def tAsg (te : TE) (g : TG) : TS := fun D σ H => te σ H fun x H1 => g x σ H1 D.nx
theorem ps_set {i : Nat} {x : Str} {e : Expr} {te : TE} {pos' : Pos} (hN : X.N.Nodup) (hi : X.N[i]? = some x) (hx : Loc X.env.scope x) (he : PE X e te) (hs : swapsWith e (some (.Name x pos')) pos.line X.env = pure false := by rfl) (hf : X.fn x = true ∨ X.env.scope.names.lookup x = some .local := by first | exact .inl rfl | exact .inr rfl | assumption) :
    PS X (.Assign [.Name x pos'] e pos) (tAsg te (gName i)) := by
  intro pins s σ H D I h
  refine wpAny_Assign_Name (thn (he pins s σ H _ I h) fun v s1 hm0 => ?_) hs
  obtain ⟨y, H1, I1, r1, q1⟩ := hm0
  exact store_ok I1 hN hi hx r1 (fun s2 I2 => ⟨_, H1, I2, q1⟩) hf
end
section
variable {X : Cx} {pos : Pos}
def tWhile (c : TT) (tb : TS) : TS := fun D σ H => ∃ W : Nat → St → Hp → Prop, (∃ m, W m σ H) ∧ ∀ m σ H, W m σ H →
  c σ H fun b H1 => if b = true then ∃ N : St → Hp → Prop, (∀ σ' H', N σ' H' → ∃ m', m' < m ∧ W m' σ' H') ∧ tb { D with nx := N, ct := N, bk := D.nx } σ H1 else D.nx σ H1
theorem ps_while {c : Expr} {body : List Stmt} {tc : TT} {tb : TS} (hp : PassesOwn (model X.prog X.w) X.A X.env X.xe) (hc : PT X c tc) (hb : PSs X body tb) : PS X (.While c body [] pos) (tWhile tc tb) := by
  intro pins s σ H D I h
  obtain ⟨W, ⟨m0, w0⟩, turn⟩ := h
  refine wpAny_While (codeAny_whileLoop (fun n s' => ∃ σ' H', Inv X pins σ' H' s' ∧ W n σ' H') ?_ m0 ⟨σ, H, I, w0⟩)
  rintro n s1 ⟨σ1, H1, I1, w1⟩
  refine wpAny_passesOwn hp (thn (hc pins s1 σ1 H1 _ I1 (turn n σ1 H1 w1)) fun b s2 hm0 => ?_)
  obtain ⟨H2, I2, q2⟩ := hm0
  cases b with
  | true =>
    obtain ⟨N, hN, q2⟩ := q2
    rw [if_pos rfl]
    refine wpAny_passesOwn hp (thn (hb pins s2 σ1 H2 _ I2 q2) fun f s3 q3 => ?_)
    cases f with
    | next =>
      obtain ⟨σ3, H3, I3, n3⟩ := q3
      obtain ⟨m', hm, w3⟩ := hN σ3 H3 n3
      exact ⟨m', hm, σ3, H3, I3, w3⟩
    | cont =>
      obtain ⟨σ3, H3, I3, n3⟩ := q3
      obtain ⟨m', hm, w3⟩ := hN σ3 H3 n3
      exact ⟨m', hm, σ3, H3, I3, w3⟩
    | brk => exact q3
    | ret v => exact q3
  | false =>
    rw [if_neg Bool.false_ne_true]
    exact wpAny_execs_nil ⟨σ1, H2, I2, q2⟩
end
structure It where
  go : Nat → Hp → Prop
  yld : Nat → Hp → V → Hp → Prop
  stop : Nat → Hp → Prop
def FpOk (X : Cx) (pins : List (Addr × Obj)) (H : Hp) (b : Addr) : Prop :=
  H b = none ∧ b ≠ X.env.locals ∧ b ∉ X.fs ∧ (b ∈ X.ex ∨ X.s₀.heap.objs.size ≤ b) ∧ (∀ x c, X.env.cells.lookup x = some c → c ≠ b) ∧ ∀ p ∈ X.pn ++ pins, p.1 ≠ b
theorem Inv.fpOk {X : Cx} {pins : List (Addr × Obj)} {σ : St} {H H' : Hp} {s : Shared} {b : Addr} (I : Inv X pins σ H s) (hb : s.heap.objs.size ≤ b) (hn : H' b = none) : FpOk X pins H' b := by
  refine ⟨hn, Nat.ne_of_gt (Nat.lt_of_lt_of_le I.lt hb), I.nofs hb, .inr (Nat.le_trans I.sz hb), fun x c e z => ?_, fun p hp z => ?_⟩
  · obtain ⟨v, q⟩ := I.cell x c e
    exact absurd (Nat.lt_of_lt_of_le q.lt (by rw [z]; exact hb)) (Nat.lt_irrefl _)
  · exact absurd (Nat.lt_of_lt_of_le (Heap.lt_size (I.pin p hp).1) (by rw [z]; exact hb)) (Nat.lt_irrefl _)
structure Turn (P : Program) (w : World) (K : PySem.W.Frag) (tg : Expr) (J : It) (fp : List Addr) (it : Addr) (tn : Nat → Heap → Prop) : Prop where
  mem : it ∈ fp
  obj : ∀ i h, tn i h → ∀ b ∈ fp, ∃ o, h.get? b = some o ∧ ∀ v, o.data ≠ .cell v
  keep : ∀ i h h', tn i h → (∀ b ∈ fp, ∀ o, h.get? b = some o → h'.get? b = some o) → tn i h'
  item : ∀ (X : Cx), X.prog = P → X.w = w → X.K = K → X.calm = true → ∀ (i : Nat) (pins : List (Addr × Obj)) (s : Shared) (σ : St) (H : Hp) (E : Value → Shared → Prop), Inv X pins σ H s → (∀ b ∈ fp, FpOk X pins H b) → tn i s.heap → J.go i H →
    wpAny (model P w) X.A (pyNext (.ref it)) (fun r s1 => ∃ u, r = some u ∧
      wpAny (model P w) X.A (letOwnedTupleGo tg (.ref it) u) (fun _ s2 => ∃ x H', Inv X pins σ H' s2 ∧ RelV x u ∧ J.yld i H x H' ∧ tn (i + 1) s2.heap ∧ ∀ b ∈ fp, H' b = none) E s1) E s
  done : ∀ (X : Cx), X.prog = P → X.w = w → X.K = K → X.calm = true → ∀ (i : Nat) (pins : List (Addr × Obj)) (s : Shared) (σ : St) (H : Hp) (E : Value → Shared → Prop), Inv X pins σ H s → (∀ b ∈ fp, FpOk X pins H b) → tn i s.heap → J.stop i H →
    wpAny (model P w) X.A (pyNext (.ref it)) (fun r s1 => r = none ∧ Inv X pins σ H s1) E s
  self : ∀ (A : Around) (i : Nat) (s : Shared) (Q : Value → Shared → Prop) (E : Value → Shared → Prop), tn i s.heap → Q (.ref it) s → wpAny (model P w) A (pyIter (.ref it)) Q E s
abbrev TI := St → Hp → (It → Hp → Prop) → Prop
def PIE (X : Cx) (pins : List (Addr × Obj)) (σ : St) (tg : Expr) (R : It → Hp → Prop) (itv : Value) (s2 : Shared) : Prop :=
  ∃ (it : Addr) (fp : List Addr) (tn : Nat → Heap → Prop) (J : It) (H' : Hp), itv = .ref it ∧ Inv X pins σ H' s2 ∧ Turn X.prog X.w X.K tg J fp it tn ∧ tn 0 s2.heap ∧ (∀ b ∈ fp, FpOk X pins H' b) ∧ R J H'
def PI (X : Cx) (tg iter : Expr) (wi : TI) : Prop :=
  ∀ (pins : List (Addr × Obj)) (s : Shared) (σ : St) (H : Hp) (R : It → Hp → Prop), Inv X pins σ H s → wi σ H R →
    wpAny (model X.prog X.w) X.A (eval iter X.env) (fun v s1 => wpAny (model X.prog X.w) X.A (pyIter v) (PIE X pins σ tg R) X.xe s1) X.xe s
theorem go_of {M : Model} {A : Around} {E : Value → Shared → Prop} {s : Shared} {tg : Expr} {it : Addr} {u : Value} {o : Obj} {n : String} {vs : Array Value} {Q : Unit → Shared → Prop} (ho : s.heap.get? it = some o) (hc : o.cls = .type n) (hd : o.data = .fields vs)
    (hn : ["enumerate", "zip", "dict_itemiterator", "dict_reverseitemiterator", "odict_iterator", "itertools.zip_longest", "itertools.pairwise"].contains n = false) (hQ : Q () s) : wpAny M A (letOwnedTupleGo tg (.ref it) u) Q E s := by
  unfold letOwnedTupleGo
  cases tg <;> first
    | exact wpAny_pure hQ
    | (cases u <;> first
        | exact wpAny_pure hQ
        | (refine wpAny_bind (wpAny_load ho ?_)
           rw [hc, hd]
           show wpAny M A (if (["enumerate", "zip", "dict_itemiterator", "dict_reverseitemiterator", "odict_iterator", "itertools.zip_longest", "itertools.pairwise"].contains n && vs[0]? == some (rawInt _)) = true then _ else _) Q E s
           rw [if_neg (by intro h; rw [hn, Bool.false_and] at h; cases h)]
           exact wpAny_pure hQ))
def Itl (K : PySem.W.Frag) (a : Addr) : It :=
  ⟨fun i H => ∃ xs x, SqL K H a xs ∧ xs[i]? = some x, fun i H x H' => H' = H ∧ ∀ xs, SqL K H a xs → xs[i]? = some x, fun i H => ∃ xs, SqL K H a xs ∧ xs.length ≤ i⟩
def Itr (lo : Int) (n : Nat) : It := ⟨fun i _ => i < n, fun i H x H' => H' = H ∧ x = .int (lo + i), fun i _ => n ≤ i⟩
theorem turn_list {P : Program} {w : World} {K : PySem.W.Frag} {tg : Expr} (a it : Addr) : Turn P w K tg (Itl K a) [it] it (fun i h => h.IsListIter it a i) where
  mem := by simp
  obj := fun i h st b hb => by
    have e : b = it := by simpa using hb
    subst e
    obtain ⟨o, e, c, d⟩ := st
    exact ⟨o, e, fun v z => by rw [d] at z; cases z⟩
  keep := fun i h h' st k => st.at fun o e => k it (by simp) o e
  item := by
    intro X hP hw hK hc i pins s σ H E I hf st hg
    subst hP hw hK
    obtain ⟨xs, x, hq, hx⟩ := hg
    obtain ⟨its, rv, p, hz⟩ := I.list hq
    obtain ⟨u, hu, ru⟩ := rv.get hx
    obtain ⟨f0, f1, f2, f3, f4, f5⟩ := hf it (by simp)
    refine wpAny_pyNext_list_item st p.isList (x := u) (by simpa using hu) fun h' st' sb => ?_
    have I1 : Inv X pins σ H { s with heap := h' } := I.turned (t' := s.toks) (fun b o hb e => (sb.2 b hb).trans e) f0 f1 f3 f4 f5
    obtain ⟨o, e, c, d⟩ := id st'
    exact ⟨u, rfl, go_of (s := { s with heap := h' }) e c d (by decide) ⟨x, H, I1, ru, ⟨rfl, fun ys hy => by rw [I.list_inj hy hq]; exact hx⟩, st', fun b hb => (hf b hb).1⟩⟩
  done := by
    intro X hP hw hK hc i pins s σ H E I hf st hg
    subst hP hw hK
    obtain ⟨xs, hq, hx⟩ := hg
    obtain ⟨its, rv, p, hz⟩ := I.list hq
    obtain ⟨f0, f1, f2, f3, f4, f5⟩ := hf it (by simp)
    have hl := rv.length
    exact wpAny_pyNext_list_end (I.ok.hd hc) st p.isList (by simp; omega) fun h' eb => ⟨rfl, I.turned (t' := s.toks) (fun b o hb e => eb b o hb e) f0 f1 f3 f4 f5⟩
  self := fun _ _ _ _ _ st h => wpAny_pyIter_listiter st h
theorem turn_range {P : Program} {w : World} {K : PySem.W.Frag} {tg : Expr} (it : Addr) (lo : Int) (n : Nat) : Turn P w K tg (Itr lo n) [it] it (fun i h => IsRangeIter h it (lo + (i : Nat) * 1) ((n : Int) - (i : Nat)) 1) where
  mem := by simp
  obj := fun i h st b hb => by
    have e : b = it := by simpa using hb
    subst e
    exact ⟨_, st, fun v z => by
      have z' : Data.fields _ = Data.cell v := z
      cases z'⟩
  keep := fun i h h' st k => k it (by simp) _ st
  item := by
    intro X hP hw hK hc i pins s σ H E I hf st hg
    subst hP hw hK
    obtain ⟨f0, f1, f2, f3, f4, f5⟩ := hf it (by simp)
    have W := Walks.range (prog := X.prog) (w := X.w) (I.ok.hd hc) it lo 1 n
    refine W.item i s _ _ hg st fun v h' tk hv st' kk => ?_
    obtain ⟨t, rfl⟩ := hv
    have I1 : Inv X pins σ H { s with heap := h', toks := tk } := I.turned (fun b o hb e => kk b o (by simpa using hb) e) f0 f1 f3 f4 f5
    refine ⟨_, rfl, go_of (s := { s with heap := h', toks := tk }) (n := "range_iterator") st' rfl rfl (by decide) ⟨.int (lo + i), H, I1, ⟨t, ?_⟩, ⟨rfl, rfl⟩, st', fun b hb => (hf b hb).1⟩⟩
    rw [Int.mul_one]
  done := by
    intro X hP hw hK hc i pins s σ H E I hf st hg
    subst hP hw hK
    obtain ⟨f0, f1, f2, f3, f4, f5⟩ := hf it (by simp)
    exact wpAny_pyNext_range_end (I.ok.hd hc) st (by have : n ≤ i := hg; omega) fun h' eb => ⟨rfl, I.turned (t' := s.toks) (fun b o hb e => eb b o hb e) f0 f1 f3 f4 f5⟩
  self := fun _ _ _ _ _ st h => wpAny_pyIter_rangeiter st h
end L2
namespace L2
open PySem PySem.Spec PyProof.Rows
section
variable {X : Cx} {tg : Expr}
def iList (K : PySem.W.Frag) (tl : TE) : TI := fun σ H R => tl σ H fun x H1 => ∃ a, x = .ref a ∧ (∃ xs, SqL K H1 a xs) ∧ R (Itl K a) H1
theorem pi_list {l : Expr} {tl : TE} (hl : PE X l tl) : PI X tg l (iList X.K tl) := by
  intro pins s σ H R I h
  refine thn (hl pins s σ H _ I h) fun v s1 hm0 => ?_
  obtain ⟨x, H1, I1, r1, q1⟩ := hm0
  obtain ⟨a, e, ⟨xs, hq⟩, q⟩ := q1
  subst e
  cases r1
  obtain ⟨its, rv, p, hz⟩ := I1.list hq
  refine wpAny_pyIter_list p.isList ?_
  refine ⟨s1.heap.objs.size, [s1.heap.objs.size], _, _, H1, rfl, I1.kept (t' := s1.toks) fun b o e => Heap.get?_push_of_some _ e, turn_list a _, ⟨_, Heap.get?_push_size _ rfl, rfl, rfl⟩, fun b hb => ?_, q⟩
  have e : b = s1.heap.objs.size := by simpa using hb
  subst e
  exact I1.fpOk (Nat.le_refl _) (I1.hok.fresh (Nat.le_refl _))
theorem range_it {pins : List (Addr × Obj)} {σ : St} {H : Hp} {s : Shared} {R : It → Hp → Prop} {E : Value → Shared → Prop} {lo hi : Int} {t u v : Tok} {tk : Nat} (I : Inv X pins σ H s) (h1 : -(2 ^ 62) ≤ lo) (h2 : lo < 2 ^ 62) (h3 : -(2 ^ 62) ≤ hi) (h4 : hi < 2 ^ 62)
    (q : R (Itr lo (hi - lo).toNat) H) : wpAny (model X.prog X.w) X.A (pyIter (.ref s.heap.objs.size)) (PIE X pins σ tg R) E { s with heap := s.heap.push { cls := .type "range", data := .fields #[.int lo t, .int hi u, .int 1 v] }, toks := tk } := by
  refine wpAny_pyIter_range (IsRange.new ..) (small_one h1 h2 h3 h4) ?_
  have I1 : Inv X pins σ H { s with heap := s.heap.push { cls := .type "range", data := .fields #[.int lo t, .int hi u, .int 1 v] }, toks := tk } := I.kept fun b o e => Heap.get?_push_of_some _ e
  refine ⟨(s.heap.push { cls := .type "range", data := .fields #[.int lo t, .int hi u, .int 1 v] }).objs.size, [(s.heap.push { cls := .type "range", data := .fields #[.int lo t, .int hi u, .int 1 v] }).objs.size], _, _, H, rfl,
    I1.kept (t' := tk) fun b o e => Heap.get?_push_of_some _ e, turn_range _ lo (hi - lo).toNat, ?_, fun b hb => ?_, q⟩
  · have e1 : lo + ((0 : Nat) : Int) * 1 = lo := by simp
    have e2 : (((hi - lo).toNat : Nat) : Int) - ((0 : Nat) : Int) = Builtin.Range.rangeSize lo hi 1 := by rw [rangeSize_one]; split <;> omega
    show IsRangeIter _ _ (lo + ((0 : Nat) : Int) * 1) ((((hi - lo).toNat : Nat) : Int) - ((0 : Nat) : Int)) 1
    rw [e1, e2]
    exact Heap.get?_push_size _ rfl
  · have e : b = (s.heap.push { cls := .type "range", data := .fields #[.int lo t, .int hi u, .int 1 v] }).objs.size := by simpa using hb
    subst e
    exact I1.fpOk (Nat.le_refl _) (I1.hok.fresh (Nat.le_refl _))
def iRng1 (ta : TA) : TI := fun σ H R => ta σ H fun vs H1 => ∃ j : Int, vs = [.int j] ∧ -(2 ^ 62) ≤ j ∧ j < 2 ^ 62 ∧ R (Itr 0 j.toNat) H1
def iRng2 (ta : TA) : TI := fun σ H R => ta σ H fun vs H1 => ∃ i j : Int, vs = [.int i, .int j] ∧ (-(2 ^ 62) ≤ i ∧ i < 2 ^ 62 ∧ -(2 ^ 62) ≤ j ∧ j < 2 ^ 62) ∧ R (Itr i (j - i).toNat) H1
theorem pi_range1 {a : Expr} {ta : TA} {p pos : Pos} (hg : Gl X "range") (hm : X.mg "range" = none) (ha : PA X [a] ta) (hs : starEach [a] X.env = [(false, eval a X.env)] := by rfl) : PI X tg (.Call (.Name "range" p) [a] [] pos) (iRng1 ta) := by
  intro pins s σ H R I h
  refine Call_ (ld_blt I hg hm boot_range (PyProof.Rows.callWith_type1 (thn (ha pos pins s σ H _ I h) fun us s1 hm0 => ?_) hs rfl))
  obtain ⟨vs, H1, I1, r1, q1⟩ := hm0
  obtain ⟨j, e, q1, q2, q⟩ := q1
  subst e
  cases r1 with
  | cons r rr =>
    cases rr
    obtain ⟨t, rfl⟩ := r
    exact call_range_1 (range_it I1 (by omega) (by omega) q1 q2 (by simpa using q))
theorem pi_range2 {a b : Expr} {ta : TA} {p pos : Pos} (hg : Gl X "range") (hm : X.mg "range" = none) (ha : PA X [a, b] ta) (hs : starEach [a, b] X.env = [(false, eval a X.env), (false, eval b X.env)] := by rfl) (hs2 : starEach [b] X.env = [(false, eval b X.env)] := by rfl) :
    PI X tg (.Call (.Name "range" p) [a, b] [] pos) (iRng2 ta) := by
  intro pins s σ H R I h
  refine Call_ (ld_blt I hg hm boot_range (PyProof.Rows.callWith_type1 (thn (ha pos pins s σ H _ I h) fun us s1 ⟨vs, H1, I1, r1, q1⟩ => ?_) (by rw [hs, hs2]) (by rw [hs2]; rfl)))
  obtain ⟨i, j, e, ⟨q1, q2, q3, q4⟩, q⟩ := q1
  subst e
  cases r1 with
  | cons r rr =>
    cases rr with
    | cons r' rr =>
      cases rr
      obtain ⟨t, rfl⟩ := r
      obtain ⟨t', rfl⟩ := r'
      exact call_range_2 (range_it I1 q1 q2 q3 q4 q)
def tFor (wi : TI) (g : TG) (tb : TS) : TS := fun D σ H => wi σ H fun J H1 => ∃ W : Nat → Nat → St → Hp → Prop, (∃ m, W 0 m σ H1) ∧ ∀ i m σ H, W i m σ H →
  (J.stop i H ∧ D.nx σ H) ∨ (J.go i H ∧ ∃ N : St → Hp → Prop, (∀ σ' H', N σ' H' → ∃ m', m' < m ∧ W (i + 1) m' σ' H') ∧ ∀ x H', J.yld i H x H' → g x σ H' fun σ2 H2 => tb { D with nx := N, ct := N, bk := D.nx } σ2 H2)
def pinsAt (fp : List Addr) (h : Heap) : List (Addr × Obj) := fp.filterMap fun b => (h.get? b).map fun o => (b, o)
theorem mem_pinsAt {fp : List Addr} {h : Heap} {b : Addr} {o : Obj} (hb : b ∈ fp) (e : h.get? b = some o) : (b, o) ∈ pinsAt fp h := List.mem_filterMap.mpr ⟨b, hb, by rw [e]; rfl⟩
theorem of_pinsAt {fp : List Addr} {h : Heap} {p : Addr × Obj} (hp : p ∈ pinsAt fp h) : p.1 ∈ fp ∧ h.get? p.1 = some p.2 := by
  obtain ⟨b, hb, e⟩ := List.mem_filterMap.mp hp
  cases q : h.get? b with
  | none => rw [q] at e; cases e
  | some o =>
    rw [q] at e
    have e' : (b, o) = p := Option.some.inj e
    subst e'
    exact ⟨hb, q⟩
theorem Inv.pinned {pins : List (Addr × Obj)} {σ : St} {H : Hp} {s : Shared} {fp : List Addr} (I : Inv X pins σ H s) (hf : ∀ b ∈ fp, FpOk X pins H b) (ho : ∀ b ∈ fp, ∃ o, s.heap.get? b = some o ∧ ∀ v, o.data ≠ .cell v) : Inv X (pins ++ pinsAt fp s.heap) σ H s :=
  I.pins_of fun p hp => (List.mem_append.mp hp).elim (fun z => I.pin p (List.mem_append_right _ z)) fun z => by
    obtain ⟨hb, e⟩ := of_pinsAt z
    obtain ⟨f0, f1, f2, _⟩ := hf p.1 hb
    obtain ⟨o, e', d⟩ := ho p.1 hb
    rw [e] at e'; cases e'
    exact ⟨e, f0, f1, f2, d⟩
theorem Inv.unpinned {pins pl : List (Addr × Obj)} {σ : St} {H : Hp} {s : Shared} (I : Inv X (pins ++ pl) σ H s) : Inv X pins σ H s := I.pins_of fun p hp => I.pin p (List.mem_append_right _ (List.mem_append_left _ hp))
theorem ps_for {iter : Expr} {body : List Stmt} {wi : TI} {g : TG} {tb : TS} {pos : Pos} (hp : PassesOwn (model X.prog X.w) X.A X.env X.xe) (hc : X.calm = true) (hi : PI X tg iter wi) (hg : PG X tg g) (hb : PSs X body tb)
    (hs : ∀ x, foldedSetIterable iter X.env x = pure x := by intro _; rfl) : PS X (.For tg iter body [] pos) (tFor wi g tb) := by
  intro pins s σ H D I h
  refine wpAny_For (thn (hi pins s σ H _ I h) fun v s1 h1 => thn h1 fun itv s2 h2 => ?_) hs
  obtain ⟨it, fp, tn, J, H2, e, I2, T, st2, f2, W, ⟨m0, w0⟩, turn⟩ := h2
  subst e
  have stat : ∀ {H' : Hp}, (∀ b ∈ fp, H' b = none) → ∀ b ∈ fp, FpOk X pins H' b := fun hn b hb => ⟨hn b hb, (f2 b hb).2⟩
  refine codeAny_forLoop_any (fun n s' => ∃ i σ' H', Inv X pins σ' H' s' ∧ tn i s'.heap ∧ (∀ b ∈ fp, H' b = none) ∧ W i n σ' H') ?_ m0 ⟨0, σ, H2, I2, st2, fun b hb => (f2 b hb).1, w0⟩
  rintro n s3 ⟨i, σ3, H3, I3, st3, fr3, w3⟩
  rcases turn i n σ3 H3 w3 with ⟨stop, qn⟩ | ⟨go, N, hN, step⟩
  · refine wpAny_passesOwn hp (thn (T.done X rfl rfl rfl hc i pins s3 σ3 H3 X.xe I3 (stat fr3) st3 stop) fun r s4 hm0 => ?_)
    obtain ⟨hr, I4⟩ := hm0
    subst hr
    exact wpAny_execs_nil ⟨σ3, H3, I4, qn⟩
  · refine wpAny_passesOwn hp (thn (T.item X rfl rfl rfl hc i pins s3 σ3 H3 X.xe I3 (stat fr3) st3 go) fun r s4 hm0 => ?_)
    obtain ⟨u, hr, h4⟩ := hm0
    subst hr
    refine wpAny_passesOwn hp (thn h4 fun _ s5 hm0 => ?_)
    obtain ⟨x, H5, I5, r5, y5, st5, fr5⟩ := hm0
    have I5' := I5.pinned (stat fr5) (T.obj _ _ st5)
    refine wpAny_passesOwn hp (thn (hg _ s5 σ3 H5 x u _ I5' r5 (step x H5 y5)) fun _ s6 hm0 => ?_)
    obtain ⟨σ6, H6, I6, q6⟩ := hm0
    refine wpAny_passesOwn hp (thn (hb _ s6 σ6 H6 _ I6 q6) fun f s7 q7 => ?_)
    have again : ∀ {σ7 : St} {H7 : Hp}, Inv X (pins ++ pinsAt fp s5.heap) σ7 H7 s7 → N σ7 H7 → ∃ m, m < n ∧ ∃ i σ' H', Inv X pins σ' H' s7 ∧ tn i s7.heap ∧ (∀ b ∈ fp, H' b = none) ∧ W i m σ' H' := fun {σ7 H7} I7 n7 => by
      obtain ⟨m', hm, w7⟩ := hN σ7 H7 n7
      refine ⟨m', hm, i + 1, σ7, H7, I7.unpinned, T.keep _ _ _ st5 fun b hb o e => (I7.pin (b, o) (List.mem_append_right _ (List.mem_append_right _ (mem_pinsAt hb e)))).1, fun b hb => ?_, w7⟩
      obtain ⟨o, e, d⟩ := T.obj _ _ st5 b hb
      exact (I7.pin (b, o) (List.mem_append_right _ (List.mem_append_right _ (mem_pinsAt hb e)))).2.1
    cases f with
    | next => obtain ⟨σ7, H7, I7, n7⟩ := q7; exact again I7 n7
    | cont => obtain ⟨σ7, H7, I7, n7⟩ := q7; exact again I7 n7
    | brk => obtain ⟨σ7, H7, I7, q7⟩ := q7; exact ⟨σ7, H7, I7.unpinned, q7⟩
    | ret v => obtain ⟨x7, σ7, H7, I7, r7, q7⟩ := q7; exact ⟨x7, σ7, H7, I7.unpinned, r7, q7⟩
end
theorem for_list {K : PySem.W.Frag} {a : Addr} {xs : List V} {g : TG} {tb : TS} {D : Ends} {σ : St} {H : Hp} (Pv : Nat → St → Hp → Prop) (h0 : Pv 0 σ H) (hl : ∀ i σ H, i ≤ xs.length → Pv i σ H → SqL K H a xs)
    (hs : ∀ i x σ H, xs[i]? = some x → Pv i σ H → g x σ H fun σ2 H2 => tb { D with nx := Pv (i + 1), ct := Pv (i + 1), bk := D.nx } σ2 H2) (hd : ∀ σ H, Pv xs.length σ H → D.nx σ H) :
    ∃ W : Nat → Nat → St → Hp → Prop, (∃ m, W 0 m σ H) ∧ ∀ i m σ H, W i m σ H →
      ((Itl K a).stop i H ∧ D.nx σ H) ∨ ((Itl K a).go i H ∧ ∃ N : St → Hp → Prop, (∀ σ' H', N σ' H' → ∃ m', m' < m ∧ W (i + 1) m' σ' H') ∧ ∀ x H', (Itl K a).yld i H x H' → g x σ H' fun σ2 H2 => tb { D with nx := N, ct := N, bk := D.nx } σ2 H2) := by
  refine ⟨fun i m σ H => m = xs.length - i ∧ i ≤ xs.length ∧ Pv i σ H, ⟨xs.length, by simp, Nat.zero_le _, h0⟩, ?_⟩
  rintro i m σ H ⟨rfl, hi, p⟩
  have q := hl i σ H hi p
  by_cases hlt : i < xs.length
  · refine .inr ⟨⟨xs, xs[i], q, by simp [hlt]⟩, Pv (i + 1), fun σ' H' p' => ⟨xs.length - (i + 1), by omega, rfl, hlt, p'⟩, fun x H' y => ?_⟩
    obtain ⟨e, y⟩ := y
    subst e
    exact hs i x σ _ (y xs q) p
  · have e : i = xs.length := by omega
    subst e
    exact .inl ⟨⟨xs, q, Nat.le_refl _⟩, hd σ H p⟩
theorem for_range {lo : Int} {n : Nat} {g : TG} {tb : TS} {D : Ends} {σ : St} {H : Hp} (Pv : Nat → St → Hp → Prop) (h0 : Pv 0 σ H)
    (hs : ∀ i σ H, i < n → Pv i σ H → g (.int (lo + i)) σ H fun σ2 H2 => tb { D with nx := Pv (i + 1), ct := Pv (i + 1), bk := D.nx } σ2 H2) (hd : ∀ σ H, Pv n σ H → D.nx σ H) :
    ∃ W : Nat → Nat → St → Hp → Prop, (∃ m, W 0 m σ H) ∧ ∀ i m σ H, W i m σ H →
      ((Itr lo n).stop i H ∧ D.nx σ H) ∨ ((Itr lo n).go i H ∧ ∃ N : St → Hp → Prop, (∀ σ' H', N σ' H' → ∃ m', m' < m ∧ W (i + 1) m' σ' H') ∧ ∀ x H', (Itr lo n).yld i H x H' → g x σ H' fun σ2 H2 => tb { D with nx := N, ct := N, bk := D.nx } σ2 H2) := by
  refine ⟨fun i m σ H => m = n - i ∧ i ≤ n ∧ Pv i σ H, ⟨n, by simp, Nat.zero_le _, h0⟩, ?_⟩
  rintro i m σ H ⟨rfl, hi, p⟩
  by_cases hlt : i < n
  · refine .inr ⟨hlt, Pv (i + 1), fun σ' H' p' => ⟨n - (i + 1), by omega, rfl, hlt, p'⟩, fun x H' y => ?_⟩
    obtain ⟨e, y⟩ := y
    subst e y
    exact hs i σ _ hlt p
  · have e : i = n := by omega
    subst e
    exact .inl ⟨Nat.le_refl _, hd σ H p⟩
end L2
namespace L2
open PySem PySem.Spec PyProof.Rows
abbrev R2 := V → V → Hp → VK → Prop
def OpR (X : Cx) (f : Value → Value → Sem Value) (r : R2) : Prop :=
  ∀ (pins : List (Addr × Obj)) (s : Shared) (σ : St) (H : Hp) (x y : V) (v u : Value) (Q : VK), Inv X pins σ H s → RelV x v → RelV y u → r x y H Q →
    wpAny (model X.prog X.w) X.A (f v u) (EP X pins σ Q) X.xe s
def UnR (X : Cx) (f : Value → Sem Value) (r : V → Hp → VK → Prop) : Prop :=
  ∀ (pins : List (Addr × Obj)) (s : Shared) (σ : St) (H : Hp) (x : V) (v : Value) (Q : VK), Inv X pins σ H s → RelV x v → r x H Q →
    wpAny (model X.prog X.w) X.A (f v) (EP X pins σ Q) X.xe s
def CallR (X : Cx) (f : Value) (r : List V → Hp → VK → Prop) : Prop :=
  ∀ (pins : List (Addr × Obj)) (s : Shared) (σ : St) (H : Hp) (xs : List V) (us : List Value) (Q : VK), Inv X pins σ H s → Vals xs us → r xs H Q →
    wpAny (model X.prog X.w) X.A (call f us) (EP X pins σ Q) X.xe s
def tOp (r : R2) (ta tb : TE) : TE := fun σ H Q => ta σ H fun x H1 => tb σ H1 fun y H2 => r x y H2 Q
def tUn (r : V → Hp → VK → Prop) (ta : TE) : TE := fun σ H Q => ta σ H fun x H1 => r x H1 Q
def rI (C : Int → Int → Prop) (g : Int → Int → V) : R2 := fun x y H Q => ∃ i j, x = .int i ∧ y = .int j ∧ C i j ∧ Q (g i j) H
def rI0 (g : Int → Int → V) : R2 := fun x y H Q => ∃ i j, x = .int i ∧ y = .int j ∧ Q (g i j) H
def rU (g : Int → V) : V → Hp → VK → Prop := fun x H Q => ∃ i, x = .int i ∧ Q (g i) H
section
variable {X : Cx} {a b c : Expr} {ta tb tc : TE} {pos : Pos}
theorem binT (ha : PE X a ta) (hb : PE X b tb) {pins : List (Addr × Obj)} {s : Shared} {σ : St} {H : Hp} {R : V → V → Hp → Prop} (I : Inv X pins σ H s)
    (h : ta σ H fun x H1 => tb σ H1 fun y H2 => R x y H2) {Q : Value → Shared → Prop} {f : Value → Value → Sem Value}
    (hf : ∀ v u s2 x y H2, Inv X pins σ H2 s2 → RelV x v → RelV y u → R x y H2 → wpAny (model X.prog X.w) X.A (f v u) Q X.xe s2) :
    wpAny (model X.prog X.w) X.A (eval a X.env) (fun v s₁ => wpAny (model X.prog X.w) X.A (eval b X.env) (fun u s₂ => wpAny (model X.prog X.w) X.A (f v u) Q X.xe s₂) X.xe s₁) X.xe s := by
  refine thn (ha pins s σ H _ I h) fun v s1 hm0 => ?_
  obtain ⟨x, H1, I1, r1, q1⟩ := hm0
  refine thn (hb pins s1 σ H1 _ I1 q1) fun u s2 hm0 => ?_
  obtain ⟨y, H2, I2, r2, q2⟩ := hm0
  exact hf v u s2 x y H2 I2 r1 r2 q2
theorem pe_op {op : Operator} {r : R2} (ho : OpR X (binaryOp op) r) (ha : PE X a ta) (hb : PE X b tb) : PE X (.BinOp a op b pos) (tOp r ta tb) := by
  intro pins s σ H Q I h
  exact wpAny_BinOp (binT ha hb I h fun v u s2 x y H2 I2 rx ry q => ho pins s2 σ H2 x y v u Q I2 rx ry q)
theorem pe_un {op : UnaryOp} {r : V → Hp → VK → Prop} (ho : UnR X (unaryOp op) r) (ha : PE X a ta) : PE X (.UnaryOp op a pos) (tUn r ta) := by
  intro pins s σ H Q I h
  refine UnaryOp_ (thn (ha pins s σ H _ I h) fun v s1 hm0 => ?_)
  obtain ⟨x, H1, I1, r1, q1⟩ := hm0
  exact ho pins s1 σ H1 x v Q I1 r1 q1
theorem opI {f : Value → Value → Sem Value} {C : Int → Int → Prop} {g : Int → Int → Int}
    (rule : ∀ (i j : Int) (t u : Tok) (s : Shared) (Q : Value → Shared → Prop) (E : Value → Shared → Prop), C i j → Q (.int (g i j) s.toks) { s with toks := s.toks + 1 } → wpAny (model X.prog X.w) X.A (f (.int i t) (.int j u)) Q E s) :
    OpR X f (rI C fun i j => .int (g i j)) := by
  intro pins s σ H x y v u Q I rx ry h
  obtain ⟨i, j, rfl, rfl, hc, q⟩ := h
  obtain ⟨t, rfl⟩ := rx
  obtain ⟨t', rfl⟩ := ry
  exact rule i j t t' s _ _ hc ⟨.int (g i j), H, I.tok _, ⟨_, rfl⟩, q⟩
theorem opI0 {f : Value → Value → Sem Value} {g : Int → Int → Int}
    (rule : ∀ (i j : Int) (t u : Tok) (s : Shared) (Q : Value → Shared → Prop) (E : Value → Shared → Prop), Q (.int (g i j) s.toks) { s with toks := s.toks + 1 } → wpAny (model X.prog X.w) X.A (f (.int i t) (.int j u)) Q E s) :
    OpR X f (rI0 fun i j => .int (g i j)) := by
  intro pins s σ H x y v u Q I rx ry h
  obtain ⟨i, j, rfl, rfl, q⟩ := h
  obtain ⟨t, rfl⟩ := rx
  obtain ⟨t', rfl⟩ := ry
  exact rule i j t t' s _ _ ⟨.int (g i j), H, I.tok _, ⟨_, rfl⟩, q⟩
theorem opB0 {f : Value → Value → Sem Value} {g : Int → Int → Bool}
    (rule : ∀ (i j : Int) (t u : Tok) (s : Shared) (Q : Value → Shared → Prop) (E : Value → Shared → Prop), Q (.bool (g i j)) s → wpAny (model X.prog X.w) X.A (f (.int i t) (.int j u)) Q E s) :
    OpR X f (rI0 fun i j => .bl (g i j)) := by
  intro pins s σ H x y v u Q I rx ry h
  obtain ⟨i, j, rfl, rfl, q⟩ := h
  obtain ⟨t, rfl⟩ := rx
  obtain ⟨t', rfl⟩ := ry
  exact rule i j t t' s _ _ ⟨.bl (g i j), H, I, rfl, q⟩
def CDiv (i j : Int) : Prop := 0 < j ∧ j < 1073741824
def CPow (i j : Int) : Prop := 0 ≤ j ∧ j ≤ 1000000 ∧ i.natAbs < 2 ^ 64
def CMul (i j : Int) : Prop := (-(2 ^ 64) < i ∧ i < 2 ^ 64) ∨ (-(2 ^ 64) < j ∧ j < 2 ^ 64)
theorem CMul.ok {i j : Int} (h : CMul i j) : IntMulOk i j := by
  rcases h with ⟨h1, h2⟩ | ⟨h1, h2⟩
  · exact .of_left (intBits_le_64 h1 h2)
  · exact .of_right (intBits_le_64 h1 h2)
theorem two_pow_nn (k : Nat) : (0 : Int) ≤ 2 ^ k := by
  rw [two_pow_cast]
  exact Int.natCast_nonneg _
theorem op_add : OpR X (binaryOp .Add) (rI0 fun i j => .int (i + j)) := opI0 fun _ _ _ _ _ _ _ q => add_int q
theorem op_sub : OpR X (binaryOp .Sub) (rI0 fun i j => .int (i - j)) := opI0 fun _ _ _ _ _ _ _ q => sub_int q
theorem op_mul : OpR X (binaryOp .Mult) (rI CMul fun i j => .int (i * j)) := opI fun _ _ _ _ _ _ _ hc q => mul_int q hc.ok
theorem op_fdiv : OpR X (binaryOp .FloorDiv) (rI CDiv fun i j => .int (i / j)) := opI fun i j _ _ _ _ _ hc q => by
  have h1 : (0 : Int) < j := hc.1
  have h2 : j < 1073741824 := hc.2
  exact floordiv_int (by omega) (by rw [Int.fdiv_eq_ediv_of_nonneg i (by omega)]; exact q) (.inl (PyProof.noPylong_small (by omega)))
theorem op_mod : OpR X (binaryOp .Mod) (rI (fun _ j => 0 < j) fun i j => .int (i % j)) := opI fun i j _ _ _ _ _ hc q => by
  have h1 : (0 : Int) < j := hc
  exact mod_int' (by omega) (by rw [Int.fmod_eq_emod_of_nonneg i (by omega)]; exact q)
theorem op_shl : OpR X (binaryOp .LShift) (rI CPow fun i j => .int (i * 2 ^ j.toNat)) := opI fun _ _ _ _ _ _ _ hc q => lshift_int_small hc.1 hc.2.1 hc.2.2 q
theorem op_shr : OpR X (binaryOp .RShift) (rI (fun _ j => 0 ≤ j) fun i j => .int (i / 2 ^ j.toNat)) := opI fun i j _ _ _ _ _ hc q =>
  rshift_int hc (by rw [Int.fdiv_eq_ediv_of_nonneg i (two_pow_nn _)]; exact q)
theorem op_and : OpR X (binaryOp .BitAnd) (rI0 fun i j => .int (Builtin.bitAnd i j)) := opI0 fun _ _ _ _ _ _ _ q => and_int q
theorem unI {f : Value → Sem Value} {g : Int → Int}
    (rule : ∀ (i : Int) (t : Tok) (s : Shared) (Q : Value → Shared → Prop) (E : Value → Shared → Prop), Q (.int (g i) s.toks) { s with toks := s.toks + 1 } → wpAny (model X.prog X.w) X.A (f (.int i t)) Q E s) :
    UnR X f (rU fun i => .int (g i)) := by
  intro pins s σ H x v Q I rx h
  obtain ⟨i, rfl, q⟩ := h
  obtain ⟨t, rfl⟩ := rx
  exact rule i t s _ _ ⟨.int (g i), H, I.tok _, ⟨_, rfl⟩, q⟩
theorem un_neg : UnR X (unaryOp .USub) (rU fun i => .int (-i)) := unI fun _ _ _ _ _ q => neg_int q
end
def scal : V → V → Bool
  | .non, .non => true | .non, .int _ => true | .int _, .non => true | .non, .bl _ => true | .bl _, .non => true | .non, .str _ => true | .str _, .non => true
  | .int _, .int _ => true | .bl _, .bl _ => true | .str _, .str _ => true | .byt _, .byt _ => true
  | .int _, .str _ => true | .str _, .int _ => true | .bl _, .str _ => true | .str _, .bl _ => true
  | _, _ => false
def rEq : R2 := fun x y H Q => scal x y = true ∧ Q (.bl (decide (x = y))) H
def rNe : R2 := fun x y H Q => scal x y = true ∧ Q (.bl (!decide (x = y))) H
theorem dec_int {i j : Int} : decide (V.int i = V.int j) = (i == j) := by
  rw [Bool.eq_iff_iff]
  simp
theorem dec_bl {i j : Bool} : decide (V.bl i = V.bl j) = (i == j) := by
  rw [Bool.eq_iff_iff]
  simp
theorem dec_str {i j : Str} : decide (V.str i = V.str j) = (i == j) := by
  rw [Bool.eq_iff_iff]
  simp
theorem dec_byt {i j : Array UInt8} : decide (V.byt i = V.byt j) = (i.toList == j.toList) := by
  rw [Bool.eq_iff_iff]
  cases i
  cases j
  simp
section
variable {X : Cx} {a b c : Expr} {ta tb tc : TE} {pos : Pos}
theorem fin_bl {pins : List (Addr × Obj)} {σ : St} {H : Hp} {s : Shared} {Q : VK} {k k' : Bool} (I : Inv X pins σ H s) (q : Q (.bl k) H) (e : k = k') : EP X pins σ Q (.bool k') s := by
  subst e
  exact ⟨.bl k, H, I, rfl, q⟩
theorem op_eq : OpR X (compareOp .Eq) rEq := by
  intro pins s σ H x y v u Q I rx ry h
  obtain ⟨hs, q⟩ := h
  cases x with
  | non =>
    cases rx
    cases y with
    | non => cases ry; exact PySem.EqNone.eq_none_none (fin_bl I q (by simp))
    | bl j => cases ry; exact PySem.EqNone.eq_none_bool (fin_bl I q (by simp))
    | int j => obtain ⟨t', rfl⟩ := ry; exact PySem.EqNone.eq_none_int (fin_bl I q (by simp))
    | str j => obtain ⟨t', rfl⟩ := ry; exact PySem.EqNone.eq_none_str (fin_bl I q (by simp))
    | _ => exact absurd (show false = true from hs) Bool.false_ne_true
  | bl i =>
    cases rx
    cases y with
    | non => cases ry; exact PySem.EqNone.eq_bool_none (fin_bl I q (by simp))
    | bl j => cases ry; exact eq_bool (fin_bl I q dec_bl)
    | str j => obtain ⟨t', rfl⟩ := ry; exact PySem.EqMixed.eq_bool_str (fin_bl I q (by simp))
    | _ => exact absurd (show false = true from hs) Bool.false_ne_true
  | int i =>
    obtain ⟨t, rfl⟩ := rx
    cases y with
    | non => cases ry; exact PySem.EqNone.eq_int_none (fin_bl I q (by simp))
    | int j => obtain ⟨t', rfl⟩ := ry; exact eq_int (fin_bl I q dec_int)
    | str j => obtain ⟨t', rfl⟩ := ry; exact PySem.EqMixed.eq_int_str (fin_bl I q (by simp))
    | _ => exact absurd (show false = true from hs) Bool.false_ne_true
  | str i =>
    obtain ⟨t, rfl⟩ := rx
    cases y with
    | non => cases ry; exact PySem.EqNone.eq_str_none (fin_bl I q (by simp))
    | bl j => cases ry; exact PySem.EqMixed.eq_str_bool (fin_bl I q (by simp))
    | int j => obtain ⟨t', rfl⟩ := ry; exact PySem.EqMixed.eq_str_int (fin_bl I q (by simp))
    | str j => obtain ⟨t', rfl⟩ := ry; exact eq_str (fin_bl I q dec_str)
    | _ => exact absurd (show false = true from hs) Bool.false_ne_true
  | byt i =>
    obtain ⟨t, rfl⟩ := rx
    cases y with
    | byt j => obtain ⟨t', rfl⟩ := ry; exact PySem.W.eq_bytes (fin_bl I q dec_byt)
    | _ => exact absurd (show false = true from hs) Bool.false_ne_true
  | _ => cases y <;> exact absurd (show false = true from hs) Bool.false_ne_true
theorem op_ne : OpR X (compareOp .NotEq) rNe := by
  intro pins s σ H x y v u Q I rx ry h
  obtain ⟨hs, q⟩ := h
  cases x with
  | non =>
    cases rx
    cases y with
    | non => cases ry; exact PySem.EqNone.ne_none_none (fin_bl I q (by simp))
    | bl j => cases ry; exact PySem.EqNone.ne_none_bool (fin_bl I q (by simp))
    | int j => obtain ⟨t', rfl⟩ := ry; exact PySem.EqNone.ne_none_int (fin_bl I q (by simp))
    | str j => obtain ⟨t', rfl⟩ := ry; exact PySem.EqNone.ne_none_str (fin_bl I q (by simp))
    | _ => exact absurd (show false = true from hs) Bool.false_ne_true
  | bl i =>
    cases rx
    cases y with
    | non => cases ry; exact PySem.EqNone.ne_bool_none (fin_bl I q (by simp))
    | bl j => cases ry; exact ne_bool (fin_bl I q (congrArg not dec_bl))
    | str j => obtain ⟨t', rfl⟩ := ry; exact PySem.EqMixed.ne_bool_str (fin_bl I q (by simp))
    | _ => exact absurd (show false = true from hs) Bool.false_ne_true
  | int i =>
    obtain ⟨t, rfl⟩ := rx
    cases y with
    | non => cases ry; exact PySem.EqNone.ne_int_none (fin_bl I q (by simp))
    | int j => obtain ⟨t', rfl⟩ := ry; exact ne_int (fin_bl I q (congrArg not dec_int))
    | str j => obtain ⟨t', rfl⟩ := ry; exact PySem.EqMixed.ne_int_str (fin_bl I q (by simp))
    | _ => exact absurd (show false = true from hs) Bool.false_ne_true
  | str i =>
    obtain ⟨t, rfl⟩ := rx
    cases y with
    | non => cases ry; exact PySem.EqNone.ne_str_none (fin_bl I q (by simp))
    | bl j => cases ry; exact PySem.EqMixed.ne_str_bool (fin_bl I q (by simp))
    | int j => obtain ⟨t', rfl⟩ := ry; exact PySem.EqMixed.ne_str_int (fin_bl I q (by simp))
    | str j => obtain ⟨t', rfl⟩ := ry; exact ne_str (fin_bl I q (congrArg not dec_str))
    | _ => exact absurd (show false = true from hs) Bool.false_ne_true
  | byt i =>
    obtain ⟨t, rfl⟩ := rx
    cases y with
    | byt j => obtain ⟨t', rfl⟩ := ry; exact PySem.W.ne_bytes (fin_bl I q (congrArg not dec_byt))
    | _ => exact absurd (show false = true from hs) Bool.false_ne_true
  | _ => cases y <;> exact absurd (show false = true from hs) Bool.false_ne_true
theorem op_lt : OpR X (compareOp .Lt) (rI0 fun i j => .bl (decide (i < j))) := opB0 fun _ _ _ _ _ _ _ q => lt_int q
theorem op_le : OpR X (compareOp .LtE) (rI0 fun i j => .bl (decide (i ≤ j))) := opB0 fun _ _ _ _ _ _ _ q => le_int q
theorem op_gt : OpR X (compareOp .Gt) (rI0 fun i j => .bl (decide (j < i))) := opB0 fun _ _ _ _ _ _ _ q => gt_int q
theorem op_ge : OpR X (compareOp .GtE) (rI0 fun i j => .bl (decide (j ≤ i))) := opB0 fun _ _ _ _ _ _ _ q => ge_int q
theorem nomark (b : Expr) {op : CmpOp} (h : op ≠ .In := by decide) (h2 : op ≠ .NotIn := by decide) : behindInMarks op b = false := by
  have e1 : (op == CmpOp.In) = false := by cases op <;> first | rfl | exact absurd rfl h
  have e2 : (op == CmpOp.NotIn) = false := by cases op <;> first | rfl | exact absurd rfl h2
  cases b <;> simp [behindInMarks, e1, e2]
theorem pe_cmpR {op : CmpOp} {r : R2} (ho : OpR X (compareOp op) r) (ha : PE X a ta) (hb : PE X b tb) (hm : behindInMarks op b = false) : PE X (.Compare a [op] [b] pos) (tOp r ta tb) := by
  intro pins s σ H Q I h
  exact wpAny_Compare1 (binT ha hb I h fun v u s2 x y H2 I2 rx ry q => ho pins s2 σ H2 x y v u Q I2 rx ry q) hm
def tTest (t : TE) : TT := fun σ H Q => t σ H fun x H' => ∃ k, x = .bl k ∧ Q k H'
theorem pt_cmpR {op : CmpOp} {r : R2} (ho : OpR X (compareOp op) r) (ha : PE X a ta) (hb : PE X b tb) (hm : behindInMarks op b = false) : PT X (.Compare a [op] [b] pos) (tTest (tOp r ta tb)) := by
  intro pins s σ H Q I h
  refine wpAny_isTrue_Compare1 (thn (ha pins s σ H _ I h) fun v s1 ⟨x, H1, I1, r1, q1⟩ => thn (hb pins s1 σ H1 _ I1 q1) fun u s2 ⟨y, H2, I2, r2, q2⟩ =>
    thn (ho pins s2 σ H2 x y v u _ I2 r1 r2 q2) fun c s3 ⟨z, H3, I3, r3, k, e, q3⟩ => ?_) hm
  subst e
  cases r3
  exact wpAny_truthy_bool ⟨H3, I3, q3⟩
def tChain (r r' : R2) (ta tb tc : TE) : TE := fun σ H Q => ta σ H fun x H1 => tb σ H1 fun y H2 => r x y H2 fun z H3 => ∃ k, z = .bl k ∧
  (if k = true then tc σ H3 fun w' H4 => r' y w' H4 Q else Q (.bl false) H3)
theorem pe_chain {op op' : CmpOp} {r r' : R2} (ho : OpR X (compareOp op) r) (ho' : OpR X (compareOp op') r') (ha : PE X a ta) (hb : PE X b tb) (hc : PE X c tc)
    (hm : lastMarks [op, op'] [b, c] = false := by with_unfolding_all rfl) : PE X (.Compare a [op, op'] [b, c] pos) (tChain r r' ta tb tc) := by
  intro pins s σ H Q I h
  refine Compare_chain (thn (ha pins s σ H _ I h) fun v s1 ⟨x, H1, I1, r1, q1⟩ => chain_link (thn (hb pins s1 σ H1 _ I1 q1) fun u s2 ⟨y, H2, I2, r2, q2⟩ =>
    thn (ho pins s2 σ H2 x y v u _ I2 r1 r2 q2) fun d s3 ⟨z, H3, I3, r3, k, e, q3⟩ => ?_)) hm
  subst e
  cases r3
  refine wpAny_truthy_bool ?_
  cases k with
  | false => exact ite_ff ⟨.bl false, H3, I3, rfl, q3⟩
  | true => exact ite_tt (chain_last (thn (hc pins s3 σ H3 _ I3 q3) fun w' s4 ⟨z', H4, I4, r4, q4⟩ => ho' pins s4 σ H4 y z' u w' Q I4 r2 r4 q4))
theorem line63 : (sizeLine : Nat) < 2 ^ 63 := by rw [sizeLine_eq]; decide
theorem vals1 {x : V} {us : List Value} (r : Vals [x] us) : ∃ u, us = [u] ∧ RelV x u := by
  cases r with
  | cons r1 r2 => cases r2; exact ⟨_, rfl, r1⟩
theorem call_int1 : CallR X (.type "int") (fun xs H Q => (∃ i, xs = [.int i] ∧ Q (.int i) H) ∨ ∃ k, xs = [.bl k] ∧ Q (.int (if k then 1 else 0)) H) := by
  intro pins s σ H xs us Q I r h
  rcases h with ⟨i, rfl, q⟩ | ⟨k, rfl, q⟩
  · obtain ⟨u, rfl, t, rfl⟩ := vals1 r
    exact call_int_int ⟨.int i, H, I, ⟨_, rfl⟩, q⟩
  · obtain ⟨u, rfl, r1⟩ := vals1 r
    cases r1
    exact call_int_bool ⟨.int (if k then 1 else 0), H, I.tok _, ⟨_, rfl⟩, q⟩
end
end L2
namespace L2
open PySem PySem.Spec PyProof.Rows
structure ObjM (h : Heap) (x dx C : Addr) (mA : Str → Option Value) : Prop where
  obj : h.get? x = some (PySem.W.instObj C dx)
  ns : h.Ns1 dx mA
  ne : dx ≠ x
theorem lookIn_ns {h : Heap} {dx : Addr} {mA : Str → Option Value} (n : h.Ns1 dx mA) : ∃ od, h.get? dx = some od ∧ ∀ name, PySem.W.lookIn name od = some (mA name) := by
  obtain ⟨o, es, ep, ho, hd, hk, _, hm⟩ := n
  refine ⟨o, ho, fun name => ?_⟩
  have e := hm name
  unfold nsFind findBy at e
  rw [← Array.find?_toList] at e
  unfold PySem.W.lookIn
  rw [hd]
  dsimp only
  split
  · rename_i y q
    rw [q] at e
    exact congrArg some e
  · rename_i q
    rw [q] at e
    have a : es.toList.any (·.refKey) = false := by
      rw [List.any_eq_false]
      intro y hy
      obtain ⟨z, t, hkey⟩ := hk y (Array.mem_toList_iff.mp hy)
      simp [DictEntry.refKey, hkey]
    have a' : ¬ es.toList.any (·.refKey) = true := by rw [a]; exact Bool.false_ne_true
    rw [if_neg a']
    exact congrArg some e
theorem ObjM.look {h : Heap} {x dx C : Addr} {mA : Str → Option Value} (I : ObjM h x dx C mA) : ∃ od, PySem.W.InstAt h x (PySem.W.instObj C dx) C (some od) ∧ ∀ name, PySem.W.lookIn name od = some (mA name) :=
  let ⟨od, ho, hl⟩ := lookIn_ns I.ns
  ⟨od, ⟨I.obj, rfl, rfl, ho⟩, hl⟩
section
variable {prog : Program} {w : World} {A : Around} {E : Value → Shared → Prop} {s : Shared} {K : PySem.W.Frag} {x dx C f : Addr} {mA : Str → Option Value} {name : Str} {v : Value}
theorem get_map {expr : Bool} {Q : Value → Shared → Prop} (X : K.In s.heap) (I : ObjM s.heap x dx C mA) (hg : PySem.W.plainGet K C name = true) (hh : PySem.W.hasDictIn K C = true)
    (ha : PySem.W.findIn K (.ref C) name = some none) (hv : mA name = some v) (hv' : PySem.W.handedIn v = true) (h : Q v { s with toks := s.toks + 1 }) :
    wpAny (model prog w) A (getAttr (.ref x) name expr) Q E s := by
  obtain ⟨od, J, hl⟩ := I.look
  exact PySem.W.get_value X J (PySem.W.plainGet_of hg).1 (PySem.W.findObj_own hh ha rfl (by rw [hl, hv])) hv' h
theorem get_meth {pl : Sem Bool} {Q : Value × List Value → Shared → Prop} (X : K.In s.heap) (I : ObjM s.heap x dx C mA) (hg : PySem.W.plainGet K C name = true)
    (hf : PySem.W.findIn K (.ref C) name = some (some (.ref f))) (ht : PySem.W.isFn K (.ref f) = true) (hv : mA name = none) (h : Q (.ref f, [.ref x]) s) :
    wpAny (model prog w) A (getMethod (.ref x) name pl) Q E s := by
  obtain ⟨od, J, hl⟩ := I.look
  exact PySem.W.method_fn X J (PySem.W.plainGet_of hg).1 (PySem.W.plainGet_of hg).2 hf (beq_iff_eq.mp ht) (by show (PySem.W.lookIn name od).map (·.isSome) = some false; rw [hl, hv]; rfl) h
theorem set_map {ns : List Str} {Q : Unit → Shared → Prop} (X : K.In s.heap) (I : ObjM s.heap x dx C mA)
    (hs : PySem.W.findIn K (.ref C) "__setattr__" = some (some (.builtin "object.__setattr__"))) (hp : PySem.W.plainOver K C = true) (ht : PySem.W.takerIn K C name = some none) (hh : PySem.W.hasDictIn K C = true)
    (hw : PySem.Within mA ns) (hsz : ns.length ≤ sizeLine)
    (h : ∀ h', ObjM h' x dx C (fun y => if y = name then some v else mA y) → Heap.SameBut dx s.heap h' → Q () { s with heap := h', toks := s.toks + 2 }) :
    wpAny (model prog w) A (setAttr (.ref x) name v) Q E s := by
  obtain ⟨od, J, hl⟩ := I.look
  refine PySem.W.set_plain X J hs (PySem.W.osa_open (s := { s with toks := s.toks + 1 }) (r := none) X J hp ht fun b => ?_)
  obtain ⟨cd, hc, hd'⟩ := PySem.W.any_some hh
  have hx : s.heap.get? x = some ⟨.ref C, some dx, .plain, #[]⟩ := I.obj
  refine wpAny_bind (wpAny_pure (wpAny_bind (wpAny_bind (wpAny_loadPart hx (wpAny_bind (PySem.W.Looks.here (s := { s with toks := s.toks + 1 }) (PySem.W.looks_clsIn X hc) ?_))))))
  rw [hd']
  refine wpAny_pure (a := some dx) (wpAny_bind (wpAny_pure (wpAny_bind ?_)))
  refine wpAny_nsSet1 (s := { s with toks := s.toks + 1 }) I.ns fun h' hn2 hs2 => ?_
  obtain ⟨oD, esD, epD, hoD, hdD, hcD⟩ := hn2.count (PySem.Within.cons name v hw)
  refine wpAny_bind (wpAny_lookBehind hoD (by rw [hdD]; exact pastItsLine_dict (Nat.le_trans hcD (by rw [List.length_cons]; omega))) ?_)
  exact wpAny_pure (h _ ⟨(hs2.2 _ (Ne.symm I.ne)).trans I.obj, hn2, I.ne⟩ hs2)
theorem make_map {R : Result → Shared → Prop} {vs : List Value} {kw : List (Str × Value)} (X : K.In s.heap) (hm : PySem.W.makesIn K C = true)
    (hi : PySem.W.findIn K (.ref C) "__init__" = some (some (.ref f))) (hf : PySem.W.typeIn K (.ref f) = some (.type "function"))
    (h : codeAny (model prog w) (A.under (.builtin "type.__call__" ⟨.ref C :: vs, kw⟩)) (.call (.ref f) ⟨.ref (s.heap.objs.size + 1) :: vs, kw⟩) (PySem.W.InitBack (s.heap.objs.size + 1) R)
      { s with heap := (s.heap.push PySem.W.emptyDict).push (PySem.W.instObj C s.heap.objs.size) }) :
    codeAny (model prog w) A (.call (.ref C) ⟨vs, kw⟩) R s := by
  obtain ⟨hh, g, d, t, os⟩ := s
  exact PySem.W.make_core (PySem.W.makes_of X hm) (PySem.W.looks_findIn X hi) (fun self => PySem.W.bind_fn X self hf) (.inl rfl) h
end
def putF (f : Str) (v : V) : List (Str × V) → List (Str × V)
  | [] => [(f, v)]
  | (g, x) :: r => if g = f then (g, v) :: r else (g, x) :: putF f v r
theorem lookup_putF (f g : Str) (v : V) : ∀ fs : List (Str × V), (putF f v fs).lookup g = if g = f then some v else fs.lookup g
  | [] => by
    show List.lookup g [(f, v)] = _
    by_cases h : g = f
    · have hb : (g == f) = true := beq_iff_eq.mpr h
      simp only [List.lookup, hb, if_pos h]
    · have hb : (g == f) = false := beq_eq_false_iff_ne.mpr h
      simp only [List.lookup, hb, if_neg h]
  | (k, x) :: r => by
    have ih := lookup_putF f g v r
    rw [show putF f v ((k, x) :: r) = (if k = f then (k, v) :: r else (k, x) :: putF f v r) from rfl]
    by_cases hk : k = f
    · rw [if_pos hk]
      by_cases h : g = k
      · have hb : (g == k) = true := beq_iff_eq.mpr h
        simp only [List.lookup, hb, if_pos (h.trans hk)]
      · have hb : (g == k) = false := beq_eq_false_iff_ne.mpr h
        simp only [List.lookup, hb, if_neg (fun e : g = f => h (e.trans hk.symm))]
    · rw [if_neg hk]
      by_cases h : g = k
      · have hb : (g == k) = true := beq_iff_eq.mpr h
        simp only [List.lookup, hb, if_neg (fun e : g = f => hk (h.symm.trans e))]
      · have hb : (g == k) = false := beq_eq_false_iff_ne.mpr h
        simp only [List.lookup, hb]
        exact ih
theorem keys_putF (f : Str) (v : V) : ∀ fs : List (Str × V), f ∈ (putF f v fs).map (·.1) ∧ ∀ g, g ∈ fs.map (·.1) → g ∈ (putF f v fs).map (·.1)
  | [] => ⟨by simp [putF], fun g h => by simp at h⟩
  | (k, x) :: r => by
    obtain ⟨i1, i2⟩ := keys_putF f v r
    rw [show putF f v ((k, x) :: r) = (if k = f then (k, v) :: r else (k, x) :: putF f v r) from rfl]
    by_cases hk : k = f
    · rw [if_pos hk]
      subst hk
      exact ⟨by simp, fun g h => by simpa using h⟩
    · rw [if_neg hk]
      refine ⟨?_, fun g h => ?_⟩
      · rw [List.map_cons]
        exact List.mem_cons_of_mem _ i1
      · rw [List.map_cons] at h ⊢
        rcases List.mem_cons.mp h with e | e
        · exact List.mem_cons.mpr (.inl e)
        · exact List.mem_cons_of_mem _ (i2 g e)
theorem length_putF (f : Str) (v : V) : ∀ fs : List (Str × V), (putF f v fs).length ≤ fs.length + 1
  | [] => by simp [putF]
  | (k, x) :: r => by
    have ih := length_putF f v r
    rw [show putF f v ((k, x) :: r) = (if k = f then (k, v) :: r else (k, x) :: putF f v r) from rfl]
    by_cases hk : k = f
    · rw [if_pos hk, List.length_cons, List.length_cons]; omega
    · rw [if_neg hk, List.length_cons, List.length_cons]; omega
theorem RelO.some_of {v : V} {o : Option Value} (r : RelO (some v) o) : ∃ u, o = some u ∧ RelV v u := by
  cases o with
  | none => exact (show False from r).elim
  | some u => exact ⟨u, rfl, r⟩
theorem RelO.none_of {o : Option Value} (r : RelO none o) : o = none := by
  cases o with
  | none => rfl
  | some u => exact (show False from r).elim
theorem handed_of {v : V} {u : Value} (r : RelV v u) : PySem.W.handedIn u = true := by
  cases v with
  | non => cases (show u = Value.none from r); rfl
  | bl b => cases (show u = Value.bool b from r); rfl
  | int i => obtain ⟨t, e⟩ := (show ∃ t, u = Value.int i t from r); cases e; rfl
  | str x => obtain ⟨t, e⟩ := (show ∃ t, u = Value.str x t from r); cases e; rfl
  | byt b => obtain ⟨t, e⟩ := (show ∃ t, u = Value.bytes b t from r); cases e; rfl
  | flt b => obtain ⟨t, e⟩ := (show ∃ t, u = Value.float b t from r); cases e; rfl
  | ref a => cases (show u = Value.ref a from r); rfl
  | ty n => cases (show u = Value.type n from r); rfl
section
variable {P : Program} {w : World} {H H' : Hp} {h h' : Heap} {a C dx : Addr} {fs fs' : List (Str × V)}
theorem ins_get (hok : HOk P w H h) (e : H a = some (.ins C dx fs)) : ∃ mA, ObjM h a dx C mA ∧ (∀ f, RelO (fs.lookup f) (mA f)) ∧ PySem.Within mA (fs.map (·.1)) ∧ fs.length ≤ 1000 ∧ H dx = some (.own a) := by
  obtain ⟨d, z, ne, ob, mA, n, r, q⟩ := (show ObjOk P w H h a (.ins C dx fs) from hok a _ e)
  exact ⟨mA, ⟨ob, n, ne⟩, r, q, z, d⟩
end
structure Cls (K : PySem.W.Frag) (C : Addr) : Prop where
  pg : PySem.W.plainGet K C Str.empty = true
  hd : PySem.W.hasDictIn K C = true
  po : PySem.W.plainOver K C = true
  sa : PySem.W.findIn K (.ref C) "__setattr__" = some (some (.builtin "object.__setattr__"))
theorem Cls.get {K : PySem.W.Frag} {C : Addr} (c : Cls K C) (f : Str) : PySem.W.plainGet K C f = true := c.pg
def NoAttr (K : PySem.W.Frag) (C : Addr) (f : Str) : Prop := PySem.W.findIn K (.ref C) f = some none
theorem NoAttr.taker {K : PySem.W.Frag} {C : Addr} {f : Str} (n : NoAttr K C f) : PySem.W.takerIn K C f = some none := by
  unfold PySem.W.takerIn
  rw [show PySem.W.findIn K (.ref C) f = some none from n]
  rfl
structure Meth (K : PySem.W.Frag) (C : Addr) (m : Str) (f : Addr) : Prop where
  at_ : PySem.W.findIn K (.ref C) m = some (some (.ref f))
  fn : PySem.W.isFn K (.ref f) = true
  kp : PySem.W.keepIn K (.ref f) = true
section
variable {X : Cx} {pins : List (Addr × Obj)} {σ : St} {H : Hp} {s : Shared} {a C dx : Addr} {fs : List (Str × V)} {f : Str} {v : V} {A : Around} {E : Value → Shared → Prop}
theorem getattr_ok {b : Bool} {Q : Value → Shared → Prop} (I : Inv X pins σ H s) (e : H a = some (.ins C dx fs)) (c : Cls X.K C) (n : NoAttr X.K C f) (l : fs.lookup f = some v)
    (h : ∀ u s', Inv X pins σ H s' → RelV v u → Q u s') : wpAny (model X.prog X.w) A (getAttr (.ref a) f b) Q E s := by
  obtain ⟨mA, O, r, _, _, _⟩ := ins_get I.hok e
  obtain ⟨u, hu, ru⟩ := RelO.some_of (v := v) (o := mA f) (by rw [← l]; exact r f)
  exact get_map I.kIn O (c.get f) c.hd n hu (handed_of ru) (h u _ (I.tok _) ru)
theorem getmeth_ok {m : Str} {g : Addr} {pl : Sem Bool} {Q : Value × List Value → Shared → Prop} (I : Inv X pins σ H s) (e : H a = some (.ins C dx fs)) (c : Cls X.K C) (k : Meth X.K C m g) (l : fs.lookup m = none)
    (h : Q (.ref g, [.ref a]) s) : wpAny (model X.prog X.w) A (getMethod (.ref a) m pl) Q E s := by
  obtain ⟨mA, O, r, _, _, _⟩ := ins_get I.hok e
  have hn : mA m = none := RelO.none_of (by rw [← l]; exact r m)
  exact get_meth I.kIn O (c.get m) k.at_ k.fn hn h
theorem setattr_ok {y : V} {u : Value} {Q : Unit → Shared → Prop} (I : Inv X pins σ H s) (e : H a = some (.ins C dx fs)) (c : Cls X.K C) (n : NoAttr X.K C f) (hl : fs.length < 1000) (ry : RelV y u)
    (h : ∀ s', Inv X pins σ (upd H a (.ins C dx (putF f y fs))) s' → Q () s') : wpAny (model X.prog X.w) A (setAttr (.ref a) f u) Q E s := by
  obtain ⟨mA, O, r, wi, _, ho⟩ := ins_get I.hok e
  have hz : (fs.map (·.1)).length ≤ sizeLine := by rw [List.length_map, sizeLine_eq]; omega
  refine set_map I.kIn O c.sa c.po n.taker c.hd wi hz fun h' O' sb => h _ ?_
  have hd : ∃ o, h'.get? dx = some o := let ⟨o, _, _, e', _⟩ := O'.ns; ⟨o, e'⟩
  refine I.write (x := a) (e := dx) (by rw [e]; exact True.intro) (.inr ho) (fun b q hb z => (sb.2 b hb).trans z) hd ?_
  refine ⟨by rw [upd_ne O.ne]; exact ho, ?_, O.ne, O'.obj, _, O'.ns, fun g => ?_, fun g hg => ?_⟩
  · have := length_putF f y fs; omega
  · show RelO ((putF f y fs).lookup g) (if g = f then some u else mA g)
    rw [lookup_putF]
    by_cases q : g = f
    · rw [if_pos q, if_pos q]; exact ry
    · rw [if_neg q, if_neg q]; exact r g
  · by_cases q : g = f
    · rw [q]; exact (keys_putF f y fs).1
    · refine (keys_putF f y fs).2 g (wi g fun z => hg ?_)
      show (if g = f then some u else mA g) = none
      rw [if_neg q]; exact z
theorem Inv.made (I : Inv X pins σ H s) : Inv X pins σ (upd (upd H s.heap.objs.size (.own (s.heap.objs.size + 1))) (s.heap.objs.size + 1) (.ins C s.heap.objs.size []))
    { s with heap := (s.heap.push PySem.W.emptyDict).push (PySem.W.instObj C s.heap.objs.size) } := by
  have e1 : (s.heap.push PySem.W.emptyDict).get? s.heap.objs.size = some PySem.W.emptyDict := Heap.get?_push_size s.heap rfl
  have e2 : ((s.heap.push PySem.W.emptyDict).push (PySem.W.instObj C s.heap.objs.size)).get? (s.heap.objs.size + 1) = some (PySem.W.instObj C s.heap.objs.size) := by
    have := Heap.get?_push_size (s.heap.push PySem.W.emptyDict) (o := PySem.W.instObj C s.heap.objs.size) rfl
    rwa [Heap.size_push] at this
  have e3 : (s.heap.push PySem.W.emptyDict).Ns s.heap.objs.size (fun _ => none) := ⟨PySem.W.emptyDict, #[], _, e1, rfl, (fun e he => absurd he (by simp)), fun _ => rfl⟩
  have I1 := I.laid (a := s.heap.objs.size) (o := .own (s.heap.objs.size + 1)) (h' := s.heap.push PySem.W.emptyDict) (t' := s.toks) (fun b u q => Heap.get?_push_of_some _ q) (Nat.le_refl _) ⟨_, e1⟩
  refine I1.laid (a := s.heap.objs.size + 1) (o := .ins C s.heap.objs.size []) (t' := s.toks) (fun b u q => Heap.get?_push_of_some _ q) (Nat.le_of_eq (Heap.size_push _ _)) ?_
  have ne : s.heap.objs.size ≠ s.heap.objs.size + 1 := Nat.ne_of_lt (Nat.lt_succ_self _)
  refine ⟨by rw [upd_ne ne, upd_same], Nat.zero_le _, ne, e2, fun _ => none, (Heap.Ns1.of_empty e3).at fun o q => Heap.get?_push_of_some _ q, fun _ => True.intro, fun y hy => absurd rfl hy⟩
theorem attr_of {prog : Program} {w : World} {env : Env} {e : Expr} {f : Str} {pos : Pos} {s : Shared} {Q : Value → Shared → Prop} (hb : attributeBase e f env (eval e env) = eval e env)
    (h : wpAny (model prog w) A (eval e env) (fun o s₁ => wpAny (model prog w) A (getAttr o f true) Q E s₁) E s) : wpAny (model prog w) A (eval (.Attribute e f pos) env) Q E s :=
  Attribute_any_ h (by rw [arm_eval_Attribute, hb])
end
def tFld (K : PySem.W.Frag) (ta : TE) (f : Str) : TE := fun σ H Q => ta σ H fun x H1 => ∃ a C dx fs v, x = .ref a ∧ H1 a = some (.ins C dx fs) ∧ Cls K C ∧ NoAttr K C f ∧ fs.lookup f = some v ∧ Q v H1
def sFld (K : PySem.W.Frag) (ta tv : TE) (f : Str) : TS := fun D σ H => tv σ H fun y H1 => ta σ H1 fun x H2 => ∃ a C dx fs, x = .ref a ∧ H2 a = some (.ins C dx fs) ∧ Cls K C ∧ NoAttr K C f ∧ fs.length < 1000 ∧
  D.nx σ (upd H2 a (.ins C dx (putF f y fs)))
section
variable {X : Cx} {o e value : Expr} {f : Str} {pos pos' tpos : Pos} {ta tv : TE}
theorem pe_fld (he : PE X e ta) (hb : attributeBase e f X.env (eval e X.env) = eval e X.env) : PE X (.Attribute e f pos) (tFld X.K ta f) := by
  intro pins s σ H Q I h
  refine attr_of hb (thn (he pins s σ H _ I h) fun u s1 hm0 => ?_)
  obtain ⟨x, H1, I1, rx, a, C, dx, fs, v, ex, ea, c, n, l, q⟩ := hm0
  subst ex
  obtain rfl : u = Value.ref a := rx
  exact getattr_ok I1 ea c n l fun u' s2 I2 ru => ⟨v, H1, I2, ru, q⟩
theorem ps_fld (ha : PE X o ta) (hv : PE X value tv) (hs : swapsWith value (some (.Attribute o f pos')) pos.line X.env = pure false) : PS X (.Assign [.Attribute o f pos'] value pos) (sFld X.K ta tv f) := by
  intro pins s σ H D I h
  refine plainObj_wpAny_Assign_Attribute (thn (hv pins s σ H _ I h) fun u s1 hm0 => ?_) hs
  obtain ⟨y, H1, I1, ry, q⟩ := hm0
  refine thn (ha pins s1 σ H1 _ I1 q) fun ov s2 hm1 => ?_
  obtain ⟨x, H2, I2, rx, a, C, dx, fs, ex, ea, c, n, l, q2⟩ := hm1
  subst ex
  obtain rfl : ov = Value.ref a := rx
  exact setattr_ok I2 ea c n l ry fun s3 I3 => ⟨σ, _, I3, q2⟩
end
section
variable {X : Cx} {pins : List (Addr × Obj)} {σ : St} {H : Hp} {s : Shared} {A : Around} {E : Value → Shared → Prop} {Q : Value → Shared → Prop} {c : Value} {b : Bool}
inductive TyOf (K : PySem.W.Frag) (H : Hp) : V → Value → Prop where
  | non : TyOf K H .non (.type "NoneType")
  | bl (x : Bool) : TyOf K H (.bl x) (.type "bool")
  | int (i : Int) : TyOf K H (.int i) (.type "int")
  | str (x : Str) : TyOf K H (.str x) (.type "str")
  | flt (x : UInt64) : TyOf K H (.flt x) (.type "float")
  | lst {a : Addr} {xs : List V} (e : H a = some (.lst xs)) : TyOf K H (.ref a) (.type "list")
  | frz {a : Addr} {o : Obj} {xs : List V} (e : H a = some (.frz o (.lst xs))) : TyOf K H (.ref a) (.type "list")
  | tup {a : Addr} {xs : List V} (e : H a = some (.tup xs)) : TyOf K H (.ref a) (.type "tuple")
  | dK {a : Addr} {kvs : List (Key × V)} (e : H a = some (.dK kvs)) : TyOf K H (.ref a) (.type "dict")
  | dT {a : Addr} {kvs : List (List Key × V)} (e : H a = some (.dT kvs)) : TyOf K H (.ref a) (.type "dict")
  | ins {a C dx : Addr} {fs : List (Str × V)} (e : H a = some (.ins C dx fs)) (cl : Cls K C) (ha : PySem.W.findIn K (.ref C) "__class__" = some (some (.builtin "object.__class__")))
      (hn : PySem.W.specialIn K (.builtin "object.__class__") "__get__" = some (some (.builtin "getset_descriptor.__get__"))) (htk : PySem.W.takesIn K (.builtin "object.__class__") = some true)
      (hm : PySem.W.mroIn K C (.type "object") = some true) : TyOf K H (.ref a) (.ref C)
theorem isinst_ok {x : V} {u t : Value} (I : Inv X pins σ H s) (rx : RelV x u) (ty : TyOf X.K H x t) (e : PySem.W.kitOne X.K t c = some b) (h : ∀ tk, Q (.bool b) { s with toks := tk }) :
    wpAny (model X.prog X.w) A (call (.builtin "isinstance") [u, c]) Q E s := by
  cases ty with
  | non => cases (show u = Value.none from rx); exact PySem.W.kia_one PySem.W.kitx_none I.kIn True.intro e (fun z => nomatch z) h
  | bl y => cases (show u = Value.bool y from rx); exact PySem.W.kia_one PySem.W.kitx_bool I.kIn True.intro e (fun z => nomatch z) h
  | int i => obtain ⟨t, q⟩ := (show ∃ t, u = Value.int i t from rx); cases q; exact PySem.W.kia_one PySem.W.kitx_int I.kIn True.intro e (fun z => nomatch z) h
  | str y => obtain ⟨t, q⟩ := (show ∃ t, u = Value.str y t from rx); cases q; exact PySem.W.kia_one PySem.W.kitx_str I.kIn True.intro e (fun z => nomatch z) h
  | flt y => obtain ⟨t, q⟩ := (show ∃ t, u = Value.float y t from rx); cases q; exact PySem.W.kia_one PySem.W.kitx_float I.kIn True.intro e (fun z => nomatch z) h
  | @lst a xs ea =>
    cases (show u = Value.ref a from rx)
    obtain ⟨_, _, n, _, h1⟩ := (show ObjOk X.prog X.w H s.heap a (.lst xs) from I.hok a _ ea)
    exact PySem.W.kia_one PySem.W.kitx_list I.kIn ⟨_, h1, rfl⟩ e (fun z => nomatch z) h
  | @frz a ob xs ea =>
    cases (show u = Value.ref a from rx)
    obtain ⟨_, _, _, n, _, h1⟩ := (show ObjOk X.prog X.w H s.heap a (.frz ob (.lst xs)) from I.hok a _ ea)
    exact PySem.W.kia_one PySem.W.kitx_list I.kIn ⟨_, h1, rfl⟩ e (fun z => nomatch z) h
  | @tup a xs ea =>
    cases (show u = Value.ref a from rx)
    obtain ⟨_, _, _, p⟩ := (show ObjOk X.prog X.w H s.heap a (.tup xs) from I.hok a _ ea)
    obtain ⟨o, h1, h2, _⟩ := p
    exact PySem.W.kia_one PySem.W.kitx_tuple I.kIn ⟨o, h1, h2⟩ e (fun z => nomatch z) h
  | @dK a kvs ea =>
    cases (show u = Value.ref a from rx)
    obtain ⟨_, _, vs, _, p⟩ := (show ObjOk X.prog X.w H s.heap a (.dK kvs) from I.hok a _ ea)
    obtain ⟨o, es, ep, h1, h2, _⟩ := p
    exact PySem.W.kia_one PySem.W.kitx_dict I.kIn ⟨o, h1, h2.1⟩ e (fun z => nomatch z) h
  | @dT a kvs ea =>
    cases (show u = Value.ref a from rx)
    obtain ⟨_, _, xs, _, o, es, ep, h1, h2, _⟩ := (show ObjOk X.prog X.w H s.heap a (.dT kvs) from I.hok a _ ea)
    exact PySem.W.kia_one PySem.W.kitx_dict I.kIn ⟨o, h1, h2.1⟩ e (fun z => nomatch z) h
  | @ins a C dx fs ea cl ha hn htk hm =>
    cases (show u = Value.ref a from rx)
    obtain ⟨mA, O, _⟩ := ins_get I.hok ea
    obtain ⟨od, J, _⟩ := O.look
    exact PySem.W.kia_one (PySem.W.kitx_own (cl.get _) cl.hd ha hn htk hm) I.kIn J e (fun z => nomatch z) h
end
end L2
namespace L2
open PySem PySem.Spec PyProof.Rows
structure Room (k : Nat) (A : Around) : Prop where
  hd : A.handled = none
  dp : A.depth + 3 * k + 5 < recursionLimit
  un : A.units + 16 * k + 200 < cLine
theorem Room.mono {j k : Nat} {A : Around} (r : Room k A) (h : j ≤ k) : Room j A := ⟨r.hd, by have := r.dp; omega, by have := r.un; omega⟩
theorem Room.deeper {k : Nat} {A : Around} (r : Room (k + 1) A) (env : Env) : Room k (A.deeper env) :=
  ⟨r.hd, by have := r.dp; show A.depth + 1 + 3 * k + 5 < _; omega, by have := r.un; show A.units + 3 + 16 * k + 200 < _; omega⟩
theorem make_depth {A : Around} {C : Addr} {us : List Value} {kw : List (Str × Value)} : (A.under (.builtin "type.__call__" ⟨.ref C :: us, kw⟩)).depth = A.depth + 1 := by
  first | rfl | simp [Around.under, Code.weight, Code.isCreation, Code.isGuard, Code.isCaller, Code.frames, Code.isFrame, guardIds]
theorem make_units {A : Around} {C : Addr} {us : List Value} {kw : List (Str × Value)} : (A.under (.builtin "type.__call__" ⟨.ref C :: us, kw⟩)).units = A.units + 1 := by
  first | rfl | simp [Around.under, Code.cUnits, Code.frames, Code.isFrame]
theorem Room.make {k : Nat} {A : Around} (r : Room (k + 1) A) (C : Addr) (us : List Value) (kw : List (Str × Value)) : Room k (A.under (.builtin "type.__call__" ⟨.ref C :: us, kw⟩)) :=
  ⟨r.hd, by have := r.dp; rw [make_depth]; omega, by have := r.un; rw [make_units]; omega⟩
theorem Room.depth {k : Nat} {A : Around} (r : Room k A) : A.depth < recursionLimit := by have := r.dp; omega
theorem Room.units {k : Nat} {A : Around} (r : Room k A) : A.units + 64 < cLine := by have := r.un; omega
def tNil : TA := fun _ H Q => Q [] H
def tCons (ta : TE) (tr : TA) : TA := fun σ H Q => ta σ H fun x H1 => tr σ H1 fun xs H2 => Q (x :: xs) H2
section
variable {X : Cx} {e : Expr} {es : List Expr} {te : TE} {t : TA} {pos : Pos}
theorem pa_nil : PA X [] tNil := fun _ _ _ _ H Q I h => Calls.spliced_nil ⟨[], H, I, .nil, h⟩
theorem pa_cons (ha : PE X e te) (hr : PA X es t) (hs : starEach (e :: es) X.env = (false, eval e X.env) :: starEach es X.env := by rfl) : PA X (e :: es) (tCons te t) := by
  intro pos pins s σ H Q I h
  rw [hs]
  show wpAny _ _ (spliced ((false, eval e X.env) :: backTo pos (starEach es X.env))) _ _ s
  refine Calls.spliced_cons (thn (ha pins s σ H _ I h) fun u s1 hm0 => ?_)
  obtain ⟨x, H1, I1, r1, q1⟩ := hm0
  refine thn (hr pos pins s1 σ H1 _ I1 q1) fun us s2 hm0 => ?_
  obtain ⟨xs, H2, I2, r2, q2⟩ := hm0
  exact ⟨x :: xs, H2, I2, .cons r1 r2, q2⟩
def tTup (t : TA) : TE := fun σ H Q => t σ H fun xs H1 => xs.length ≤ sizeLine ∧ ∀ p, H1 p = none → Q (.ref p) (upd H1 p (.tup xs))
def tLst (t : TA) : TE := fun σ H Q => t σ H fun xs H1 => xs.length ≤ sizeLine ∧ ∀ p, H1 p = none → Q (.ref p) (upd H1 p (.lst xs))
theorem pe_tup {x1} (h : PA X es t) : PE X (.Tuple es x1 pos) (tTup t) := by
  intro pins s σ H Q I hq
  refine wpAny_Tuple_spliced (thn (h pos pins s σ H _ I hq) fun us s1 hm0 => ?_)
  obtain ⟨xs, H1, I1, r, z, q⟩ := hm0
  refine ⟨by rw [← r.length]; exact z, ?_⟩
  have hf : H1 s1.heap.objs.size = none := I1.hok.fresh (Nat.le_refl _)
  refine ⟨.ref s1.heap.objs.size, upd H1 s1.heap.objs.size (.tup xs), I1.laid (t' := s1.toks) (fun b u e => Heap.get?_push_of_some _ e) (Nat.le_refl _) ?_, rfl, q _ hf⟩
  exact ⟨z, us, r, ⟨_, Heap.get?_push_size _ rfl, rfl, _, rfl⟩⟩
theorem pe_lst (h : PA X es t) : PE X (.List es pos) (tLst t) := by
  intro pins s σ H Q I hq
  refine wpAny_List_spliced (thn (h pos pins s σ H _ I hq) fun us s1 hm0 => ?_)
  obtain ⟨xs, H1, I1, r, z, q⟩ := hm0
  refine ⟨by rw [← r.length]; exact z, ?_⟩
  have hf : H1 s1.heap.objs.size = none := I1.hok.fresh (Nat.le_refl _)
  refine ⟨.ref s1.heap.objs.size, upd H1 s1.heap.objs.size (.lst xs), I1.laid (t' := s1.toks) (fun b u e => Heap.get?_push_of_some _ e) (Nat.le_refl _) ?_, rfl, q _ hf⟩
  exact ⟨z, us, 0, r, Heap.get?_push_size _ rfl⟩
end
abbrev Sp := List V → Hp → VK → XK → Prop
abbrev CXT := List Env → Hp → Shared → XK → Value → Shared → Prop
structure Env0 (P : Program) (w : World) (K : PySem.W.Frag) (mg : Str → Option Value) (base : Heap) (A : Around) (outer : List Env) (s : Shared) (H : Hp) : Prop where
  frames : A.frames = some outer
  mod : Mod K mg base
  bs : ∀ b o, base.get? b = some o → s.heap.get? b = some o ∧ H b = none
  bsz : base.objs.size ≤ s.heap.objs.size
  funs : s.heap.FunFrames base outer
  frf : ∀ b ∈ frs outer, H b = none
  hok : HOk P w H s.heap
  bare : AllBare s.gens
def CE (outer : List Env) (P : Program) (w : World) (H : Hp) (s : Shared) (Q : VK) (u : Value) (s' : Shared) : Prop :=
  ∃ v H', s'.os = s.os ∧ AllBare s'.gens ∧ Un (frs outer) [] H H' s.heap s'.heap ∧ HOk P w H' s'.heap ∧ RelV v u ∧ Q v H'
def CR (CX : CXT) (outer : List Env) (P : Program) (w : World) (H : Hp) (s : Shared) (Q : VK) (E : XK) (r : Result) (s' : Shared) : Prop :=
  match r with
  | .ok (.ret u) => CE outer P w H s Q u s'
  | .ok _ => False
  | .error e => CX outer H s E e s'
structure FnOk (P : Program) (w : World) (K : PySem.W.Frag) (mg : Str → Option Value) (base : Heap) (CX : CXT) (k : Nat) (f : Addr) (fd : FuncData) (ps : List Str) (sp : Sp) : Prop where
  len : ∀ vs H Q E, sp vs H Q E → vs.length = ps.length
  run : ∀ (A : Around) (outer : List Env) (s : Shared) (H : Hp) (args : Args) (us : List Value) (vs : List V) (Q : VK) (E : XK), Room k A → Env0 P w K mg base A outer s H → BindsTo s fd args (ps.zip us) → Vals vs us → sp vs H Q E →
    codeAny (model P w) A (.call (.ref f) args) (CR CX outer P w H s Q E) s
theorem Env0.make {P : Program} {w : World} {K : PySem.W.Frag} {mg : Str → Option Value} {base : Heap} {A : Around} {outer : List Env} {s : Shared} {H : Hp} (e : Env0 P w K mg base A outer s H) (C : Addr) (us : List Value) (kw : List (Str × Value)) :
    Env0 P w K mg base (A.under (.builtin "type.__call__" ⟨.ref C :: us, kw⟩)) outer s H := ⟨by first | exact e.frames | (simpa [Around.under, Code.envs, Code.isFrame, pushEnvs] using e.frames), e.mod, e.bs, e.bsz, e.funs, e.frf, e.hok, e.bare⟩
section
variable {X : Cx} {pins : List (Addr × Obj)} {σ : St} {H : Hp} {s s' : Shared}
theorem Inv.env0 (I : Inv X pins σ H s) : Env0 X.prog X.w X.K X.mg X.base X.A X.stack s H :=
  ⟨I.ok.frames, I.ok.mod, I.bs, Nat.le_trans I.ok.bsz I.sz, I.stack, I.stkFree, I.hok, I.bare⟩
theorem Inv.after {Q : VK} {u : Value} (I : Inv X pins σ H s) (h : CE X.stack X.prog X.w H s Q u s') : EP X pins σ Q u s' := by
  obtain ⟨v, H', os, bare, un, hok, r, q⟩ := h
  obtain ⟨hh, g, d, t, os'⟩ := s'
  obtain rfl : os' = s.os := os
  exact ⟨v, H', I.call (h' := hh) (g' := g) (d' := d) (t' := t) (ch := []) un hok bare (fun b z => absurd z (by simp)), r, q⟩
end
def tCall (sp : Sp) (dvs : List V) (E : XK) (t : TA) : TE := fun σ H Q => t σ H fun vs H1 => sp (vs ++ dvs) H1 Q E
def tMeth (C : Addr) (m : Str) (sp : Sp) (dvs : List V) (E : XK) (ta : TE) (t : TA) : TE := fun σ H Q => ta σ H fun x H1 => ∃ a dx fs, x = .ref a ∧ H1 a = some (.ins C dx fs) ∧ fs.lookup m = none ∧
  t σ H1 fun vs H2 => sp (x :: (vs ++ dvs)) H2 Q E
def tMake (C : Addr) (sp : Sp) (dvs : List V) (E : XK) (t : TA) : TE := fun σ H Q => t σ H fun vs H1 => ∀ x dx, H1 x = none → H1 dx = none → dx ≠ x →
  sp (.ref x :: (vs ++ dvs)) (upd (upd H1 dx (.own x)) x (.ins C dx [])) (fun v H2 => v = .non ∧ Q (.ref x) H2) E
def Binds (K : PySem.W.Frag) (fd : FuncData) (ps : List Str) (ds : List Value) : Prop :=
  ∀ (s : Shared) (us : List Value), K.In s.heap → (us ++ ds).length = ps.length → BindsTo s fd ⟨us, []⟩ (ps.zip (us ++ ds))
theorem Binds.all {K : PySem.W.Frag} {fd : FuncData} {ps : List Str} (h : ∀ us : List Value, us.length = ps.length → bindArgs fd ⟨us, []⟩ = pure (ps.zip us)) : Binds K fd ps [] := fun s us _ hl => by
  rw [List.append_nil] at hl ⊢
  exact .of_eq (h us hl)
def Passes (CX : CXT) (X : Cx) (E : XK) : Prop := ∀ (pins : List (Addr × Obj)) (σ : St) (H : Hp) (s : Shared) (e : Value) (s' : Shared), Inv X pins σ H s → CX X.stack H s E e s' → X.xe e s'
section
variable {X : Cx} {CX : CXT} {k : Nat} {f C : Addr} {fd : FuncData} {ps : List Str} {sp : Sp} {dvs : List V} {ds : List Value} {E : XK} {x m : Str} {p pos apos : Pos} {e o : Expr} {es : List Expr} {ta : TE} {t : TA}
theorem run_fn {pins : List (Addr × Obj)} {σ : St} {H : Hp} {s : Shared} {Q : VK} {us : List Value} {vs : List V} (F : FnOk X.prog X.w X.K X.mg X.base CX k f fd ps sp) (hr : Room k X.A) (hb : Binds X.K fd ps ds) (hd : Vals dvs ds) (hx : Passes CX X E)
    (I : Inv X pins σ H s) (r : Vals vs us) (h : sp (vs ++ dvs) H Q E) : wpAny (model X.prog X.w) X.A (call (.ref f) us) (EP X pins σ Q) X.xe s := by
  have r2 : Vals (vs ++ dvs) (us ++ ds) := r.append hd
  have hl : (us ++ ds).length = ps.length := by rw [← r2.length]; exact F.len _ _ _ _ h
  refine wpAny_call (codeAny_mono (F.run X.A X.stack s H ⟨us, []⟩ (us ++ ds) (vs ++ dvs) Q E hr I.env0 (hb s us I.kIn hl) r2 h) fun r s' hq => ?_)
  cases r with
  | error e => exact hx pins σ H s e s' I hq
  | ok fl =>
    cases fl with
    | ret u => exact I.after hq
    | next => exact False.elim hq
    | brk => exact False.elim hq
    | cont => exact False.elim hq
theorem pe_call (F : FnOk X.prog X.w X.K X.mg X.base CX k f fd ps sp) (hr : Room k X.A) (hg : Gl X x) (hm : X.mg x = some (.ref f)) (hk : PySem.W.keepIn X.K (.ref f) = true) (hb : Binds X.K fd ps ds) (hd : Vals dvs ds) (hx : Passes CX X E)
    (ha : PA X (e :: es) t) (hdb : (x == ("__debug__" : Str)) = false := by decide) (he : starEach (e :: es) X.env = (false, eval e X.env) :: starEach es X.env := by rfl) (hpl : (backTo pos (starEach es X.env)).any (·.1) = false := by rfl) :
    PE X (.Call (.Name x p) (e :: es) [] pos) (tCall sp dvs E t) := by
  intro pins s σ H Q I h
  refine wpAny_Call_Name_kw (ld_glob I hg hm ?_ hdb)
  refine PySem.W.callWith_K (h₀ := X.base) I.ok.mod.kin hk (thn (ha pos pins s σ H _ I h) fun us s1 hm0 => ?_) he hpl
  obtain ⟨vs, H1, I1, r, q⟩ := hm0
  refine ⟨I1.kIn, ?_⟩
  exact run_fn F hr hb hd hx I1 r q
theorem pe_meth {pl : Sem Bool} (he : PE X o ta) (c : Cls X.K C) (hm : Meth X.K C m f) (F : FnOk X.prog X.w X.K X.mg X.base CX k f fd ps sp) (hr : Room k X.A) (hb : Binds X.K fd ps ds) (hd : Vals dvs ds) (hx : Passes CX X E) (ha : PA X (e :: es) t)
    (hst : starEach (e :: es) X.env = (false, eval e X.env) :: starEach es X.env := by rfl) (hpl : (backTo pos (starEach es X.env)).any (·.1) = false := by rfl)
    (ht : eval (.Call (.Attribute o m apos) (e :: es) [] pos) X.env = (do
      let ov ← eval o X.env
      standAt apos.atName
      let (f, first) ← holding [ov] (getMethod ov m pl)
      callWith pos f first (backTo pos (starEach (e :: es) X.env)) (backToKw pos (keywordEach [] X.env))) := by rfl) :
    PE X (.Call (.Attribute o m apos) (e :: es) [] pos) (tMeth C m sp dvs E ta t) := by
  intro pins s σ H Q I h
  refine PySem.W.methodCall_KW (pl := pl) (thn (he pins s σ H _ I h) fun u s1 hm0 => ?_) ht
  obtain ⟨x, H1, I1, rx, a, dx, fs, ex, ea, l, q⟩ := hm0
  subst ex
  obtain rfl : u = Value.ref a := rx
  refine getmeth_ok I1 ea c hm l ?_
  refine PySem.W.callWith_K (first := [.ref a]) (h₀ := X.base) I.ok.mod.kin hm.kp (thn (ha pos pins s1 σ H1 _ I1 q) fun us s2 hm0 => ?_) hst hpl
  obtain ⟨vs, H2, I2, r, q2⟩ := hm0
  refine ⟨I2.kIn, ?_⟩
  exact run_fn (us := .ref a :: us) (vs := .ref a :: vs) F hr hb hd hx I2 (.cons rfl r) q2
structure Mk (K : PySem.W.Frag) (C f : Addr) : Prop where
  makes : PySem.W.makesIn K C = true
  init : PySem.W.findIn K (.ref C) "__init__" = some (some (.ref f))
  fn : PySem.W.isFn K (.ref f) = true
  kp : PySem.W.keepIn K (.ref C) = true
theorem run_make {pins : List (Addr × Obj)} {σ : St} {H : Hp} {s : Shared} {Q : VK} {us : List Value} {vs : List V} (M : Mk X.K C f) (F : FnOk X.prog X.w X.K X.mg X.base CX k f fd ps sp) (hr : Room (k + 1) X.A) (hb : Binds X.K fd ps ds) (hd : Vals dvs ds)
    (hx : Passes CX X E) (I : Inv X pins σ H s) (r : Vals vs us)
    (h : ∀ x dx, H x = none → H dx = none → dx ≠ x → sp (.ref x :: (vs ++ dvs)) (upd (upd H dx (.own x)) x (.ins C dx [])) (fun v H2 => v = .non ∧ Q (.ref x) H2) E) :
    wpAny (model X.prog X.w) X.A (call (.ref C) us) (EP X pins σ Q) X.xe s := by
  have hq := h (s.heap.objs.size + 1) s.heap.objs.size (I.hok.fresh (Nat.le_succ _)) (I.hok.fresh (Nat.le_refl _)) (Nat.ne_of_lt (Nat.lt_succ_self _))
  have I2 := Inv.made (C := C) I
  have r2 : Vals (V.ref (s.heap.objs.size + 1) :: (vs ++ dvs)) (Value.ref (s.heap.objs.size + 1) :: (us ++ ds)) := .cons rfl (r.append hd)
  have hl : (Value.ref (s.heap.objs.size + 1) :: us ++ ds).length = ps.length := by
    have e := r2.length
    rw [F.len _ _ _ _ hq] at e
    exact e.symm
  refine wpAny_call (make_map (f := f) I.kIn M.makes M.init (beq_iff_eq.mp M.fn) (codeAny_mono (F.run _ X.stack _ _ ⟨Value.ref (s.heap.objs.size + 1) :: us, []⟩ (Value.ref (s.heap.objs.size + 1) :: (us ++ ds)) _ _ E (hr.make C us [])
    (I2.env0.make C us []) (hb _ (Value.ref (s.heap.objs.size + 1) :: us) I2.kIn hl) r2 hq) fun r s' hq' => ?_))
  cases r with
  | error e => exact hx pins σ _ _ e s' I2 hq'
  | ok fl =>
    cases fl with
    | ret u =>
      obtain ⟨v, H', I3, rv, ev, q3⟩ := I2.after hq'
      subst ev
      exact ⟨rv, ⟨V.ref (s.heap.objs.size + 1), H', I3, rfl, q3⟩⟩
    | next => exact False.elim hq'
    | brk => exact False.elim hq'
    | cont => exact False.elim hq'
theorem pe_make (M : Mk X.K C f) (F : FnOk X.prog X.w X.K X.mg X.base CX k f fd ps sp) (hr : Room (k + 1) X.A) (hg : Gl X x) (hm : X.mg x = some (.ref C)) (hb : Binds X.K fd ps ds) (hd : Vals dvs ds) (hx : Passes CX X E)
    (ha : PA X (e :: es) t) (hdb : (x == ("__debug__" : Str)) = false := by decide) (he : starEach (e :: es) X.env = (false, eval e X.env) :: starEach es X.env := by rfl) (hpl : (backTo pos (starEach es X.env)).any (·.1) = false := by rfl) :
    PE X (.Call (.Name x p) (e :: es) [] pos) (tMake C sp dvs E t) := by
  intro pins s σ H Q I h
  refine wpAny_Call_Name_kw (ld_glob I hg hm ?_ hdb)
  refine PySem.W.callWith_K (h₀ := X.base) I.ok.mod.kin M.kp (thn (ha pos pins s σ H _ I h) fun us s1 hm0 => ?_) he hpl
  obtain ⟨vs, H1, I1, r, q⟩ := hm0
  refine ⟨I1.kIn, ?_⟩
  exact run_make M F hr hb hd hx I1 r q
end
section
variable {X : Cx} {CX : CXT} {k : Nat} {f C : Addr} {fd : FuncData} {ps ks : List Str} {sp : Sp} {E : XK} {x m : Str} {p pos apos kpos : Pos} {e o : Expr} {es : List Expr} {kws : List Keyword} {te ta : TE} {t tk : TA} {nm : Option Str}
variable {g : List Value → List Value → List Value} {gV : List V → List V → List V}
end
structure FnScope (N P : List Str) (sc : Scope) : Prop where
  kind : sc.kind = .function
  co : sc.isCoroutine = false
  gen : sc.isGenerator = false
  nd : N.Nodup
  pre : N.take P.length = P
  par : ∀ x ∈ P, sc.names.lookup x = some .local ∨ sc.names.lookup x = some .cell
  nofree : ∀ y ∈ sc.names, y.2 ≠ .free
theorem bindL_out {kindOf : Str → Option NameKind} {x : Str} : ∀ {binds : List (Str × Value)} {m : Str → Option Value}, (∀ v, (x, v) ∉ binds) → bindL kindOf binds m x = m x
  | [], _, _ => rfl
  | (n, v) :: r, m, h => by
    unfold bindL
    rw [bindL_out fun w hw => h w (List.mem_cons_of_mem _ hw)]
    split
    · have : x ≠ n := by rintro rfl; exact h v List.mem_cons_self
      simp [this]
    · rfl
theorem bindC_out {kindOf : Str → Option NameKind} {x : Str} : ∀ {binds : List (Str × Value)} {m : Str → Option Value}, (∀ v, (x, v) ∉ binds) → bindC kindOf binds m x = m x
  | [], _, _ => rfl
  | (n, v) :: r, m, h => by
    unfold bindC
    rw [bindC_out fun w hw => h w (List.mem_cons_of_mem _ hw)]
    split
    · rfl
    · have : x ≠ n := by rintro rfl; exact h v List.mem_cons_self
      simp [this]
theorem bindL_get {kindOf : Str → Option NameKind} {x : Str} {v : Value} : ∀ {P : List Str} {vs : List Value} {i : Nat} {m : Str → Option Value}, P.Nodup → P[i]? = some x → vs[i]? = some v → kindOf x = some .local →
    bindL kindOf (P.zip vs) m x = some v
  | [], _, _, _, _, h, _, _ => by simp at h
  | _ :: _, [], _, _, _, _, h, _ => by simp at h
  | p :: P, w :: vs, 0, m, nd, h1, h2, hk => by
    simp at h1 h2; subst h1; subst h2
    show bindL kindOf ((p, w) :: P.zip vs) m p = _
    unfold bindL
    rw [bindL_out fun v hv => (List.nodup_cons.mp nd).1 (List.of_mem_zip hv).1, if_pos hk]
    simp
  | p :: P, w :: vs, i + 1, m, nd, h1, h2, hk => by
    show bindL kindOf ((p, w) :: P.zip vs) m x = _
    unfold bindL
    exact bindL_get (i := i) (List.nodup_cons.mp nd).2 (by simpa using h1) (by simpa using h2) hk
theorem bindC_get {kindOf : Str → Option NameKind} {x : Str} {v : Value} : ∀ {P : List Str} {vs : List Value} {i : Nat} {m : Str → Option Value}, P.Nodup → P[i]? = some x → vs[i]? = some v → kindOf x ≠ some .local →
    bindC kindOf (P.zip vs) m x = some v
  | [], _, _, _, _, h, _, _ => by simp at h
  | _ :: _, [], _, _, _, _, h, _ => by simp at h
  | p :: P, w :: vs, 0, m, nd, h1, h2, hk => by
    simp at h1 h2; subst h1; subst h2
    show bindC kindOf ((p, w) :: P.zip vs) m p = _
    unfold bindC
    rw [bindC_out fun v hv => (List.nodup_cons.mp nd).1 (List.of_mem_zip hv).1, if_neg hk]
    simp
  | p :: P, w :: vs, i + 1, m, nd, h1, h2, hk => by
    show bindC kindOf ((p, w) :: P.zip vs) m x = _
    unfold bindC
    exact bindC_get (i := i) (List.nodup_cons.mp nd).2 (by simpa using h1) (by simpa using h2) hk
def start (N : List Str) (vs : List V) : St := vs.map some ++ List.replicate (N.length - vs.length) none
def cxOf (CX : CXT) (P : Program) (w : World) (K : PySem.W.Frag) (mg : Str → Option Value) (base : Heap) (N : List Str) (qual : Str) (scope : Scope) (f : Addr) (cd : Value) (A : Around) (outer : List Env) (s : Shared) (H : Hp) (E : XK) : Cx where
  prog := P
  w := w
  K := K
  mg := mg
  base := base
  A := A.deeper (envOfC qual scope s.heap.objs.size f cd)
  N := N
  s₀ := s
  H₀ := H
  env := envOfC qual scope s.heap.objs.size f cd
  outer := outer
  stack := envOfC qual scope s.heap.objs.size f cd :: outer
  ex := []
  calm := true
  fn := fun _ => true
  pn := []
  xe := fun e s' => wpAny (model P w) (A.deeper (envOfC qual scope s.heap.objs.size f cd)) (leaving (envOfC qual scope s.heap.objs.size f cd) e) (fun _ s'' => CX outer H s E e s'') (fun e' s'' => CX outer H s E e' s'') s'
theorem cell_has {sc : Scope} {n : Nat} {x : Str} (h : sc.names.lookup x = some .cell) : ∃ c, (cellsFrom n sc.names []).lookup x = some c := by
  have q := PySem.W.cellsFrom_some sc.names n [] (.inl h)
  exact Option.isSome_iff_exists.mp q
theorem inv_start {CX : CXT} {P : Program} {w : World} {K : PySem.W.Frag} {mg : Str → Option Value} {base : Heap} {N ps : List Str} {qual : Str} {scope : Scope} {f : Addr} {cd : Value} {A : Around} {outer : List Env} {s s1 : Shared} {H : Hp} {E : XK} {us : List Value} {vs : List V}
    (S : FnScope N ps scope) (hd : A.handled = none) (e0 : Env0 P w K mg base A outer s H) (hl : vs.length = ps.length) (r : Vals vs us)
    (x : InCallC s s.heap.objs.size (bindL (envOfC qual scope s.heap.objs.size f cd).kindOf (ps.zip us) fun _ => none) (cellsFrom (s.heap.objs.size + 1) scope.names []) (bindC (envOfC qual scope s.heap.objs.size f cd).kindOf (ps.zip us) fun _ => none) s1) :
    Inv (cxOf CX P w K mg base N qual scope f cd A outer s H E) [] (start N vs) H s1 := by
  have hpl : ps.length ≤ N.length := by have := congrArg List.length S.pre; rw [List.length_take] at this; omega
  obtain ⟨h1, tk, rfl, hk⟩ := x.done
  have noA : ∀ b : Addr, b ∉ (cxOf CX P w K mg base N qual scope f cd A outer s H E).ex := fun b z => absurd (show b ∈ ([] : List Addr) from z) (by simp)
  refine ⟨⟨e0.mod, S.kind, rfl, rfl, Nat.le_refl _, fun y z c h1 h2 => ?_, fun y hy => ?_, fun y c _ h => ?_, fun _ => hd, Around.frames_deeper e0.frames, .inr ⟨rfl, rfl⟩, fun b z => absurd z (noA b), e0.bs, e0.bsz, fun b _ _ => noA b, fun b z => absurd z (noA b), e0.funs, e0.frf⟩,
    rfl, e0.bare, Un.kept hk, ⟨_, x.toInCall.ns, fun i y v h1 h2 h3 => ?_⟩, fun y c h => ⟨_, x.cell y c h⟩, e0.hok.fresh (Nat.le_refl _), fun y c h => ?_, fun p hp => absurd (show p ∈ ([] : List (Addr × Obj)) from hp) (by simp), e0.hok.kept hk, ?_⟩
  · exact name_of_addr x.apart (PySem.mem_of_lookup h1) (PySem.mem_of_lookup h2)
  · have hy : scope.names.lookup y = some .cell ∨ scope.names.lookup y = some .free := hy
    rcases hy with hy | hy
    · exact cell_has hy
    · exact absurd rfl (S.nofree _ (PySem.mem_of_lookup hy))
  · exact Nat.le_of_lt (x.above y c (PySem.mem_of_lookup h))
  · have hi : i < vs.length := by
      unfold start at h2
      by_cases hi : i < vs.length
      · exact hi
      · rw [List.getElem?_append_right (by simpa using hi)] at h2
        rw [List.getElem?_replicate] at h2
        split at h2 <;> cases h2
    have ha : vs[i]? = some v := by
      unfold start at h2
      rw [List.getElem?_append_left (by simpa using hi), List.getElem?_map] at h2
      cases e : vs[i]? with
      | none => rw [e] at h2; cases h2
      | some a => rw [e] at h2; cases h2; rfl
    obtain ⟨u, hu, rv⟩ := r.get ha
    have hp : ps[i]? = some y := by
      rw [← S.pre, List.getElem?_take_of_lt (by omega)]; exact h1
    have ndP : ps.Nodup := by rw [← S.pre]; exact S.nd.sublist (List.take_sublist _ _)
    refine ⟨u, rv, ?_⟩
    rcases S.par y (List.mem_of_getElem? hp) with k | k
    · exact .inl ⟨k, bindL_get ndP hp hu k⟩
    · obtain ⟨c, e⟩ := cell_has (n := s.heap.objs.size + 1) k
      refine .inr ⟨.inl k, c, e, ?_⟩
      have q := x.cell y c e
      rw [bindC_get ndP hp hu (by show scope.names.lookup y ≠ _; rw [k]; decide)] at q
      exact q
  · exact e0.hok.fresh (Nat.le_of_lt (x.above y c (PySem.mem_of_lookup h)))
  · unfold start
    show _ = N.length
    rw [List.length_append, List.length_map, List.length_replicate]
    omega
theorem fn_of {CX : CXT} {P : Program} {w : World} {K : PySem.W.Frag} {mg : Str → Option Value} {base : Heap} {k : Nat} {f : Addr} {name qual : Str} {params : Arguments} {body : List Stmt} {scope : Scope} {dV kV doc pm cdv ct oc : Value} {an od : Option Addr}
    {osl : Array (Option Value)} {N ps : List Str} {sp : Sp} (lk : K.lookup f = some ⟨oc, od, .func (PySem.W.fnOf name qual params body scope dV kV doc pm an cdv ct), osl⟩) (hcd : PySem.W.codeIn K cdv qual = true) (S : FnScope N ps scope)
    (len : ∀ vs H Q E, sp vs H Q E → vs.length = ps.length)
    (hbody : ∀ (A : Around) (outer : List Env) (s : Shared) (H : Hp) (vs : List V) (Q : VK) (E : XK), Room k (A.deeper (envOfC qual scope s.heap.objs.size f cdv)) → sp vs H Q E →
      ∃ t, PSs (cxOf CX P w K mg base N qual scope f cdv A outer s H E) body t ∧ t { nx := fun _ H' => Q .non H', rt := Q } (start N vs) H) :
    FnOk P w K mg base CX (k + 1) f (PySem.W.fnOf name qual params body scope dV kV doc pm an cdv ct) ps sp := by
  refine ⟨len, fun A outer s H args us vs Q E hr e0 hb r hsp => ?_⟩
  have hl := len _ _ _ _ hsp
  have KX : K.In s.heap := e0.mod.kin.keeps fun b o e => (e0.bs b o e).1
  have lim : s.heap.NoLimit := e0.mod.nolimit.keeps fun b o e => (e0.bs b o e).1
  have hkind : ∀ y ∈ ps.zip us, scope.names.lookup y.1 = some .local ∨ (scope.names.lookup y.1 = some .cell ∧ ((cellsFrom (s.heap.objs.size + 1) scope.names []).lookup y.1).isSome = true) := fun ⟨n, v⟩ hy => by
    rcases S.par n (List.of_mem_zip hy).1 with q | q
    · exact .inl q
    · exact .inr ⟨q, PySem.W.cellsFrom_some _ _ _ (.inl q)⟩
  refine codeAny_call_function hr.depth (KX _ _ lk) rfl S.co S.gen rfl (PySem.W.codeRec_of KX hcd) (hb _ _ _ _ ?_)
  refine wpAny_newFunctionEnv_cells S.kind hkind fun env he s1 x => ?_
  subst he
  refine ⟨lim.keeps x.toInCall.keep, codeAny_func ?_⟩
  obtain ⟨t, ht, hq⟩ := hbody A outer s H vs Q E (hr.deeper _) hsp
  have I : Inv (cxOf CX P w K mg base N qual scope f cdv A outer s H E) [] (start N vs) H s1 := inv_start S hr.hd e0 hl r x
  refine wpAny_mono (ht [] s1 (start N vs) H _ I hq) (fun fl s' hs => ?_) fun e s' hs => hs
  have fin : ∀ {σ' : St} {H' : Hp} {v : V} {u : Value}, Inv (cxOf CX P w K mg base N qual scope f cdv A outer s H E) [] σ' H' s' → RelV v u → Q v H' → CE outer P w H s Q u s' :=
    fun {σ' H' v u} J rv q => ⟨v, H', J.os, J.bare, J.base, J.hok, rv, q⟩
  cases fl with
  | ret u =>
    obtain ⟨v, σ', H', J, rv, q⟩ := hs
    exact fin J rv q
  | next =>
    obtain ⟨σ', H', J, q⟩ := hs
    exact fin (v := V.non) (u := Value.none) J rfl q
  | brk =>
    obtain ⟨_, _, _, q⟩ := hs
    exact False.elim q
  | cont =>
    obtain ⟨_, _, _, q⟩ := hs
    exact False.elim q
end L2
namespace L2
open PySem PySem.Spec PyProof.Rows
section
variable {X : Cx} {x : Str} {p pos : Pos} {e : Expr} {es : List Expr} {t : TA} {id T : String} {r : List V → Hp → VK → Prop}
def tCB (r : List V → Hp → VK → Prop) (t : TA) : TE := fun σ H Q => t σ H fun vs H1 => r vs H1 Q
theorem pe_callB (hc : CallR X (.builtin id) r) (hg : Gl X x) (hm : X.mg x = none) (hv : bootBuiltins x = some (.builtin id)) (ha : PA X (e :: es) t) (hn : x ≠ "__name__" := by decide) (hdb : (x == ("__debug__" : Str)) = false := by decide)
    (he : starEach (e :: es) X.env = (false, eval e X.env) :: starEach es X.env := by rfl) (hpl : (backTo pos (starEach es X.env)).any (·.1) = false := by rfl) : PE X (.Call (.Name x p) (e :: es) [] pos) (tCB r t) := by
  intro pins s σ H Q I h
  refine wpAny_Call_Name_kw (ld_blt I hg hm hv ?_ hn hdb)
  refine PyProof.Rows.callWith_builtin1 (thn (ha pos pins s σ H _ I h) fun us s1 hm0 => ?_) he hpl
  obtain ⟨vs, H1, I1, r1, q1⟩ := hm0
  exact hc pins s1 σ H1 vs us Q I1 r1 q1
theorem pe_callTy (hc : CallR X (.type T) r) (hg : Gl X x) (hm : X.mg x = none) (hv : bootBuiltins x = some (.type T)) (ha : PA X (e :: es) t) (hn : x ≠ "__name__" := by decide) (hdb : (x == ("__debug__" : Str)) = false := by decide)
    (he : starEach (e :: es) X.env = (false, eval e X.env) :: starEach es X.env := by rfl) (hpl : (backTo pos (starEach es X.env)).any (·.1) = false := by rfl) : PE X (.Call (.Name x p) (e :: es) [] pos) (tCB r t) := by
  intro pins s σ H Q I h
  refine wpAny_Call_Name_kw (ld_blt I hg hm hv ?_ hn hdb)
  refine PyProof.Rows.callWith_type1 (thn (ha pos pins s σ H _ I h) fun us s1 hm0 => ?_) he hpl
  obtain ⟨vs, H1, I1, r1, q1⟩ := hm0
  exact hc pins s1 σ H1 vs us Q I1 r1 q1
end
end L2
namespace HT
open PySem PyProof.Rows
section
open PySem.SeqAt
open PySem.AutoSeq1 (wpAny_loadPart')
open PySem.MeetsSeq PySem.MeetsSeq2 PySem.MeetsSeq3
end
section
variable {prog : Program} {w : World} {A : Around} {E : Value → Shared → Prop} {s : Shared}
def sIx (n d : Nat) : Option Int → Nat
  | none => d
  | some v => if v < 0 then (v + (n : Int)).toNat else min v.toNat n
theorem sIx_none (n d : Nat) : sIx n d none = d := rfl
theorem sIx_nat (n d k : Nat) : sIx n d (some (k : Int)) = min k n := by
  show (if (k : Int) < 0 then ((k : Int) + (n : Int)).toNat else min (k : Int).toNat n) = min k n
  rw [if_neg (by omega), Int.toNat_natCast]
theorem sIx_le (n d : Nat) (hd : d ≤ n) (o : Option Int) : sIx n d o ≤ n := by
  cases o with
  | none => exact hd
  | some v =>
    show (if v < 0 then (v + (n : Int)).toNat else min v.toNat n) ≤ n
    by_cases hv : v < 0
    · rw [if_pos hv]; omega
    · rw [if_neg hv]; exact Nat.min_le_right _ _
theorem clip_eq (v : Int) (n d : Nat) : (if v < 0 then max (v + (n : Int)) 0 else min v (n : Int)) = ((sIx n d (some v) : Nat) : Int) := by
  show (if v < 0 then max (v + (n : Int)) 0 else min v (n : Int)) = (((if v < 0 then (v + (n : Int)).toNat else min v.toNat n) : Nat) : Int)
  by_cases hv : v < 0
  · simp only [if_pos hv]; omega
  · simp only [if_neg hv]; omega
theorem adjust_gen (lo hi : Option Int) (n : Nat) : Builtin.Slice.sliceAdjust lo hi 1 (n : Int) = (((sIx n 0 lo : Nat) : Int), ((sIx n n hi : Nat) : Int)) := by
  have h1 : ¬ ((1 : Int) < 0) := by omega
  unfold Builtin.Slice.sliceAdjust
  simp only [h1, if_false]
  refine Prod.ext ?_ ?_
  · cases lo with
    | none => rfl
    | some v => exact clip_eq v n 0
  · cases hi with
    | none => rfl
    | some v => exact clip_eq v n n
theorem places_gen (i j : Nat) : Builtin.Slice.slicePlaces (i : Int) (j : Int) 1 = j - i := by
  unfold Builtin.Slice.slicePlaces
  have h1 : (1 : Int) > 0 := by omega
  simp only [h1, if_true, Int.ediv_one]
  split <;> omega
theorem slicePart_ {v : Value} {o : Option Int} {Q : Option Int → Shared → Prop} (p : IsPart v o) (h : Q o s) : wpAny (model prog w) A (Builtin.Slice.slicePartIndex v) Q E s := by
  cases p with
  | none => exact slicePart_none h
  | int i t => exact slicePart_int h
theorem sliceApplied_gen {sl : Addr} {vl vu : Value} {lo hi : Option Int} {n : Nat} {Q : Int × Int × Nat → Shared → Prop} (hs : s.heap.IsSliceOf sl vl vu .none) (pl : IsPart vl lo) (pu : IsPart vu hi)
    (h : Q (((sIx n 0 lo : Nat) : Int), 1, sIx n n hi - sIx n 0 lo) s) : wpAny (model prog w) A (Builtin.Slice.sliceApplied (.ref sl) (pure (n : Int))) Q E s := by
  obtain ⟨os, hos, hcs, hds⟩ := id hs
  unfold Builtin.Slice.sliceApplied Builtin.Slice.sliceFields
  refine wpAny_bind (wpAny_bind (wpAny_field hos hds (x := vl) rfl (wpAny_bind (wpAny_field hos hds (x := vu) rfl (wpAny_bind (wpAny_field hos hds (x := .none) rfl (wpAny_pure ?_)))))))
  refine wpAny_bind (slicePart_none ?_)
  show wpAny _ _ (if ((1 : Int) == 0) = true then _ else _) _ _ s
  rw [if_neg (by decide)]
  refine wpAny_bind (slicePart_ pl (wpAny_bind (slicePart_ pu (wpAny_bind (wpAny_pure ?_)))))
  show wpAny _ _ (match Builtin.Slice.sliceAdjust lo hi 1 (n : Int) with | (lo, hi) => pure (lo, (1 : Int), Builtin.Slice.slicePlaces lo hi 1)) _ _ s
  rw [adjust_gen lo hi n]
  show wpAny _ _ (pure (((sIx n 0 lo : Nat) : Int), (1 : Int), Builtin.Slice.slicePlaces ((sIx n 0 lo : Nat) : Int) ((sIx n n hi : Nat) : Int) 1)) _ _ s
  rw [places_gen]
  exact wpAny_pure h
theorem pick_gen (xs : Array Value) (i k : Nat) : ((List.range k).filterMap fun (m : Nat) => xs[((i : Int) + (m : Int) * 1).toNat]?).toArray = ((xs.toList.drop i).take k).toArray := by
  have e : (fun (m : Nat) => xs[((i : Int) + (m : Int) * 1).toNat]?) = fun m => xs[i + m]? := by
    funext m
    have : ((i : Int) + (m : Int) * 1).toNat = i + m := by omega
    rw [this]
  rw [e]
  have := pick_run xs i k
  rw [List.filterMap_map] at this
  have e2 : ((fun x => xs[x]?) ∘ fun x => i + x) = fun m => xs[i + m]? := rfl
  rw [e2] at this
  rw [this]
theorem getItem_tuple_cut {t sl : Addr} {items : Array Value} {vl vu : Value} {lo hi : Option Int} {Q : Value → Shared → Prop} (ht : IsTup s.heap t items) (hs : s.heap.IsSliceOf sl vl vu .none) (pl : IsPart vl lo) (pu : IsPart vu hi)
    (hw : ¬ (sIx items.size 0 lo = 0 ∧ sIx items.size items.size hi = items.size))
    (h : Q (.ref s.heap.objs.size) { s with heap := s.heap.push { cls := .type "tuple", data := .seq ((items.toList.drop (sIx items.size 0 lo)).take (sIx items.size items.size hi - sIx items.size 0 lo)).toArray } })
    (hsz : items.size ≤ sizeLine) : wpAny (model prog w) A (getItem (.ref t) (.ref sl)) Q E s := by
  have htake : sizeOk (.seq ((items.toList.drop (sIx items.size 0 lo)).take (sIx items.size items.size hi - sIx items.size 0 lo)).toArray) := by
    show ((items.toList.drop (sIx items.size 0 lo)).take (sIx items.size items.size hi - sIx items.size 0 lo)).toArray.size ≤ sizeLine
    rw [List.size_toArray, List.length_take, List.length_drop, Array.length_toList]
    omega
  have hj : sIx items.size items.size hi ≤ items.size := sIx_le _ _ (Nat.le_refl _) hi
  obtain ⟨os, hos, hcs, hds⟩ := id hs
  have hTs : s.TypeIs (.ref sl) "slice" := ⟨os, hos, hcs⟩
  unfold getItem
  try with_reducible refine wpAny_holding ?_
  first | refine wpAny_bind (wpAny_pure ?_) | skip
  refine wpAny_bind (wpAny_sequenceKey ht.typeIs (by decide) ?_)
  refine wpAny_bind (wpAny_callSpecial?_slot (name := Str.ofString "__getitem__") ht.typeIs PyProof.Rows.slot_tuple_getitem
    (wpAny_call_entry PyProof.Rows.slot_tuple_getitem ht.typeIs entry_tuple_getitem ?_ (args_tuple_getitem _ _)))
  show wpAny _ _ (Builtin.Tuple.tupleItemsOf (.ref t) >>= _) _ _ s
  refine wpAny_bind (tupleItemsOf_ ht ?_)
  refine wpAny_bind (wpAny_typeOf hTs ?_)
  rw [if_pos (by decide)]
  refine wpAny_bind (sliceApplied_gen hs pl pu ?_)
  have hno : ¬ ((((sIx items.size 0 lo : Nat) : Int) == 0 && (1 : Int) == 1 && (sIx items.size items.size hi - sIx items.size 0 lo) == items.size) = true) := by
    intro q
    rw [Bool.and_eq_true, Bool.and_eq_true] at q
    have q1 : ((sIx items.size 0 lo : Nat) : Int) = 0 := eq_of_beq q.1.1
    have q2 : sIx items.size items.size hi - sIx items.size 0 lo = items.size := eq_of_beq q.2
    exact hw ⟨by omega, by omega⟩
  show wpAny _ _ (if (((sIx items.size 0 lo : Nat) : Int) == 0 && (1 : Int) == 1 && (sIx items.size items.size hi - sIx items.size 0 lo) == items.size) = true then _ else _) _ _ s
  rw [if_neg hno, pick_gen]
  first
    | exact wpAny_bind (m := Builtin.Tuple.tupleExact _) (wpAny_newObj_type (wpAny_pure ⟨_, rfl, wpAny_pure h⟩) htake)
    | exact wpAny_bind (m := Builtin.Tuple.tupleExact _) (wpAny_newObj_type (wpAny_bind (wpAny_pure (wpAny_pure ⟨_, rfl, wpAny_pure h⟩))) htake)
    | exact wpAny_bind (wpAny_bind (m := Builtin.Tuple.tupleExact _) (wpAny_newObj_type (wpAny_pure (wpAny_pure ⟨_, rfl, wpAny_pure h⟩)) htake))
    | exact wpAny_bind (wpAny_bind (m := Builtin.Tuple.tupleExact _) (wpAny_newObj_type (wpAny_pure ⟨_, rfl, wpAny_pure h⟩) htake))
end
end HT
namespace L2
open PySem PySem.Spec PyProof.Rows
abbrev TO := St → Hp → (Option Int → Hp → Prop) → Prop
def PO (X : Cx) (e : Option Expr) (t : TO) : Prop :=
  ∀ (pins : List (Addr × Obj)) (s : Shared) (σ : St) (H : Hp) (Q : Option Int → Hp → Prop), Inv X pins σ H s → t σ H Q →
    wpAny (model X.prog X.w) X.A (evalPart e X.env) (fun u s' => ∃ o H', Inv X pins σ H' s' ∧ IsPart u o ∧ Q o H') X.xe s
def tNoPart : TO := fun _ H Q => Q none H
def tPart (t : TE) : TO := fun σ H Q => t σ H fun x H1 => ∃ i, x = .int i ∧ Q (some i) H1
section
variable {X : Cx} {e : Expr} {te : TE} {lo hi : Option Expr} {tl th : TO} {pos p2 : Pos}
theorem po_none : PO X none tNoPart := by
  intro pins s σ H Q I h
  rw [evalPart_none]
  exact wpAny_pure ⟨none, H, I, .none, h⟩
theorem po_some (h : PE X e te) : PO X (some e) (tPart te) := by
  intro pins s σ H Q I hw
  rw [evalPart_some]
  refine thn (h pins s σ H _ I hw) fun u s1 hm0 => ?_
  obtain ⟨x, H1, I1, r1, q1⟩ := hm0
  obtain ⟨i, rfl, q⟩ := q1
  obtain ⟨t, rfl⟩ := r1
  exact ⟨some i, H1, I1, .int i t, q⟩
def SlR (X : Cx) (r : V → Option Int → Option Int → Hp → VK → Prop) : Prop :=
  ∀ (pins : List (Addr × Obj)) (s : Shared) (σ : St) (H : Hp) (x : V) (v vl vu : Value) (lo hi : Option Int) (sl : Addr) (Q : VK), Inv X pins σ H s → RelV x v → s.heap.IsSliceOf sl vl vu .none → IsPart vl lo → IsPart vu hi → r x lo hi H Q →
    ∃ T id, typeLookup (.type T) "__getitem__" = pure (some (.builtin id)) ∧ s.TypeIs v T ∧ wpAny (model X.prog X.w) X.A (getItem v (.ref sl)) (EP X pins σ Q) X.xe s
def tSl (r : V → Option Int → Option Int → Hp → VK → Prop) (te : TE) (tl th : TO) : TE := fun σ H Q => te σ H fun x H1 => tl σ H1 fun l H2 => th σ H2 fun u H3 => r x l u H3 Q
theorem pe_slice {r : V → Option Int → Option Int → Hp → VK → Prop} (hr : SlR X r) (he : PE X e te) (hl : PO X lo tl) (hu : PO X hi th) : PE X (.Subscript e (.Slice lo hi none p2) pos) (tSl r te tl th) := by
  intro pins s σ H Q I h
  refine Subscript_ (thn (he pins s σ H _ I h) fun v s1 hm0 => ?_)
  obtain ⟨x, H1, I1, r1, q1⟩ := hm0
  refine wpAny_Slice (thn (hl pins s1 σ H1 _ I1 q1) fun vl s2 hm0 => ?_)
  obtain ⟨l, H2, I2, pl, q2⟩ := hm0
  refine thn (hu pins s2 σ H2 _ I2 q2) fun vu s3 hm1 => ?_
  obtain ⟨u, H3, I3, pu, q3⟩ := hm1
  rw [evalPart_none]
  refine wpAny_pure ?_
  have I4 : Inv X pins σ H3 { s3 with heap := s3.heap.push { cls := .type "slice", data := .fields #[vl, vu, .none] } } := I3.kept (t' := s3.toks) fun b ob q => Heap.get?_push_of_some _ q
  obtain ⟨T, id, hT, ht, hg⟩ := hr pins { s3 with heap := s3.heap.push { cls := .type "slice", data := .fields #[vl, vu, .none] } } σ H3 x v vl vu l u s3.heap.objs.size Q I4 r1 (Heap.IsSliceOf.new ..) pl pu q3
  show wpAny (model X.prog X.w) X.A (subscriptTail e (.Slice lo hi none p2) v (.ref s3.heap.objs.size)) (EP X pins σ Q) X.xe { s3 with heap := s3.heap.push { cls := .type "slice", data := .fields #[vl, vu, .none] } }
  exact tail_any (ops := [.ref s3.heap.objs.size, v]) ht hT hg (by with_unfolding_all rfl)
def cutV (xs : List V) (lo hi : Option Int) : List V := (xs.drop (HT.sIx xs.length 0 lo)).take (HT.sIx xs.length xs.length hi - HT.sIx xs.length 0 lo)
theorem cutV_length (xs : List V) (lo hi : Option Int) : (cutV xs lo hi).length ≤ xs.length := by
  unfold cutV
  rw [List.length_take, List.length_drop]
  omega
def rSlT (K : PySem.W.Frag) : V → Option Int → Option Int → Hp → VK → Prop := fun x lo hi H Q => ∃ a xs, x = .ref a ∧ SqT K H a xs ∧
  ¬ (HT.sIx xs.length 0 lo = 0 ∧ HT.sIx xs.length xs.length hi = xs.length) ∧ ∀ p, H p = none → Q (.ref p) (upd H p (.tup (cutV xs lo hi)))
theorem sl_tup : SlR X (rSlT X.K) := by
  intro pins s σ H x v vl vu lo hi sl Q I rx hs pl pu h
  obtain ⟨a, xs, rfl, hx, hw, q⟩ := h
  cases rx
  obtain ⟨its, r, ht, hz⟩ := I.tuple hx
  have hlen : its.toArray.size = xs.length := by rw [List.size_toArray]; exact r.length.symm
  refine ⟨"tuple", _, PyProof.Rows.slot_tuple_getitem.lookup, ht.typeIs, ?_⟩
  refine HT.getItem_tuple_cut ht hs pl pu (by rw [hlen]; exact hw) ?_ (by rw [hlen]; exact hz)
  rw [hlen]
  refine ⟨.ref s.heap.objs.size, _, I.laid (t' := s.toks) (o := .tup (cutV xs lo hi)) (fun b ob q => Heap.get?_push_of_some _ q) (Nat.le_refl _) ?_, rfl, q _ (I.hok.fresh (Nat.le_refl _))⟩
  exact ⟨Nat.le_trans (cutV_length xs lo hi) hz, _, (r.drop (HT.sIx xs.length 0 lo)).take (HT.sIx xs.length xs.length hi - HT.sIx xs.length 0 lo), IsTup.new _ _⟩
end
end L2
namespace L2
open PySem PySem.Spec PyProof.Rows
def ixN (n : Nat) (i : Int) : Option Nat := if 0 ≤ i then (if i < n then some i.toNat else none) else if -(n : Int) ≤ i then some (i + n).toNat else none
def atI {α : Type} (xs : List α) (i : Int) : Option α := (ixN xs.length i).bind fun j => xs[j]?
theorem ixN_seq {n : Nat} {i : Int} {j : Nat} (h : ixN n i = some j) : seqIndex? i n = some j ∧ j < n ∧ -(n : Int) ≤ i ∧ i < n := by
  unfold ixN at h
  by_cases h0 : 0 ≤ i
  · rw [if_pos h0] at h
    by_cases h1 : i < n
    · rw [if_pos h1] at h
      have e : i.toNat = j := Option.some.inj h
      exact ⟨by rw [seqIndex_of h0 h1, e], by omega, by omega, h1⟩
    · rw [if_neg h1] at h; cases h
  · rw [if_neg h0] at h
    by_cases h1 : -(n : Int) ≤ i
    · rw [if_pos h1] at h
      have e : (i + n).toNat = j := Option.some.inj h
      exact ⟨by rw [seqIndex_neg (by omega) h1, e], by omega, h1, by omega⟩
    · rw [if_neg h1] at h; cases h
theorem atI_get {α : Type} {xs : List α} {i : Int} {v : α} (h : atI xs i = some v) : ∃ j, seqIndex? i xs.length = some j ∧ xs[j]? = some v ∧ j < xs.length ∧ -(xs.length : Int) ≤ i ∧ i < xs.length := by
  unfold atI at h
  cases e : ixN xs.length i with
  | none => rw [e] at h; cases h
  | some j =>
    rw [e] at h
    obtain ⟨h1, h2, h3, h4⟩ := ixN_seq e
    exact ⟨j, h1, h, h2, h3, h4⟩
theorem atI_nat {α : Type} {xs : List α} {j : Nat} {v : α} (h : xs[j]? = some v) : atI xs (j : Int) = some v := by
  have hj : j < xs.length := (List.getElem?_eq_some_iff.mp h).1
  have e : ixN xs.length (j : Int) = some j := by
    unfold ixN
    rw [if_pos (by omega), if_pos (by omega)]; simp
  unfold atI; rw [e]; exact h
theorem atI_last {α : Type} (xs : List α) (v : α) : atI (xs ++ [v]) (-1) = some v := by
  have hl : (xs ++ [v]).length = xs.length + 1 := by simp
  have e : ixN (xs ++ [v]).length (-1) = some xs.length := by
    unfold ixN
    rw [hl, if_neg (by decide), if_pos (by omega)]
    congr 1
    omega
  unfold atI
  rw [e]
  show (xs ++ [v])[xs.length]? = some v
  simp
def PlainIx (b : Expr) : Prop := ∀ o i, subscripted b false o i = operate [o, i] (getItem o i)
def IxR (X : Cx) (r : R2) : Prop :=
  ∀ (value slice : Expr) (pins : List (Addr × Obj)) (s : Shared) (σ : St) (H : Hp) (x y : V) (v u : Value) (Q : VK), Inv X pins σ H s → RelV x v → RelV y u → r x y H Q →
    subscripted slice false v u = operate [v, u] (getItem v u) → wpAny (model X.prog X.w) X.A (subscriptTail value slice v u) (EP X pins σ Q) X.xe s
def MtR (X : Cx) (id : String) (r : V → List V → Hp → VK → Prop) : Prop :=
  ∀ (pins : List (Addr × Obj)) (s : Shared) (σ : St) (H : Hp) (x : V) (xs : List V) (v : Value) (us : List Value) (Q : VK), Inv X pins σ H s → RelV x v → Vals xs us → r x xs H Q →
    wpAny (model X.prog X.w) X.A (call (.builtin id) (v :: us)) (EP X pins σ Q) X.xe s
section
variable {X : Cx} {a b : Expr} {ta tb : TE} {pos : Pos}
theorem pe_ix {r : R2} (hr : IxR X r) (ha : PE X a ta) (hb : PE X b tb) (hs : PlainIx b) : PE X (.Subscript a b pos) (tOp r ta tb) := by
  intro pins s σ H Q I h
  exact Subscript_ (binT ha hb I h fun v u s2 x y H2 I2 rx ry q => hr a b pins s2 σ H2 x y v u Q I2 rx ry q (hs _ _))
def rIxL (K : PySem.W.Frag) : R2 := fun x y H Q => ∃ p xs i v, x = .ref p ∧ y = .int i ∧ SqL K H p xs ∧ atI xs i = some v ∧ Q v H
def rIxT (K : PySem.W.Frag) : R2 := fun x y H Q => ∃ p xs i v, x = .ref p ∧ y = .int i ∧ SqT K H p xs ∧ atI xs i = some v ∧ Q v H
theorem ix_list : IxR X (rIxL X.K) := by
  intro value slice pins s σ H x y v u Q I rx ry h hs
  obtain ⟨p, xs, i, z, rfl, rfl, hq, he, q⟩ := h
  cases rx
  obtain ⟨t, rfl⟩ := ry
  obtain ⟨its, r, pl, hz⟩ := I.list hq
  obtain ⟨j, h1, h2, h3, h4, h5⟩ := atI_get he
  obtain ⟨w, ew, rw'⟩ := r.get h2
  have hl := r.length
  have hn := line63
  have fin : EP X pins σ Q w s := ⟨z, H, I, rw', q⟩
  by_cases h0 : 0 ≤ i
  · have hj : i.toNat = j := by
      rw [seqIndex_of h0 h5] at h1
      exact Option.some.inj h1
    exact item_listR pl.isList h0 (by omega) (by rw [hj]; simpa using ew) fin hs
  · have hj : (i + (its.toArray.size : Int)).toNat = j := by
      rw [seqIndex_neg (by omega) h4] at h1
      rw [List.size_toArray, ← hl]
      exact Option.some.inj h1
    exact subscriptTail_builtinR (x := w) pl.isList.typeIs slot_list_getitem.lookup
      (wpAny_getItem_list_neg (Q := fun r s' => r = w ∧ EP X pins σ Q r s') pl.isList (by omega) (by rw [List.size_toArray] <;> omega) (by omega) (by rw [hj]; simpa using ew) ⟨rfl, fin⟩) hs
theorem ix_tup : IxR X (rIxT X.K) := by
  intro value slice pins s σ H x y v u Q I rx ry h hs
  obtain ⟨p, xs, i, z, rfl, rfl, hq, he, q⟩ := h
  cases rx
  obtain ⟨t, rfl⟩ := ry
  obtain ⟨its, r, pl, hz⟩ := I.tuple hq
  obtain ⟨j, h1, h2, h3, h4, h5⟩ := atI_get he
  obtain ⟨w, ew, rw'⟩ := r.get h2
  have hl := r.length
  have hn := line63
  have fin : EP X pins σ Q w s := ⟨z, H, I, rw', q⟩
  exact subscriptTail_builtinR (x := w) pl.typeIs slot_tuple_getitem.lookup
    (getItem_tuple (j := j) (Q := fun r s' => r = w ∧ EP X pins σ Q r s') pl (by omega) (by omega) (by rw [List.size_toArray, ← hl]; exact h1) (by simpa using ew) ⟨rfl, fin⟩) hs
theorem slice_bounds (lo hi : Option Int) (n : Nat) : (sliceBounds lo hi none n).1 = ((HT.sIx n 0 lo : Nat) : Int) ∧ (sliceBounds lo hi none n).2.1 = ((HT.sIx n n hi : Nat) : Int) ∧ (sliceBounds lo hi none n).2.2 = 1 := by
  refine ⟨?_, ?_, rfl⟩
  · cases lo with
    | none => simp [sliceBounds, HT.sIx]
    | some i =>
      simp only [sliceBounds, HT.sIx, Option.getD_none, show (1 : Int) > 0 by decide, if_true]
      by_cases h : i < 0
      · simp only [h, if_true] <;> omega
      · simp only [h, if_false] <;> omega
  · cases hi with
    | none => simp [sliceBounds, HT.sIx]
    | some i =>
      simp only [sliceBounds, HT.sIx, Option.getD_none, show (1 : Int) > 0 by decide, if_true]
      by_cases h : i < 0
      · simp only [h, if_true] <;> omega
      · simp only [h, if_false] <;> omega
theorem slicePick_cut (its : List Value) (lo hi : Option Int) : slicePick its.toArray lo hi none = ((its.drop (HT.sIx its.length 0 lo)).take (HT.sIx its.length its.length hi - HT.sIx its.length 0 lo)).toArray := by
  obtain ⟨h1, h2, h3⟩ := slice_bounds lo hi its.toArray.size
  unfold slicePick
  rw [h1, h2, h3]
  simp only [sliceRange_one, pick_run, List.size_toArray] <;> rfl
def rSlL (K : PySem.W.Frag) : V → Option Int → Option Int → Hp → VK → Prop := fun x lo hi H Q => ∃ a xs, x = .ref a ∧ SqL K H a xs ∧ ∀ p, H p = none → Q (.ref p) (upd H p (.lst (cutV xs lo hi)))
theorem sl_list : SlR X (rSlL X.K) := by
  intro pins s σ H x v vl vu lo hi sl Q I rx hs pl pu h
  obtain ⟨a, xs, rfl, hx, q⟩ := h
  cases rx
  obtain ⟨its, r, ht, hz⟩ := I.list hx
  have hlen := r.length
  refine ⟨"list", _, slot_list_getitem.lookup, ht.isList.typeIs, ?_⟩
  refine wpAny_getItem_list_slice ht.isList hs pl pu .none (by simp) ?_ (by rw [List.size_toArray] <;> omega)
  rw [slicePick_cut, ← hlen]
  refine ⟨.ref s.heap.objs.size, _, I.laid (t' := s.toks) (o := .lst (cutV xs lo hi)) (fun b ob q => Heap.get?_push_of_some _ q) (Nat.le_refl _) ?_, rfl, q _ (I.hok.fresh (Nat.le_refl _))⟩
  exact ⟨Nat.le_trans (cutV_length xs lo hi) hz, _, 0, (r.drop (HT.sIx xs.length 0 lo)).take (HT.sIx xs.length xs.length hi - HT.sIx xs.length 0 lo), Heap.get?_push_size _ rfl⟩
theorem call_len_seq : CallR X (.builtin "len") (fun xs H Q => ∃ p ys, xs = [.ref p] ∧ (SqL X.K H p ys ∨ SqT X.K H p ys) ∧ Q (.int ys.length) H) := by
  intro pins s σ H xs us Q I r h
  obtain ⟨p, ys, rfl, hq, q⟩ := h
  obtain ⟨u, rfl, rx⟩ := vals1 r
  cases rx
  have hn := line63
  rcases hq with hq | hq
  · obtain ⟨its, r', pl, hz⟩ := I.list hq
    have hlen := r'.length
    exact Calls.call_len_list pl.isList (by simp only [List.size_toArray] <;> omega) ⟨.int ys.length, H, I.tok _, ⟨s.toks + 1, by rw [List.size_toArray, hlen]⟩, q⟩
  · obtain ⟨its, r', pl, hz⟩ := I.tuple hq
    have hlen := r'.length
    exact len_tuple pl (by simp only [List.size_toArray] <;> omega) ⟨.int ys.length, H, I.tok _, ⟨s.toks + 1, by rw [List.size_toArray, hlen]⟩, q⟩
def tyV (K : PySem.W.Frag) (T : String) (x : V) (H : Hp) : Prop := match x with
  | .str _ => T = "str"
  | .int _ => T = "int"
  | .ref p => (T = "list" ∧ ∃ xs, SqL K H p xs) ∨ (T = "tuple" ∧ ∃ o, K.lookup p = some o ∧ o.cls = .type "tuple" ∧ o.dict = none) ∨
      (T = "dict" ∧ ((∃ kvs, H p = some (.dK kvs)) ∨ ∃ kvs, H p = some (.dT kvs))) ∨ (T = "set" ∧ ∃ S n, H p = some (.set S n))
  | _ => False
theorem tyV_is {pins : List (Addr × Obj)} {σ : St} {H : Hp} {s : Shared} {T : String} {x : V} {v : Value} (I : Inv X pins σ H s) (r : RelV x v) (ty : tyV X.K T x H) :
    s.TypeIs v T ∧ ∀ a, v = .ref a → ∃ ob, s.heap.get? a = some ob ∧ ob.dict = none := by
  cases x with
  | str z =>
    obtain ⟨t, rfl⟩ := r
    cases (show T = "str" from ty)
    exact ⟨typeIs_str s z t, fun _ e => nomatch e⟩
  | int i =>
    obtain ⟨t, rfl⟩ := r
    cases (show T = "int" from ty)
    exact ⟨typeIs_int s i t, fun _ e => nomatch e⟩
  | ref p =>
    cases r
    rcases ty with ⟨rfl, xs, hq⟩ | ⟨rfl, o, hk, hc, hd⟩ | ⟨rfl, hk⟩ | ⟨rfl, S, n, hk⟩
    · obtain ⟨its, _, pl, _⟩ := I.list hq
      refine ⟨pl.isList.typeIs, fun a e => ?_⟩
      cases e
      obtain ⟨o, n, e, c, hd, _⟩ := pl
      exact ⟨o, e, hd⟩
    · refine ⟨⟨o, I.kIn p o hk, hc⟩, fun a e => ?_⟩
      cases e
      exact ⟨o, I.kIn _ o hk, hd⟩
    · have z : ∃ o, s.heap.get? p = some o ∧ o.ExactDict := by
        rcases hk with ⟨kvs, hk⟩ | ⟨kvs, hk⟩
        · obtain ⟨_, _, _, _, o, _, _, e, ex, _⟩ := I.hok p _ hk
          exact ⟨o, e, ex⟩
        · obtain ⟨_, _, _, _, o, _, _, e, ex, _⟩ := I.hok p _ hk
          exact ⟨o, e, ex⟩
      obtain ⟨o, e, ex⟩ := z
      refine ⟨⟨o, e, ex.1⟩, fun a e2 => ?_⟩
      cases e2
      exact ⟨o, e, ex.2.1⟩
    · obtain ⟨o, _, _, _, e, ex, _⟩ := I.hok p _ hk
      refine ⟨⟨o, e, ex.1⟩, fun a e2 => ?_⟩
      cases e2
      exact ⟨o, e, ex.2.1⟩
  | _ => exact False.elim ty
def tBM (K : PySem.W.Frag) (T : String) (r : V → List V → Hp → VK → Prop) (to : TE) (t : TA) : TE := fun σ H Q => to σ H fun x H1 => tyV K T x H1 ∧ t σ H1 fun xs H2 => r x xs H2 Q
variable {o e : Expr} {es : List Expr} {to : TE} {t : TA} {name : Str} {apos cpos : Pos} {T id : String} {r : V → List V → Hp → VK → Prop}
theorem pe_bm (pa : PlainAttrs T) (slot : Slot T name id) (hty : typeOf (.builtin id) = pure (.type "method_descriptor")) (hm : MtR X id r) (ho : PE X o to) (ha : PA X (e :: es) t)
    (hbase : attributeBase o name X.env (eval o X.env) = eval o X.env := by rfl)
    (hfew : ((backTo cpos (starEach (e :: es) X.env)).all (fun x => !x.1) && (backToKw cpos (keywordEach [] X.env)).all (fun x => x.1.isSome)
      && decide ((e :: es).length + ([] : List Keyword).length + (if ([] : List Keyword).isEmpty then 0 else 1) < 30)) = true := by rfl)
    (hline : (apos.endLine == cpos.line) = true := by rfl) (hs : starEach (e :: es) X.env = (false, eval e X.env) :: starEach es X.env := by rfl) (hplain : (backTo cpos (starEach es X.env)).any (·.1) = false := by rfl) :
    PE X (.Call (.Attribute o name apos) (e :: es) [] cpos) (tBM X.K T r to t) := by
  intro pins s σ H Q I h
  refine wpAny_Call_method_late hbase hfew hline rfl (thn (ho pins s σ H _ I h) fun v s1 hm0 => ?_)
  obtain ⟨x, H1, I1, r1, ty, q1⟩ := hm0
  obtain ⟨h1, h2⟩ := tyV_is I1 r1 ty
  refine ⟨T, id, pa, slot, hty, h1, h2, ?_⟩
  have hA := ha cpos pins s1 σ H1 _ I1 q1
  rw [hs] at hA ⊢
  refine Calls.callWith_builtin (by show (false || (backTo cpos (starEach es X.env)).any (·.1)) = false; rw [hplain] <;> rfl) (Calls.evalArgs_plain ?_)
  refine thn hA fun us s2 hm0 => ?_
  obtain ⟨vs, H2, I2, r2, q2⟩ := hm0
  exact hm pins s2 σ H2 x vs v us Q I2 r1 r2 q2
/- xs.append(e), list.index on a module's tuple .. are MtR facts of 06m -/
end
end L2
namespace L2
open PySem PySem.Spec PyProof.Rows
def MtM (X : Cx) (id : String) (r : V → List V → Hp → VK → Prop) : Prop :=
  ∀ (pins : List (Addr × Obj)) (s : Shared) (σ : St) (H : Hp) (x : V) (xs : List V) (v : Value) (us : List Value) (Q : VK), Inv X pins σ H s → RelV x v → Vals xs us → r x xs H Q →
    wpAny (model X.prog X.w) X.A (call (.builtin id) (v :: us)) (EP X pins σ Q) X.xe s
theorem Vals.one {x : V} {us : List Value} (h : Vals [x] us) : ∃ u, us = [u] ∧ RelV x u := by
  cases h with
  | cons r e => cases e; exact ⟨_, rfl, r⟩
theorem Vals.two {x y : V} {us : List Value} (h : Vals [x, y] us) : ∃ u v, us = [u, v] ∧ RelV x u ∧ RelV y v := by
  cases h with
  | cons r e =>
    obtain ⟨v, e1, q⟩ := Vals.one e
    subst e1
    exact ⟨_, _, rfl, r, q⟩
section
variable {X : Cx} {pins : List (Addr × Obj)} {σ : St} {H : Hp} {s : Shared} {l b : Addr} {xs ys zs : List V}
theorem Inv.lset {its its' : List Value} {n : Nat} {f : Array Value → Array Value} {t' : Nat} (I : Inv X pins σ H s) (hH : H l = some (.lst xs))
    (e : s.heap.get? l = some { cls := .type "list", data := .seq its.toArray n }) (hf : f its.toArray = its'.toArray) (hv : Vals ys its') (hz : ys.length ≤ sizeLine) :
    Inv X pins σ (upd H l (.lst ys)) { s with heap := s.heap.update l (Obj.mapSeq f), toks := t' } := by
  have q := PySem.IsL.update e f
  rw [hf] at q
  refine I.write (x := l) (e := l) (by rw [hH]; exact trivial) (.inl rfl) (fun b' u hb hu => (Heap.get?_update_other s.heap (Obj.mapSeq f) (Ne.symm hb)).trans hu) ⟨_, q⟩ ?_
  exact ⟨hz, its', _, hv, q⟩
theorem Inv.lnew {its : List Value} {t' : Nat} (I : Inv X pins σ H s) (hv : Vals ys its) (hz : ys.length ≤ sizeLine) :
    Inv X pins σ (upd H s.heap.objs.size (.lst ys)) { s with heap := s.heap.push { cls := .type "list", data := .seq its.toArray }, toks := t' } :=
  I.laid (fun _ _ q => Heap.get?_push_of_some _ q) (Nat.le_refl _) ⟨hz, its, 0, hv, Heap.get?_push_size _ rfl⟩
theorem Inv.fresh (I : Inv X pins σ H s) : H s.heap.objs.size = none := I.hok.fresh (Nat.le_refl _)
theorem Inv.lstM (I : Inv X pins σ H s) (hH : H l = some (.lst xs)) : xs.length ≤ sizeLine ∧ ∃ (its : List Value) (n : Nat), Vals xs its ∧ xs.length = its.length ∧ s.heap.get? l = some { cls := .type "list", data := .seq its.toArray n } := by
  obtain ⟨z, its, n, r, e⟩ := I.hok l _ hH
  exact ⟨z, its, n, r, r.length, e⟩
end
section
variable {X : Cx}
def rAppend : V → List V → Hp → VK → Prop := fun x vs H Q => ∃ l xs y, x = .ref l ∧ vs = [y] ∧ H l = some (.lst xs) ∧ xs.length < sizeLine ∧ Q .non (upd H l (.lst (xs ++ [y])))
theorem mt_append : MtM X "list.append" rAppend := by
  intro pins s σ H x vs v us Q I rx rv h
  obtain ⟨l, xs, y, rfl, rfl, hH, hz, q⟩ := h
  cases rx
  obtain ⟨u, rfl, ru⟩ := rv.one
  obtain ⟨z, its, n, r, hl, e⟩ := I.lstM hH
  refine call_meets F.slot_list_append ⟨_, e, rfl⟩ F.entry_list_append (F.args_list_append_2 _ _) (PySem.list_append l its.toArray n u (by rw [List.size_toArray]; omega)) ⟨e, ?_⟩
  refine ⟨.non, _, I.lset (its' := its ++ [u]) hH e (by simp) (r.append (.cons ru .nil)) ?_, rfl, q⟩
  rw [List.length_append, List.length_singleton]
  omega
def rCat : R2 := fun x y H Q => ∃ l b xs zs, x = .ref l ∧ y = .ref b ∧ H l = some (.lst xs) ∧ H b = some (.lst zs) ∧ xs.length + zs.length ≤ sizeLine ∧ ∀ p, H p = none → Q (.ref p) (upd H p (.lst (xs ++ zs)))
theorem op_cat : OpR X (binaryOp .Add) rCat := by
  intro pins s σ H x y v u Q I rx ry h
  obtain ⟨l, b, xs, zs, rfl, rfl, hH, hB, hz, q⟩ := h
  cases rx
  cases ry
  obtain ⟨z, its, n, r, hl, e⟩ := I.lstM hH
  obtain ⟨z2, its2, n2, r2, hl2, e2⟩ := I.lstM hB
  refine PySem.P.add_list e e2 ?_ (by rw [List.size_toArray, List.size_toArray]; omega)
  have ea : its.toArray ++ its2.toArray = (its ++ its2).toArray := by simp
  rw [ea]
  exact ⟨.ref _, _, I.lnew (t' := s.toks) (r.append r2) (by rw [List.length_append]; omega), rfl, q _ I.fresh⟩
end
section
variable {prog : Program} {w : World} {A : Around} {E : Value → Shared → Prop} {s : Shared}
set_option maxRecDepth 100000 in
end
section
variable {X : Cx}
end
end L2
namespace L2
open PySem PySem.Spec PyProof.Rows
section
variable {κ : Type} [DecidableEq κ]
def valV (kvs : List (κ × V)) (k : κ) : Option V := (kvs.find? fun kv => decide (kv.1 = k)).map (·.2)
def putK (kvs : List (κ × V)) (k : κ) (v : V) : List (κ × V) :=
  if (kvs.any fun kv => decide (kv.1 = k)) = true then kvs.map (fun kv => if kv.1 = k then (kv.1, v) else kv) else kvs ++ [(k, v)]
theorem valV_pos {p : κ × V} {r : List (κ × V)} {k : κ} (e : p.1 = k) : valV (p :: r) k = some p.2 := by simp [valV, List.find?_cons, e]
theorem valV_neg {p : κ × V} {r : List (κ × V)} {k : κ} (e : ¬ p.1 = k) : valV (p :: r) k = valV r k := by simp [valV, List.find?_cons, e]
theorem length_putK (kvs : List (κ × V)) (k : κ) (v : V) : (putK kvs k v).length ≤ kvs.length + 1 := by
  unfold putK
  split
  · rw [List.length_map]; omega
  · rw [List.length_append, List.length_cons, List.length_nil]; omega
theorem RelO.isSome_eq {o : Option V} {u : Option Value} (r : RelO o u) : o.isSome = u.isSome := by
  cases o with
  | none => cases u with
    | none => rfl
    | some _ => exact (show False from r).elim
  | some _ => cases u with
    | none => exact (show False from r).elim
    | some _ => rfl
theorem KV.val {kvs : List (κ × V)} {vs : List (κ × Value)} (r : KV kvs vs) (k : κ) : RelO (valV kvs k) (valueAt vs k) := by
  unfold KV at r
  induction r with
  | nil => exact True.intro
  | @cons p q ps qs h t ih =>
    obtain ⟨h1, h2⟩ := h
    by_cases e : p.1 = k
    · have e' : q.1 = k := h1.symm.trans e
      have b : valueAt (q :: qs) k = some q.2 := by simp [valueAt, List.find?_cons, e']
      rw [valV_pos e, b]; exact h2
    · have e' : ¬ q.1 = k := fun z => e (h1.trans z)
      have b : valueAt (q :: qs) k = valueAt qs k := by simp [valueAt, List.find?_cons, e']
      rw [valV_neg e, b]; exact ih
theorem KV.any {kvs : List (κ × V)} {vs : List (κ × Value)} (r : KV kvs vs) (k : κ) : (kvs.any fun kv => decide (kv.1 = k)) = vs.any fun kv => decide (kv.1 = k) := by
  unfold KV at r
  induction r with
  | nil => rfl
  | cons h t ih => rw [List.any_cons, List.any_cons, ih, h.1]
theorem KV.repl {kvs : List (κ × V)} {vs : List (κ × Value)} (r : KV kvs vs) (k : κ) {y : V} {u : Value} (ry : RelV y u) :
    KV (kvs.map fun kv => if kv.1 = k then (kv.1, y) else kv) (vs.map fun kv => if kv.1 = k then (kv.1, u) else kv) := by
  unfold KV at r ⊢
  induction r with
  | nil => exact .nil
  | @cons p q ps qs h t ih =>
    rw [List.map_cons, List.map_cons]
    refine .cons ?_ ih
    obtain ⟨h1, h2⟩ := h
    by_cases e : p.1 = k
    · rw [if_pos e, if_pos (h1.symm.trans e)]; exact ⟨h1, ry⟩
    · rw [if_neg e, if_neg (fun z => e (h1.trans z))]; exact ⟨h1, h2⟩
theorem KV.put {kvs : List (κ × V)} {vs : List (κ × Value)} (r : KV kvs vs) (k : κ) {y : V} {u : Value} (ry : RelV y u) : KV (putK kvs k y) (stored vs k u) := by
  unfold putK stored
  rw [r.any k]
  by_cases e : (vs.any fun kv => decide (kv.1 = k)) = true
  · rw [if_pos e, if_pos e]; exact r.repl k ry
  · rw [if_neg e, if_neg e]; exact Paired.snoc r ⟨rfl, ry⟩
end
theorem kV_is {P : Program} {w : World} {k : Key} {u : Value} (r : RelV (kV k) u) : (mixKind P w).is k u = true := by
  cases k with
  | inl i => obtain ⟨t, e⟩ := (show ∃ t, u = Value.int i t from r); subst e; exact mixKind_int P w i t
  | inr x => obtain ⟨t, e⟩ := (show ∃ t, u = Value.str x t from r); subst e; exact mixKind_str P w x t
theorem items_are {P : Program} {w : World} : ∀ {ks : List Key} {us : List Value}, Vals (ks.map kV) us → ItemsAre (mixKind P w) ks us
  | [], _, r => by rw [List.map_nil] at r; cases r; exact .nil
  | k :: ks, _, r => by
    rw [List.map_cons] at r
    cases r with
    | cons h t => exact .cons (kV_is h) (items_are t)
abbrev KT (H : Hp) : List (List Key × V) → List (List Key × Addr × Value) → Prop := Paired fun p q => p.1 = q.1 ∧ H q.2.1 = some (.tup (p.1.map kV)) ∧ RelV p.2 q.2.2
theorem KT.val {H : Hp} {kvs : List (List Key × V)} {xs : List (List Key × Addr × Value)} (r : KT H kvs xs) (k : List Key) : RelO (valV kvs k) ((atKey xs k).map (·.2)) := by
  induction r with
  | nil => exact True.intro
  | @cons p q ps qs h t ih =>
    obtain ⟨h1, _, h2⟩ := h
    by_cases e : p.1 = k
    · have e' : q.1 = k := h1.symm.trans e
      have b : atKey (q :: qs) k = some q.2 := by simp [atKey, List.find?_cons, e']
      rw [valV_pos e, b]; exact h2
    · have e' : ¬ q.1 = k := fun z => e (h1.trans z)
      have b : atKey (q :: qs) k = atKey qs k := by simp [atKey, List.find?_cons, e']
      rw [valV_neg e, b]; exact ih
section
variable {P : Program} {w : World} {H : Hp} {h : Heap} {a : Addr}
theorem rd_of {u : HO} (ok : HOk P w H h) (e : Rd H a u) : ObjOk P w H h a u := e.ok ok
theorem dk_rd {kvs : List (Key × V)} (ok : HOk P w H h) (e : Rd H a (.dK kvs)) : kvs.length ≤ sizeLine ∧ (a == sysModules) = false ∧ ∃ vs, KV kvs vs ∧ h.DictOf (mixKind P w) a vs :=
  show ObjOk P w H h a (.dK kvs) from rd_of ok e
theorem dk_of {kvs : List (Key × V)} (ok : HOk P w H h) (e : H a = some (.dK kvs)) : kvs.length ≤ sizeLine ∧ (a == sysModules) = false ∧ ∃ vs, KV kvs vs ∧ h.DictOf (mixKind P w) a vs := dk_rd ok (.inl e)
theorem key_of {ks : List Key} (ok : HOk P w H h) (e : H a = some (.tup (ks.map kV))) : (tupleKind (mixKind P w)).is h ks a := by
  obtain ⟨_, its, r, o, h1, h2, n, h3⟩ := (show ObjOk P w H h a (.tup (ks.map kV)) from ok a _ e)
  exact ⟨o, its.toArray, n, h1, h2, h3, by simpa using items_are r⟩
theorem dt_rd {kvs : List (List Key × V)} (ok : HOk P w H h) (e : Rd H a (.dT kvs)) : kvs.length ≤ sizeLine ∧ (a == sysModules) = false ∧
    ∃ xs, KT H kvs xs ∧ h.DictOfH (tupleKind (mixKind P w)) a xs := by
  obtain ⟨z, y, xs, r, o, es, ep, h1, h2, h3, h4, h5⟩ := (show ObjOk P w H h a (.dT kvs) from rd_of ok e)
  refine ⟨z, y, xs, r, o, es, ep, h1, h2, h3, h4, fun x hx => ?_, h5⟩
  have all : ∀ {l : List (List Key × V)} {m : List (List Key × Addr × Value)}, KT H l m → ∀ x ∈ m, (tupleKind (mixKind P w)).is h x.1 x.2.1 := by
    intro l m q
    induction q with
    | nil => intro x hx; exact nomatch hx
    | @cons p q ps qs hq t ih =>
      intro x hx
      rcases List.mem_cons.mp hx with e | hx
      · subst e
        exact key_of ok (by rw [← hq.1]; exact hq.2.1)
      · exact ih x hx
  exact all r x hx
end
def DGet (H : Hp) (a : Addr) (y : V) (r : Option V) : Prop :=
  (∃ kvs k, Rd H a (.dK kvs) ∧ y = kV k ∧ r = valV kvs k) ∨ ∃ kvs k b, Rd H a (.dT kvs) ∧ y = .ref b ∧ H b = some (.tup (k.map kV)) ∧ r = valV kvs k
section
variable {X : Cx} {pins : List (Addr × Obj)} {σ : St} {H : Hp} {s : Shared} {a : Addr} {y v : V} {u r : Value} {o : Option V} {A : Around} {E : Value → Shared → Prop}
theorem Inv.big (I : Inv X pins σ H s) : sysModules < s.heap.objs.size := by
  have h : mainGlobals < s.heap.objs.size := (I.mod.glob.keeps I.bk).lt
  exact Nat.lt_trans (by decide) h
theorem d_getItem {Q : Value → Shared → Prop} (hu : A.units + 1 < cLine) (I : Inv X pins σ H s) (g : DGet H a y (some v)) (ry : RelV y u) (h : ∀ w' s', Inv X pins σ H s' → RelV v w' → Q w' s') :
    wpAny (model X.prog X.w) A (getItem (.ref a) u) Q E s := by
  rcases g with ⟨kvs, k, e, ey, l⟩ | ⟨kvs, k, b, e, ey, eb, l⟩
  · subst ey
    obtain ⟨z, hd, vs, rel, dd⟩ := dk_rd I.hok e
    obtain ⟨w', hw, rw'⟩ := RelO.some_of (v := v) (o := valueAt vs k) (by rw [l]; exact rel.val k)
    exact wpAny_getItem_of (kV_is ry) dd.mapOf hw (h w' _ (I.tok _) rw')
  · subst ey
    cases (show u = Value.ref b from ry)
    obtain ⟨z, hd, xs, rel, dd⟩ := dt_rd I.hok e
    obtain ⟨w', hw, rw'⟩ := RelO.some_of (v := v) (o := (atKey xs k).map (·.2)) (by rw [l]; exact rel.val k)
    obtain ⟨p, hp, hp2⟩ := Option.map_eq_some_iff.mp hw
    refine wpAny_getItem_heap (tupleKind_room_in1 hu) (key_of I.hok eb) dd hp ?_
    rw [hp2]
    exact h w' _ (I.tok _) rw'
theorem d_write {h' : Heap} {t' : Nat} {ob : HO} (I : Inv X pins σ H s) (mu : Mut (H a)) (hs : Heap.SameBut a s.heap h') (he : ∃ q, h'.get? a = some q) (new : ObjOk X.prog X.w (upd H a ob) h' a ob) :
    Inv X pins σ (upd H a ob) { s with heap := h', toks := t' } :=
  I.write (x := a) (e := a) mu (.inl rfl) (fun b q hb z => (hs.2 b hb).trans z) he new
theorem dk_new {P : Program} {w : World} {H' : Hp} {h' : Heap} {kvs : List (Key × V)} {vs : List (Key × Value)} (z : kvs.length ≤ sizeLine) (hd : (a == sysModules) = false) (rel : KV kvs vs) (dd : h'.DictOf (mixKind P w) a vs) :
    ObjOk P w H' h' a (.dK kvs) := ⟨z, hd, vs, rel, dd⟩
end
section
variable {X : Cx} {pins : List (Addr × Obj)} {σ : St} {H : Hp} {s : Shared} {a : Addr} {kvs : List (Key × V)} {k : Key} {u : Value} {A : Around} {E : Value → Shared → Prop}
end
def NoSl (i : Expr) : Prop := ∀ ov iv, subscripted i false ov iv = operate [ov, iv] (getItem ov iv)
theorem subD_of {prog : Program} {w : World} {A : Around} {E : Value → Shared → Prop} {s : Shared} {env : Env} {value slice : Expr} {pos : Pos} {T id : String} {Q : Value → Shared → Prop}
    (hl : typeLookup (.type T) "__getitem__" = pure (some (.builtin id))) (hs : NoSl slice)
    (h : wpAny (model prog w) A (eval value env) (fun o s₁ => wpAny (model prog w) A (eval slice env) (fun i s₂ => s₂.TypeIs o T ∧ wpAny (model prog w) A (getItem o i) Q E s₂) E s₁) E s) :
    wpAny (model prog w) A (eval (.Subscript value slice pos) env) Q E s := by
  refine Subscript_ (wpAny_mono h (fun o s₁ h₁ => wpAny_mono h₁ (fun i s₂ h₂ => ?_) fun _ _ x => x) fun _ _ x => x)
  obtain ⟨hT, h₂⟩ := h₂
  unfold subscriptTail
  refine wpAny_bind ?_
  rw [getitemInPython_of_ne hT.not_modules]
  refine wpAny_bind (wpAny_specialOf hT hl ?_)
  have fin : wpAny (model prog w) A (subscripted slice false o i) (fun r s₃ => wpAny (model prog w) A (letTemporaryGo value o r >>= fun _ => pure r) Q E s₃) E s₂ := by
    rw [hs o i]
    exact wpAny_operating (wpAny_mono h₂ (fun r s₃ h₃ => wpAny_bind (wpAny_letTemporaryGo (wpAny_pure h₃))) fun _ _ x => x)
  first
    | exact wpAny_pure (wpAny_bind fin)
    | exact wpAny_bind (wpAny_pure (wpAny_bind fin))
    | exact wpAny_bind fin
theorem dict_typeIs {X : Cx} {pins : List (Addr × Obj)} {σ : St} {H : Hp} {s : Shared} {a : Addr} {y : V} {o : Option V} (I : Inv X pins σ H s) (g : DGet H a y o) : s.TypeIs (.ref a) "dict" := by
  rcases g with ⟨kvs, k, e, _, _⟩ | ⟨kvs, k, b, e, _, _, _⟩
  · obtain ⟨_, _, vs, _, dd⟩ := dk_rd I.hok e
    exact dd.typeIs
  · obtain ⟨_, _, xs, _, dd⟩ := dt_rd I.hok e
    exact dd.typeIs
def tDGet (td ty : TE) : TE := fun σ H Q => td σ H fun x H1 => ty σ H1 fun y H2 => ∃ a v, x = .ref a ∧ DGet H2 a y (some v) ∧ Q v H2
section
variable {X : Cx} {o i e value : Expr} {pos pos' tpos : Pos} {td ty tv : TE}
theorem pe_dget (hu : X.A.units + 1 < cLine) (ho : PE X o td) (hi : PE X i ty) (hs : NoSl i) : PE X (.Subscript o i pos) (tDGet td ty) := by
  intro pins s σ H Q I h
  refine subD_of PySem.F.slot_dict_getitem.lookup hs (thn (ho pins s σ H _ I h) fun u s1 hm0 => ?_)
  obtain ⟨x, H1, I1, rx, q1⟩ := hm0
  refine thn (hi pins s1 σ H1 _ I1 q1) fun iv s2 hm1 => ?_
  obtain ⟨y, H2, I2, ry, a, v, ex, g, q2⟩ := hm1
  subst ex
  obtain rfl : u = Value.ref a := rx
  exact ⟨dict_typeIs I2 g, d_getItem hu I2 g ry fun w' s3 I3 rw' => ⟨v, H2, I3, rw', q2⟩⟩
end
theorem dk_empty {P : Program} {w : World} {H : Hp} (h : Heap) (hb : sysModules < h.objs.size) : ObjOk P w H (h.push { cls := .type "dict", data := .dict #[] }) h.objs.size (.dK []) :=
  ⟨Nat.zero_le _, beq_eq_false_iff_ne.mpr (Ne.symm (Nat.ne_of_lt hb)), [], .nil, Heap.DictOf.new h⟩
section
variable {X : Cx} {pos : Pos}
end
def tPairs : List (TE × TE) → St → Hp → (List (V × V) → Hp → Prop) → Prop
  | [], _, H, Q => Q [] H
  | (tk, tv) :: r, σ, H, Q => tk σ H fun x H1 => tv σ H1 fun y H2 => tPairs r σ H2 fun ps H3 => Q ((x, y) :: ps) H3
abbrev VV : List (V × V) → List (Value × Value) → Prop := Paired fun p q => RelV p.1 q.1 ∧ RelV p.2 q.2
def PPs (X : Cx) (pos : Pos) (keys : List (Option Expr)) (values : List Expr) (trs : List (TE × TE)) : Prop :=
  ∀ (pins : List (Addr × Obj)) (s : Shared) (σ : St) (H : Hp) (Q : List (V × V) → Hp → Prop), Inv X pins σ H s → tPairs trs σ H Q →
    wpAny (model X.prog X.w) X.A (evalPairs (pairTrees keys values X.env pos)) (fun vs s' => ∃ ps H', Inv X pins σ H' s' ∧ VV ps vs ∧ Q ps H') X.xe s
theorem pps_nil {X : Cx} {pos : Pos} : PPs X pos [] [] [] := fun pins s σ H Q I h => pairTrees_nil_walk ⟨[], H, I, .nil, h⟩
theorem pps_cons {X : Cx} {pos : Pos} {k v : Expr} {ks : List (Option Expr)} {vs : List Expr} {tk tv : TE} {trs : List (TE × TE)} (hk : PE X k tk) (hv : PE X v tv) (hr : PPs X pos ks vs trs) :
    PPs X pos (some k :: ks) (v :: vs) ((tk, tv) :: trs) := fun pins s σ H Q I h =>
  pairTrees_cons_walk (thn (hk pins s σ H _ I h) fun u s1 ⟨x, H1, I1, rx, q1⟩ => thn (hv pins s1 σ H1 _ I1 q1) fun w2 s2 ⟨y, H2, I2, ry, q2⟩ =>
    thn (hr pins s2 σ H2 _ I2 q2) fun ws s3 ⟨ps, H3, I3, rel, q3⟩ => ⟨(x, y) :: ps, H3, I3, .cons ⟨rx, ry⟩ rel, q3⟩)
def mergeK (kvs more : List (Key × V)) : List (Key × V) := more.foldl (fun acc kv => putK acc kv.1 kv.2) kvs
theorem KV.merge : ∀ {more : List (Key × V)} {rs : List (Key × Value)} {kvs : List (Key × V)} {vs : List (Key × Value)}, KV more rs → KV kvs vs → KV (mergeK kvs more) (merged vs rs) := by
  intro more rs kvs vs r
  unfold KV at r
  induction r generalizing kvs vs with
  | nil => intro q; exact q
  | @cons p q ps qs h t ih =>
    intro r0
    have e : KV (putK kvs p.1 p.2) (stored vs q.1 q.2) := by
      have := r0.put p.1 h.2
      rw [← h.1]; exact this
    exact ih e
theorem length_mergeK : ∀ (more kvs : List (Key × V)), (mergeK kvs more).length ≤ kvs.length + more.length
  | [], kvs => by show kvs.length ≤ kvs.length + 0; omega
  | p :: r, kvs => by
    have h1 := length_mergeK r (putK kvs p.1 p.2)
    have h2 := length_putK kvs p.1 p.2
    show (mergeK (putK kvs p.1 p.2) r).length ≤ _
    rw [List.length_cons]; omega
theorem carries_of {P : Program} {w : World} : ∀ {kvs : List (Key × V)} {ws : List (Value × Value)}, VV (kvs.map fun kv => (kV kv.1, kv.2)) ws → ∃ rs, Carries (mixKind P w) ws rs ∧ KV kvs rs
  | [], _, r => by rw [List.map_nil] at r; cases r; exact ⟨[], True.intro, .nil⟩
  | p :: kvs, _, r => by
    rw [List.map_cons] at r
    cases r with
    | @cons a b as bs h t =>
      obtain ⟨rs, c, q⟩ := carries_of (P := P) (w := w) t
      obtain ⟨b1, b2⟩ := b
      exact ⟨(p.1, b2) :: rs, ⟨kV_is h.1, rfl, c⟩, .cons ⟨rfl, h.2⟩ q⟩
def tDisp (trs : List (TE × TE)) : TE := fun σ H Q => ∀ p, H p = none → tPairs trs σ (upd H p (.dK [])) fun ps H2 => H2 p = some (.dK []) ∧ ∃ kvs : List (Key × V), ps = kvs.map (fun kv => (kV kv.1, kv.2)) ∧ kvs.length ≤ 15 ∧ Q (.ref p) (upd H2 p (.dK (mergeK [] kvs)))
theorem pe_disp {X : Cx} {pos : Pos} {keys : List (Option Expr)} {values : List Expr} {trs : List (TE × TE)} (h : PPs X pos keys values trs) (hall : keys.all (·.isSome) = true) (hl : keys.length = values.length) (h0 : keys ≠ [])
    (h15 : keys.length ≤ 15) : PE X (.Dict keys values pos) (tDisp trs) := by
  intro pins s σ H Q I q
  have hn := I.hok.fresh (Nat.le_refl s.heap.objs.size)
  have I1 := I.laid (a := s.heap.objs.size) (o := .dK []) (h' := s.heap.push { cls := .type "dict", data := .dict #[] }) (t' := s.toks) (fun _ _ q => Heap.get?_push_of_some _ q) (Nat.le_refl _) (dk_empty s.heap I.big)
  refine wpAny_Dict_walk (knd := mixKind X.prog X.w) hall hl h0 h15 (thn (h pins _ σ _ _ I1 (q _ hn)) fun ws s2 hm0 => ?_)
  obtain ⟨ps, H2, I2, rel, e, kvs, ep, lk, q2⟩ := hm0
  subst ep
  obtain ⟨rs, c, rk⟩ := carries_of (P := X.prog) (w := X.w) rel
  obtain ⟨z, hd, vs0, r0, dd⟩ := dk_of I2.hok e
  cases r0
  refine ⟨rs, c, dd, fun h' dd' hs => ⟨.ref s.heap.objs.size, _, ?_, rfl, q2⟩⟩
  have hz : (mergeK [] kvs).length ≤ sizeLine := by
    have h1 := length_mergeK kvs []
    rw [List.length_nil] at h1
    rw [sizeLine_eq]; omega
  have he : ∃ q, h'.get? s.heap.objs.size = some q := let ⟨q, _, _, hq, _⟩ := dd'; ⟨q, hq⟩
  exact d_write I2 (by rw [e]; exact True.intro) hs he (dk_new hz hd (rk.merge .nil) dd')
section
variable {X : Cx} {pins : List (Addr × Obj)} {σ : St} {H : Hp} {s : Shared} {a : Addr} {y d : V} {u r : Value} {o : Option V} {A : Around} {E : Value → Shared → Prop}
end
section
variable {X : Cx} {o e f : Expr} {apos cpos : Pos} {td ty tx : TE}
end
section
variable {X : Cx} {pins : List (Addr × Obj)} {σ : St} {H : Hp} {s : Shared} {a : Addr} {kvs : List (Key × V)} {A : Around} {E : Value → Shared → Prop}
end
section
variable {X : Cx} {pins : List (Addr × Obj)} {σ : St} {H : Hp} {s : Shared} {a : Addr} {y : V} {u : Value} {A : Around} {E : Value → Shared → Prop}
end
end L2
namespace Att
open PySem PySem.W PySem.Calls PyProof.Rows
theorem ints_of_wellAll {P : Params} {h : Heap} : ∀ (ns : List Int) (vs : List Value), WellAll P h vs (ns.map WData.int) → IntsAre vs ns := by
  intro ns
  induction ns with
  | nil =>
    intro vs w
    rw [List.map_nil] at w
    cases w
    exact .nil
  | cons n ns ih =>
    intro vs w
    rw [List.map_cons] at w
    cases w with
    | cons a b =>
      cases a
      exact .cons _ _ (ih _ b)
theorem script_of {l : OpenLaw} {n : Nat} (hn : l.most = some n) {P : Params} {h : Heap} {args : List WData} {vals : List Value}
    (hpre : l.row.toRowW.claim.pre args = true) (hwl : WellAll P h vals args) :
    ∃ a vs ns, vals = [Value.ref a] ∧ args = [WData.list (ns.map WData.int)] ∧ h.get? a = some { cls := .type "list", data := .seq vs.toArray } ∧ IntsAre vs ns ∧ ns.length ≤ n := by
  have hsh : WShape.hasAll [] args [.list .int] = true := (pre_splitW hpre).1
  have hc : l.pre.holds [] { args := args } = true := (pre_splitW hpre).2
  obtain ⟨d, r, rfl, h1, h2⟩ := hasAllW_cons hsh
  obtain rfl := hasAllW_nil h2
  obtain ⟨xs, rfl, h3⟩ := hasW_list h1
  obtain ⟨ns, rfl⟩ := items_int h3
  have hlen : ns.length ≤ n := by
    unfold OpenLaw.pre at hc
    have h4 : (WTm.not (.lt (.lit (.int (n : Int))) (.len (.arg 0)))).holds [] { args := [.list (ns.map .int)] } = true := by
      have h4 := (holds_andW hc).1
      rw [hn] at h4
      exact h4
    have h5 := condW_of h4 (w_not (w_lt w_lit (w_len_list (w_arg rfl))))
    rw [List.length_map] at h5
    refine Nat.le_of_not_lt fun q => ?_
    have q' : (n : Int) < ((ns.length : Nat) : Int) := by omega
    first
      | (rw [decide_eq_true q'] at h5; exact absurd h5 (by decide))
      | (simp at h5; omega)
  cases hwl with
  | cons w1 w2 =>
    cases w2
    cases w1 with
    | list ho hall => exact ⟨_, _, ns, rfl, rfl, ho, ints_of_wellAll ns _ hall, hlen⟩
theorem post_true (l : OpenLaw) (args : List WData) : l.row.toRowW.claim.post args (.bool true) args = true :=
  postW_of (r := l.row.toRowW) (X := (true == true))
    (show WShape.has [] (.bool true) .bool = true by first | rfl | decide | simp [WShape.has, WShape.arms, WShape.armsAll])
    (show (WTm.eq .res (.lit (.bool true))).value [] { args := args, res := some (.bool true), after := args } = some (.bool (true == true)) from w_eq_bool (w_res rfl) w_lit) rfl
theorem attach_call {l : OpenLaw} {n : Nat} {q : Program} {loose : List Str} {XP : (Str → Option Value) → Heap → Prop} {YP : World → Heap → Prop} {d : DefRec}
    (hn : l.most = some n) (hdf : d.params.defaults = [])
    (call : ∀ (w : World) (s₀ s₁ : Shared) (mg mb : Str → Option Value) (fa : Addr) (o : Obj) (pm cd doc : Value) (a : Addr) (vs : List Value) (ns : List Int),
      Ground q loose [] XP w s₀ mg mb s₁.heap → YP w s₁.heap →
      s₁.heap.get? fa = some o → o.data = .func (docDef d.name d.params d.body d.scope pm cd doc) → s₁.heap.CodeRec cd d.name → mg d.name = some (.ref fa) →
      s₁.heap.get? a = some { cls := .type "list", data := .seq vs.toArray } → IntsAre vs ns → ns.length ≤ n → s₁.gens = #[] →
      codeAny (model l.prog w) callerA (.call (.ref fa) ⟨[.ref a], []⟩) (fun r s' => r = .ok (.ret (.bool true)) ∧ OldK s₁.heap s'.heap ∧ s'.os = s₁.os ∧ AllBare s'.gens) s₁) :
    WalkO q loose XP YP l.row.toRowW d [] (fun f vs => PySem.call f vs) := by
  intro w s₀ s₁ mg mb G Y fa o pm cd doc dV kV ho hd hcd hD hmg hg args vals as hpre hlay hrd hwl hlo
  obtain rfl : dV = .none := Dflts.none hD hdf
  obtain rfl : kV = .none := Dflts.noKw hD
  obtain ⟨a, vs, ns, rfl, rfl, hobj, hints, hlen⟩ := script_of hn hpre hwl
  refine enter_call (codeAny_mono (call w s₀ s₁ mg mb fa o pm cd doc a vs ns G Y ho (fd_plain hd) hcd hmg hobj hints hlen hg) fun r s' hq => ?_)
  obtain ⟨rfl, h2, h3, h4⟩ := hq
  exact ⟨.inl ⟨.bool true, .bool true, [], rfl, fun _ => rfl, .bool true, post_true l _, fun _ => ⟨List.Pairwise.nil, fun _ hm => (nomatch hm)⟩⟩, h2, h3, h4⟩
section
variable {prog : Program} {w : World} {A : Around} {E : Value → Shared → Prop} {s : Shared} {K : Frag}
end
end Att
namespace L2
open PySem PySem.Spec PyProof.Rows
theorem vals_ints : ∀ {vs : List Value} {ns : List Int}, IntsAre vs ns → Vals (ns.map V.int) vs
  | _, _, .nil => .nil
  | _, _, .cons n t h => .cons ⟨t, rfl⟩ (vals_ints h)
def Only (H : Hp) : Prop := ∀ b, H b = none ∨ ∃ o xs, H b = some (.frz o (.lst xs))
theorem law_call {P : Program} {w : World} {K : PySem.W.Frag} {mg mb : Str → Option Value} {CX : CXT} {k : Nat} {fa a : Addr} {fd : FuncData} {x : Str} {sp : Sp} {s₁ : Shared} {vs : List Value} {ns : List Int}
    (KX : K.In s₁.heap) (hns : s₁.heap.Ns mainGlobals mg) (hb : s₁.heap.Ns builtinsNs mb) (hbb : ∀ x : Str, x ≠ "__name__" → mb x = bootBuiltins x) (hlim : s₁.heap.NoLimit) (hg : s₁.gens = #[])
    (ha : s₁.heap.get? a = some { cls := .type "list", data := .seq vs.toArray }) (hi : IntsAre vs ns) (hl : ns.length ≤ sizeLine) (hr : Room k callerA)
    (F : ∀ base : Heap, K.In base → base.Ns mainGlobals mg → FnOk P w K mg base CX k fa fd [x] sp) (hbind : ∀ (s : Shared) (u : Value), BindsTo s fd ⟨[u], []⟩ [(x, u)])
    (hsp : ∀ H : Hp, Only H → SqL K H a (ns.map V.int) → sp [.ref a] H (fun v _ => v = .bl true) fun _ _ _ => False)
    (hCX : ∀ H e s', CX [] H s₁ (fun _ _ _ => False) e s' → False) :
    codeAny (model P w) callerA (.call (.ref fa) ⟨[.ref a], []⟩) (fun r s' => r = .ok (.ret (.bool true)) ∧ OldK s₁.heap s'.heap ∧ s'.os = s₁.os ∧ AllBare s'.gens) s₁ := by
  have rv := vals_ints hi
  have lenV := hi.length
  have core : ∀ H : Hp, Only H → SqL K H a (ns.map V.int) → HOk P w H s₁.heap → (∀ b, H b ≠ none → b = a) → (H a ≠ none → K.lookup a = none) →
      codeAny (model P w) callerA (.call (.ref fa) ⟨[.ref a], []⟩) (fun r s' => r = .ok (.ret (.bool true)) ∧ OldK s₁.heap s'.heap ∧ s'.os = s₁.os ∧ AllBare s'.gens) s₁ := by
    intro H hO hS hok hA hK
    have base_of : ∀ {b : Addr} {o : Obj}, s₁.heap.get? b = some o → H b = none → (hidT s₁.heap H).get? b = some o := fun e n => hidT_get e n
    have noA : ∀ {b : Addr} {o : Obj} {es : Array DictEntry} {ep : Nat}, s₁.heap.get? b = some o → o.data = .dict es ep → H b = none := fun {b o es ep} e d => by
      cases q : H b with
      | none => rfl
      | some u =>
        have e' : b = a := hA b (by rw [q]; simp)
        subst e'
        rw [ha] at e; cases e
        have d' : Data.seq vs.toArray _ = Data.dict es ep := d
        cases d'
    have nsK : ∀ {b : Addr} {m : Str → Option Value}, s₁.heap.Ns b m → (hidT s₁.heap H).Ns b m := fun {b m} ⟨o, es, ep, e, d, r⟩ => ⟨o, es, ep, base_of e (noA e d), d, r⟩
    have hKb : K.In (hidT s₁.heap H) := fun b o e => base_of (KX b o e) (by
      cases q : H b with
      | none => rfl
      | some u =>
        have e' : b = a := hA b (by rw [q]; simp)
        subst e'
        rw [hK (by rw [q]; simp)] at e; cases e)
    have hM : Mod K mg (hidT s₁.heap H) := ⟨hKb, nsK hns, ⟨mb, nsK hb, hbb⟩, let ⟨mc, h1, h2⟩ := hlim; ⟨mc, nsK h1, h2⟩⟩
    have e0 : Env0 P w K mg (hidT s₁.heap H) callerA [] s₁ H := ⟨rfl, hM, fun b o e => of_hidT e, Nat.le_of_eq (hidT_size _ _), trivial, fun b hb => absurd (show b ∈ ([] : List Addr) from hb) (by simp), hok, .of_eq hg⟩
    refine codeAny_mono ((F _ hKb (nsK hns)).run callerA [] s₁ H ⟨[.ref a], []⟩ [.ref a] [.ref a] _ _ hr e0 (hbind s₁ (.ref a)) (.cons rfl .nil) (hsp H hO hS)) fun r s' h => ?_
    cases r with
    | error e => exact (hCX H e s' h).elim
    | ok fl =>
      cases fl with
      | next => exact False.elim h
      | brk => exact False.elim h
      | cont => exact False.elim h
      | ret u =>
        obtain ⟨v, H', os, bare, un, hok', r', q⟩ := h
        have q' : v = .bl true := q
        subst q'
        obtain rfl : u = Value.bool true := r'
        refine ⟨rfl, OldK.of_keep fun b o e => ?_, os, bare⟩
        cases q : H b with
        | none => exact un.keep b o e q (by intro z; exact absurd (show b ∈ ([] : List Addr) from z) (by simp)) (by simp)
        | some u =>
          rcases hO b with z | ⟨ob, xs, z⟩
          · rw [q] at z; cases z
          · have z2 := un.frzs b ob _ z
            obtain ⟨e1, _⟩ := hok b _ z
            obtain ⟨e2, _⟩ := hok' b _ z2
            rw [e] at e1; cases e1
            exact e2
  cases hk : K.lookup a with
  | some o =>
    have e := KX a o hk
    rw [ha] at e
    cases e
    refine core (fun _ => none) (fun _ => .inl rfl) (.inr ⟨_, vs.toArray, _, hk, rfl, rfl, rfl, by rw [List.size_toArray, lenV]; exact hl, by simpa using rv⟩) (fun b u z => by have z' : (none : Option HO) = some u := z; cases z') (fun b z => absurd rfl z) fun z => absurd rfl z
  | none =>
    refine core (fun b => if b = a then some (.frz { cls := .type "list", data := .seq vs.toArray } (.lst (ns.map V.int))) else none) (fun b => ?_) (.inl (.inr ⟨{ cls := .type "list", data := .seq vs.toArray }, if_pos rfl⟩)) (fun b u z => ?_) (fun b z => ?_) fun _ => hk
    · by_cases hb : b = a
      · exact .inr ⟨_, _, if_pos hb⟩
      · exact .inl (if_neg hb)
    · by_cases hb : b = a
      · have z' := (if_pos hb).symm.trans z
        cases z'
        subst hb
        exact ⟨ha, by rw [List.length_map]; exact hl, vs, _, rv, ha⟩
      · have z' := (if_neg hb).symm.trans z
        cases z'
    · by_cases hb : b = a
      · exact hb
      · exact absurd (if_neg hb) z
end L2
namespace L2
open PySem PySem.Spec PyProof.Rows
theorem walk_of {l : PySem.W.OpenLaw} {n k : Nat} {q : Program} {loose : List Str} {XP : (Str → Option Value) → Heap → Prop} {YP : World → Heap → Prop} {d : DefRec} {K : Params → PySem.W.Frag} {CX : World → CXT} {sp : World → Sp} {x : Str}
    (hn : l.most = some n) (hn2 : n ≤ sizeLine) (hdf : d.params.defaults = []) (hr : Room k callerA)
    (hY : ∀ (w : World) (h : Heap), YP w h → (K w.params).In h)
    (F : ∀ (w : World) (mg : Str → Option Value) (fa : Addr) (h : Heap), (K w.params).In h → h.Ns mainGlobals mg → mg d.name = some (.ref fa) →
      ∃ fd : FuncData, (∀ (s : Shared) (u : Value), BindsTo s fd ⟨[u], []⟩ [(x, u)]) ∧
        ∀ base : Heap, (K w.params).In base → base.Ns mainGlobals mg → FnOk l.prog w (K w.params) mg base (CX w) k fa fd [x] (sp w))
    (hsp : ∀ (w : World) (H : Hp) (a : Addr) (ns : List Int), ns.length ≤ n → Only H → SqL (K w.params) H a (ns.map V.int) → sp w [.ref a] H (fun v _ => v = .bl true) fun _ _ _ => False)
    (hCX : ∀ (w : World) (H : Hp) (s : Shared) (e : Value) (s' : Shared), CX w [] H s (fun _ _ _ => False) e s' → False) :
    PySem.W.WalkO q loose XP YP l.row.toRowW d [] (fun f vs => PySem.call f vs) := by
  refine Att.attach_call hn hdf fun w s₀ s₁ mg mb fa o pm cd doc a vs ns G Y ho hd hcd hmg hobj hints hlen hg => ?_
  have KX := hY w _ Y
  obtain ⟨fd, hb, hF⟩ := F w mg fa _ KX G.T.g hmg
  exact law_call KX G.T.g G.T.b G.T.builtins G.T.nolimit hg hobj hints (Nat.le_trans hlen hn2) hr hF hb (fun H hO hS => hsp w H a ns hlen hO hS) fun H e s' => hCX w H s₁ e s'
end L2
/- THE LAST THEOREM (shape; LID, My.* are yours):
   My.Adr: a structure of the addresses that your layer names (classes, functions); My.Txt K t: a structure (Prop) of the equations over K;
   My.txt_mk : {K} {implicit addresses ..} (e1 : nsIn K mainGlobals "law" = some (some (.ref f))) (e2 : K.lookup f = some ⟨oc, od, .func (fnOf "law" "law" params body scope dV kV doc pm an cdv ct), sl⟩) (e3 : codeIn K cdv "law" = true) .. : ∃ t, My.Txt K t
set_option maxRecDepth 100000 in
set_option maxHeartbeats 0 in
theorem PySem.Challenge.cw_LID_holds : PySem.Challenge.rw_LID.Holds := by
  w_on; o_law; k_head; (case hw => w_witness2)
  k_fill
  refine L2.walk_of (l := PySem.Challenge.rw_LID) (n := 63) (k := 40) (x := "script") (CX := fun w => ..) (sp := fun _ => My.sp_law) rfl (by decide) rfl ⟨rfl, by decide, by decide⟩ (fun w h Y => PySem.W.kIn_of Y) ?F ?S ?C
  case F =>
    intro w mg fa h KX G hmg
    have T : ∃ t, My.Txt (L2.KOf KX) t := by
      dsimp only [L2.KOf]                          -- K must stand as «<heap const> w.params» for k_is
      refine' My.txt_mk ?e1 ?e2 ?e3 ..
      (case e1 => PySem.W.k_is)                    -- in the order: a name -> its address -> its object -> its parts
      (case e2 => PySem.W.k_is)
      ..
    obtain ⟨t, T⟩ := T
    have e0 := hmg.symm.trans (PySem.W.mg_of KX G T.law)
    cases e0                                       -- fa is the law's own address
    exact ⟨_, fun s u => .of_eq rfl, fun base kb nb => My.law_fn T kb nb⟩     -- if «.of_eq rfl» comes too early: refine' ⟨_, ?b, fun base kb nb => My.law_fn T kb nb⟩; exact fun s u => .of_eq rfl
  case S => exact fun w H a ns hl hO hS => ..
  case C => exact ..
(the tactic k_is has no namespace: write k_is) -/
namespace L2
open PySem PySem.Spec PyProof.Rows
def inClass (s : Stmt) (j : Nat) : Stmt := match s with
  | .ClassDef _ _ _ body _ _ _ _ _ _ _ => body.getD j (.Pass ⟨0, 0, 0, 0⟩)
  | _ => .Pass ⟨0, 0, 0, 0⟩
def defArgs (s : Stmt) : Arguments := match s with
  | .FunctionDef _ a _ _ _ _ _ _ _ _ => a
  | _ => { posonlyargs := [], args := [], vararg := none, kwonlyargs := [], kw_defaults := [], kwarg := none, defaults := [] }
def defBody (s : Stmt) : List Stmt := match s with
  | .FunctionDef _ _ b _ _ _ _ _ _ _ => b
  | _ => []
def defScope (s : Stmt) : Scope := match s with
  | .FunctionDef _ _ _ _ _ _ sc _ _ _ => sc
  | _ => { kind := .function, names := [], isGenerator := false, isCoroutine := false }
abbrev CX0 : CXT := fun _ _ _ _ _ _ => False
abbrev E0 : XK := fun _ _ _ => False
theorem pass0 {X : Cx} : Passes CX0 X E0 := fun _ _ _ _ _ _ _ h => h.elim
structure Fun (K : PySem.W.Frag) (x qual : Str) (st : Stmt) (f : Addr) (fd : FuncData) : Prop where
  ex : ∃ (oc : Value) (od : Option Addr) (kV doc pm : Value) (an : Option Addr) (cdv ct : Value) (osl : Array (Option Value)),
    fd = PySem.W.fnOf x qual (defArgs st) (defBody st) (defScope st) .none kV doc pm an cdv ct ∧ K.lookup f = some ⟨oc, od, .func fd, osl⟩ ∧ PySem.W.codeIn K cdv qual = true
  kp : PySem.W.keepIn K (.ref f) = true
section
variable {P : Program} {w : World} {K : PySem.W.Frag} {mg : Str → Option Value} {base : Heap}
theorem Fun.ok {x qual : Str} {st : Stmt} {f : Addr} {fd : FuncData} {N ps : List Str} {k : Nat} {sp : Sp} (F : Fun K x qual st f fd) (S : FnScope N ps (defScope st)) (len : ∀ vs H Q E, sp vs H Q E → vs.length = ps.length)
    (hbody : ∀ (cdv : Value) (A : Around) (outer : List Env) (s : Shared) (H : Hp) (vs : List V) (Q : VK) (E : XK), Room k (A.deeper (envOfC qual (defScope st) s.heap.objs.size f cdv)) → sp vs H Q E →
      ∃ t, PSs (cxOf CX0 P w K mg base N qual (defScope st) f cdv A outer s H E).nox (defBody st) t ∧ t { nx := fun _ H' => Q .non H', rt := Q } (start N vs) H) : FnOk P w K mg base CX0 (k + 1) f fd ps sp := by
  obtain ⟨oc, od, kV, doc, pm, an, cdv, ct, osl, rfl, lk, hcd⟩ := F.ex
  refine fn_of lk hcd S len fun A outer s H vs Q E hr hsp => ?_
  obtain ⟨t, h, q⟩ := hbody cdv A outer s H vs Q E hr hsp
  exact ⟨t, h.nox, q⟩
theorem Fun.binds {x qual : Str} {st : Stmt} {f : Addr} {fd : FuncData} {ps : List Str} (F : Fun K x qual st f fd)
    (h : ∀ (kV doc pm : Value) (an : Option Addr) (cdv ct : Value) (us : List Value), us.length = ps.length → bindArgs (PySem.W.fnOf x qual (defArgs st) (defBody st) (defScope st) .none kV doc pm an cdv ct) ⟨us, []⟩ = pure (ps.zip us)) : Binds K fd ps [] := by
  obtain ⟨oc, od, kV, doc, pm, an, cdv, ct, osl, rfl, lk, hcd⟩ := F.ex
  exact .all (h kV doc pm an cdv ct)
theorem fun_mk {x qual : Str} {st : Stmt} {f : Addr} {oc : Value} {od an : Option Addr} {osl : Array (Option Value)} {kV doc pm cdv ct : Value} (l : K.lookup f = some ⟨oc, od, .func (PySem.W.fnOf x qual (defArgs st) (defBody st) (defScope st) .none kV doc pm an cdv ct), osl⟩)
    (c : PySem.W.codeIn K cdv qual = true) (k : PySem.W.keepIn K (.ref f) = true) : Fun K x qual st f (PySem.W.fnOf x qual (defArgs st) (defBody st) (defScope st) .none kV doc pm an cdv ct) := ⟨⟨oc, od, kV, doc, pm, an, cdv, ct, osl, rfl, l, c⟩, k⟩
end
section
variable {X : Cx}
theorem pv (i : Nat) {x : Str} {pos : Pos} (hN : X.N[i]? = some x := by rfl) (hv : Vis X.env.scope x := by first | exact Or.inl rfl | exact Or.inr (Or.inl rfl) | exact Or.inr (Or.inr rfl)) (hd : (x == ("__debug__" : Str)) = false := by decide)
    (hcd : (x == ("__classdict__" : Str)) = false := by decide) : PE X (.Name x pos) (tVar i) := pe_var hN hv hd hcd
end
theorem iteF {A B : Prop} (h : B) : if false = true then A else B := by
  rw [if_neg Bool.false_ne_true]
  exact h
theorem iteT {A B : Prop} (h : A) : if true = true then A else B := by
  rw [if_pos rfl]
  exact h
theorem ite2 {c A B : Prop} [Decidable c] (h1 : c → A) (h2 : ¬ c → B) : if c then A else B := by
  by_cases h : c
  · rw [if_pos h]
    exact h1 h
  · rw [if_neg h]
    exact h2 h
def Same (H H' : Hp) : Prop := ∀ b o, H b = some o → H' b = some o
theorem Same.refl (H : Hp) : Same H H := fun _ _ h => h
theorem Same.trans {H H1 H2 : Hp} (a : Same H H1) (b : Same H1 H2) : Same H H2 := fun c o h => b c o (a c o h)
theorem Same.free {H H' : Hp} (e : Same H H') {l : Addr} (h : H' l = Option.none) : H l = Option.none := by
  cases q : H l with
  | none => rfl
  | some o =>
    rw [e l o q] at h
    cases h
theorem Same.seq {K : PySem.W.Frag} {H H' : Hp} {a : Addr} {xs : List V} (e : Same H H') (h : SqL K H a xs) : SqL K H' a xs := by
  rcases h with (h | ⟨o, h⟩) | h
  · exact .inl (.inl (e _ _ h))
  · exact .inl (.inr ⟨o, e _ _ h⟩)
  · exact .inr h
section
variable {κ : Type} [DecidableEq κ]
end
end L2
set_option Elab.async false
set_option linter.all false
set_option maxRecDepth 100000
set_option maxHeartbeats 4000000
namespace L2
open PySem PySem.Spec PyProof.Rows
theorem clos_aux {env : Env} : ∀ (names : List (Str × NameKind)) (cs : List (Str × Addr)), (∀ x ∈ names, x.2 = .free → ∃ c, env.cells.lookup x.1 = some c) → (∀ x c, cs.lookup x = some c → env.cells.lookup x = some c) →
    ∃ cl : List (Str × Addr), (forIn names cs fun x r => if (x.snd == NameKind.free) = true then (do let a ← cellOf env x.fst; pure (ForInStep.yield ((x.fst, a) :: r)) : Sem (ForInStep (List (Str × Addr)))) else pure (ForInStep.yield r)) = pure cl ∧
      (∀ x c, cl.lookup x = some c → env.cells.lookup x = some c) ∧ ∀ x, ((x, NameKind.free) ∈ names ∨ ∃ c, cs.lookup x = some c) → ∃ c, cl.lookup x = some c
  | [], cs, _, h2 => ⟨cs, rfl, h2, fun x hx => hx.elim (fun z => nomatch z) id⟩
  | (n, k) :: r, cs, h1, h2 => by
    rw [List.forIn_cons]
    by_cases hk : k = .free
    · subst hk
      obtain ⟨c, hc⟩ := h1 (n, .free) List.mem_cons_self rfl
      obtain ⟨cl, e, q1, q2⟩ := clos_aux r ((n, c) :: cs) (fun x hx => h1 x (List.mem_cons_of_mem _ hx)) (fun x d hd => by
        rw [List.lookup_cons] at hd
        split at hd
        · rename_i hx
          cases hd
          have : x = n := by simpa using hx
          subst this; exact hc
        · exact h2 x d hd)
      refine ⟨cl, ?_, q1, fun x hx => q2 x ?_⟩
      · simp only [beq_self_eq_true, if_true]
        rw [show cellOf env n = pure c by unfold cellOf; rw [hc]]
        simp only [pure_bind]
        exact e
      · rcases hx with hx | ⟨d, hd⟩
        · rcases List.mem_cons.mp hx with z | z
          · cases z
            exact .inr ⟨c, by rw [List.lookup_cons]; simp⟩
          · exact .inl z
        · refine .inr ?_
          rw [List.lookup_cons]
          split
          · exact ⟨_, rfl⟩
          · exact ⟨d, hd⟩
    · obtain ⟨cl, e, q1, q2⟩ := clos_aux r cs (fun x hx => h1 x (List.mem_cons_of_mem _ hx)) h2
      have hb : (k == NameKind.free) = false := by simpa using hk
      refine ⟨cl, ?_, q1, fun x hx => q2 x ?_⟩
      · simp only [hb, Bool.false_eq_true, if_false, pure_bind]
        exact e
      · rcases hx with hx | hx
        · rcases List.mem_cons.mp hx with z | z
          · cases z; exact absurd rfl hk
          · exact .inl z
        · exact .inr hx
theorem clos_of {env : Env} {scope : Scope} (h : ∀ x ∈ scope.names, x.2 = .free → ∃ c, env.cells.lookup x.1 = some c) :
    ∃ cl : List (Str × Addr), closureFor scope env = pure cl ∧ (∀ x c, cl.lookup x = some c → env.cells.lookup x = some c) ∧ ∀ x, (x, NameKind.free) ∈ scope.names → ∃ c, cl.lookup x = some c := by
  obtain ⟨cl, e, q1, q2⟩ := clos_aux scope.names [] h (fun x c z => by simp at z)
  refine ⟨cl, ?_, q1, fun x hx => q2 x (.inl hx)⟩
  simp only [closureFor]
  rw [e]
  rfl
theorem comp_loop {prog : Program} {w : World} {A : Around} {R : Result → Shared → Prop} {s : Shared} {elt target iter : Expr} {ifs : List Expr} {scope : Scope} {pos : Pos} {it acc : Value} {env : Env} (I : Nat → Shared → Prop)
    (turn : ∀ n s, I n s → wpAny (model prog w) A (pyNext it) (fun r s₁ => match r with
      | none => R (.ok .next) s₁
      | some v => wpAny (model prog w) A (letOwnedTupleGo target it v) (fun _ s₁' => wpAny (model prog w) A (assign target env v) (fun _ s₂ =>
          wpAny (model prog w) A (forIn ifs true fun c r => if r = true then do let ok ← isTrue c env (eval c env); pure (ForInStep.yield ok) else pure (ForInStep.yield r)) (fun ok s₃ =>
            if ok = true then wpAny (model prog w) A (eval elt env) (fun x s₄ =>
              wpAny (model prog w) A (call (.builtin "list.append") [acc, x]) (fun _ s₅ => ∃ m, m < n ∧ I m s₅) (fun _ _ => False) s₄) (fun _ _ => False) s₃
            else ∃ m, m < n ∧ I m s₃) (fun _ _ => False) s₂) (fun _ _ => False) s₁') (fun _ _ => False) s₁) (fun _ _ => False) s)
    (n : Nat) (h : I n s) :
    codeAny (model prog w) A (.compLoop (.ListComp elt [⟨target, iter, ifs, 0⟩] scope pos) 0 it acc env) R s := by
  refine codeAny_loop rfl I (fun n s hI => ?_) n h
  show wpAny _ A ((compTurn (.ListComp elt [⟨target, iter, ifs, 0⟩] scope pos) 0 it acc env).onRaise (fun x => do noteFrame x env; theTreesLotGoes x)) _ _ s
  refine wpAny_noted ?_
  rw [compTurn_list]
  refine wpAny_bind (wpAny_standAt (wpAny_bind (wpAny_mono (turn n s hI) (fun r s₁ h₁ => ?_) fun _ _ h' => h'.elim)))
  cases r with
  | none => exact wpAny_pure h₁
  | some v =>
    refine wpAny_bind (wpAny_mono h₁ (fun _ s₁' h₁' => ?_) fun _ _ h' => h'.elim)
    refine wpAny_bind (wpAny_mono h₁' (fun _ s₂ h₂ => wpAny_bind (wpAny_mono h₂ (fun ok s₃ h₃ => ?_) fun _ _ h' => h'.elim)) fun _ _ h' => h'.elim)
    cases ok with
    | false => exact wpAny_pure ⟨rfl, h₃⟩
    | true =>
      exact wpAny_bind (wpAny_bind (wpAny_mono h₃ (fun x s₄ h₄ => wpAny_bind (wpAny_mono h₄ (fun _ s₅ h₅ => wpAny_pure (wpAny_pure ⟨rfl, h₅⟩)) fun _ _ h' => h'.elim)) fun _ _ h' => h'.elim))
end L2
set_option maxRecDepth 100000
namespace L2
open PySem PySem.Spec PyProof.Rows
abbrev compCx (X : Cx) (scope : Scope) (N : List Str) (cl : List (Str × Addr)) (C : Addr) (s : Shared) (H : Hp) (ex : List Addr) (pn : List (Addr × Obj)) : Cx where
  prog := X.prog
  w := X.w
  K := X.K
  mg := X.mg
  base := X.base
  A := X.A
  N := N
  s₀ := s
  H₀ := H
  env := compEnvC scope cl C X.env
  outer := X.stack
  stack := X.stack
  ex := ex
  calm := X.calm
  fn := fun _ => false
  pn := pn
  xe := fun _ _ => False
def PTs (X : Cx) (ifs : List Expr) (t : TT) : Prop :=
  ∀ (pins : List (Addr × Obj)) (s : Shared) (σ : St) (H : Hp) (Q : Bool → Hp → Prop), Inv X pins σ H s → t σ H Q →
    wpAny (model X.prog X.w) X.A (forIn ifs true fun c r => if r = true then do let ok ← isTrue c X.env (eval c X.env); pure (ForInStep.yield ok) else pure (ForInStep.yield r)) (TP X pins σ Q) X.xe s
theorem pts_one {X : Cx} {c : Expr} {t : TT} (h : PT X c t) : PTs X [c] t := fun pins s σ H Q I hq => wpAny_tests_one (h pins s σ H Q I hq)
abbrev TTg := V → Hp → (List V → Prop) → Prop
def PTg (X : Cx) (k : Nat) (tg : Expr) (tt : TTg) : Prop :=
  ∀ (pins : List (Addr × Obj)) (s : Shared) (σ : St) (H : Hp) (v : V) (u : Value) (Q : List V → Prop), Inv X pins σ H s → k ≤ σ.length → RelV v u → tt v H Q →
    wpAny (model X.prog X.w) X.A (assign tg X.env u) (fun _ s' => ∃ ws, ws.length = k ∧ Q ws ∧ Inv X pins (ws.map some ++ σ.drop k) H s') X.xe s
def ttName : TTg := fun v _ Q => Q [v]
theorem ptg_name {X : Cx} {x : Str} {pos : Pos} (hN : X.N.Nodup) (hi : X.N[0]? = some x) (hx : X.env.scope.names.lookup x = some .local) : PTg X 1 (.Name x pos) ttName := by
  intro pins s σ H v u Q I hl r h
  refine wpAny_assign_Name (store_ok I hN hi (.inl hx) r (fun s' I' => ⟨[v], rfl, h, ?_⟩) (.inr hx))
  cases σ with
  | nil => simp at hl
  | cons a t => exact I'
end L2
set_option maxRecDepth 100000
set_option maxHeartbeats 400000
namespace L2
open PySem PySem.Spec PyProof.Rows
end L2
set_option Elab.async false
set_option linter.all false
set_option maxRecDepth 100000
set_option maxHeartbeats 1000000
namespace L2
open PySem PySem.Spec PyProof.Rows
theorem HOk.adopt {P : Program} {w : World} {H : Hp} {h : Heap} {a : Addr} {o : HO} (x : HOk P w H h) (hn : H a = none) (new : ObjOk P w (upd H a o) h a o) : HOk P w (upd H a o) h := fun b u e => by
  by_cases hb : b = a
  · subst hb; rw [upd_same] at e; cases e; exact new
  · rw [upd_ne hb] at e
    exact (x b u e).stay (fun c v _ q => q) (fun c q => by rw [upd_ne (ne_of_none q hn)]; exact q) fun c xs q => by rw [upd_ne (ne_of_none q hn)]; exact q
theorem relabel_free {env : Env} {x : Str} : ∀ {names : List (Str × NameKind)}, names.lookup x = some .free →
    (names.map fun (n, k) => if (k == NameKind.free && env.scope.kind == .function && env.kindOf n == some .cell) then (n, NameKind.cell) else (n, k)).lookup x = some .cell ∨
    (names.map fun (n, k) => if (k == NameKind.free && env.scope.kind == .function && env.kindOf n == some .cell) then (n, NameKind.cell) else (n, k)).lookup x = some .free
  | [], h => by simp at h
  | (n, k) :: r, h => by
    have ih := @relabel_free env x r
    show (List.lookup x ((if (k == NameKind.free && env.scope.kind == .function && env.kindOf n == some .cell) = true then (n, NameKind.cell) else (n, k)) :: _) = _) ∨ (List.lookup x ((if (k == NameKind.free && env.scope.kind == .function && env.kindOf n == some .cell) = true then (n, NameKind.cell) else (n, k)) :: _) = _)
    cases hx : x == n with
    | true =>
      simp only [List.lookup_cons, hx] at h
      cases h
      split
      · left; simp [List.lookup_cons, hx]
      · right; simp [List.lookup_cons, hx]
    | false =>
      simp only [List.lookup_cons, hx] at h
      split
      · simp only [List.lookup_cons, hx]; exact ih h
      · simp only [List.lookup_cons, hx]; exact ih h
theorem relabel_back {env : Env} {x : Str} : ∀ {names : List (Str × NameKind)}, (∀ y ∈ names, y.2 ≠ .cell) →
    ((names.map fun (n, k) => if (k == NameKind.free && env.scope.kind == .function && env.kindOf n == some .cell) then (n, NameKind.cell) else (n, k)).lookup x = some .cell ∨
    (names.map fun (n, k) => if (k == NameKind.free && env.scope.kind == .function && env.kindOf n == some .cell) then (n, NameKind.cell) else (n, k)).lookup x = some .free) → (x, NameKind.free) ∈ names
  | [], _, h => by simp at h
  | (n, k) :: r, hc, h => by
    have ih := @relabel_back env x r (fun y hy => hc y (List.mem_cons_of_mem _ hy))
    have hk : k ≠ .cell := hc (n, k) List.mem_cons_self
    have h' : (List.lookup x ((if (k == NameKind.free && env.scope.kind == .function && env.kindOf n == some .cell) = true then (n, NameKind.cell) else (n, k)) :: _) = _) ∨ (List.lookup x ((if (k == NameKind.free && env.scope.kind == .function && env.kindOf n == some .cell) = true then (n, NameKind.cell) else (n, k)) :: _) = _) := h
    cases hx : x == n with
    | true =>
      have e : x = n := by simpa using hx
      subst e
      by_cases hc2 : (k == NameKind.free && env.scope.kind == .function && env.kindOf x == some .cell) = true
      · have : k = .free := by
          have := (Bool.and_eq_true_iff.mp (Bool.and_eq_true_iff.mp hc2).1).1
          simpa using this
        subst this; exact List.mem_cons_self
      · rw [if_neg hc2] at h'
        simp only [List.lookup_cons, hx] at h'
        rcases h' with h' | h'
        · exact absurd (Option.some.inj h') hk
        · cases h'; exact List.mem_cons_self
    | false =>
      refine List.mem_cons_of_mem _ (ih ?_)
      split at h' <;> (simp only [List.lookup_cons, hx] at h'; exact h')
structure CompOk (scope psc : Scope) (N PN : List Str) (k : Nat) (cap : List Nat) : Prop where
  kind : scope.kind = .function
  len : N.length = k + cap.length
  cell : ∀ y ∈ scope.names, y.2 ≠ .cell
  loc : ∀ y ∈ scope.names, y.2 = .local → scope.names.lookup y.1 = some .local
  free : ∀ y ∈ scope.names, y.2 = .free → psc.names.lookup y.1 = some .cell ∨ psc.names.lookup y.1 = some .free
  cap : ∀ j ∈ List.range cap.length, ∃ x i, N[k + j]? = some x ∧ cap[j]? = some i ∧ PN[i]? = some x ∧ scope.names.lookup x = some .free
  free2 : ∀ y ∈ scope.names, y.2 = .free → scope.names.lookup y.1 = some .free
def capS (σ : St) (cap : List Nat) : St := cap.map fun j => (σ[j]?).join
def tComp (wi : TI) (tt : TTg) (tc : TT) (te : TE) (cap : List Nat) : TE := fun σ H Q => wi σ H fun J H1 =>
  ∃ W : Nat → Nat → List V → Hp → Prop, (∃ m, W 0 m [] H1) ∧ ∀ i m ys H2, W i m ys H2 →
    (J.stop i H2 ∧ ys.length ≤ sizeLine ∧ ∀ p, H2 p = none → Q (.ref p) (upd H2 p (.lst ys))) ∨
    (J.go i H2 ∧ ∃ N : List V → Hp → Prop, (∀ ys' H', N ys' H' → ys'.length ≤ sizeLine ∧ ∃ m', m' < m ∧ W (i + 1) m' ys' H') ∧
      ∀ x H3, J.yld i H2 x H3 → tt x H3 fun ws => tc (ws.map some ++ capS σ cap) H3 fun b H4 =>
        if b = true then te (ws.map some ++ capS σ cap) H4 fun y H5 => N (ys ++ [y]) H5 else N ys H4)
structure Blk (X : Cx) (pins : List (Addr × Obj)) (H : Hp) (s : Shared) (C : Addr) : Prop where
  ns : ∃ m, s.heap.Ns C m
  un : H C = none
  ne : C ≠ X.env.locals
  new : X.s₀.heap.objs.size ≤ C
  cells : ∀ x c, X.env.cells.lookup x = some c → c ≠ C
  pins : ∀ p ∈ X.pn ++ pins, p.1 ≠ C
theorem Blk.turn {X : Cx} {pins : List (Addr × Obj)} {H : Hp} {σ : St} {s : Shared} {C : Addr} {h' : Heap} (B : Blk X pins H s C) (I : Inv X pins σ H s) (hs : Heap.SameBut C s.heap h') : Inv X pins σ H { s with heap := h' } :=
  I.turned (t' := s.toks) (fun b o hb e => hs.extBut b o hb e) B.un B.ne (.inr B.new) B.cells B.pins
theorem comp_start {X : Cx} {pins : List (Addr × Obj)} {σ : St} {H : Hp} {s : Shared} {scope : Scope} {N : List Str} {k : Nat} {cap : List Nat} {cl : List (Str × Addr)} {h₁ : Heap} {fp : List Addr} {tk : Nat} (I : Inv X pins σ H s) (S : CompOk scope X.env.scope N X.N k cap)
    (hcl1 : ∀ x c, cl.lookup x = some c → X.env.cells.lookup x = some c) (hcl2 : ∀ x, (x, NameKind.free) ∈ scope.names → ∃ c, cl.lookup x = some c)
    (hf : ∀ b ∈ fp, FpOk X pins H b) (ho : ∀ b ∈ fp, ∃ o, s.heap.get? b = some o)
    {m : Str → Option Value} (hns : h₁.Ns (s.heap.objs.size + 1) m)
    (hsb : ∀ b o, (s.heap.push { cls := .type "list", data := .seq #[] }).get? b = some o → h₁.get? b = some o) :
    Inv (compCx X scope N cl (s.heap.objs.size + 1) { s with heap := s.heap.push { cls := .type "list", data := .seq #[] } } H (s.heap.objs.size :: fp) (X.pn ++ pins))
      [(s.heap.objs.size, { cls := .type "list", data := .seq #[] })] (List.replicate k none ++ capS σ cap) H { s with heap := h₁, toks := tk } := by
  have Ik : Inv X pins σ H { s with heap := s.heap.push { cls := .type "list", data := .seq #[] } } := I.kept (t' := s.toks) fun b o e => Heap.get?_push_of_some _ e
  have hold : ∀ b o, s.heap.get? b = some o → h₁.get? b = some o := fun b o e => hsb b o (Heap.get?_push_of_some _ e)
  have ltD : ∀ {b o}, s.heap.get? b = some o → b < s.heap.objs.size := fun e => Heap.lt_size e
  have sizeP : (s.heap.push { cls := .type "list", data := .seq #[] }).objs.size = s.heap.objs.size + 1 := Heap.size_push ..
  have nD : H s.heap.objs.size = none := I.fresh
  have nC : H (s.heap.objs.size + 1) = none := I.hok.fresh (Nat.le_succ _)
  have cellLt : ∀ x c, X.env.cells.lookup x = some c → c < s.heap.objs.size := fun x c e => by
    obtain ⟨v, q⟩ := I.cell x c e
    exact q.lt
  have stkNe : ∀ b, b ≠ X.env.locals → b ∉ X.fs → b ∉ frs X.stack := fun b h1 h2 hb => (List.mem_cons.mp (I.stkSub b hb)).elim h1 h2
  have fpLt : ∀ b ∈ fp, b < s.heap.objs.size := fun b hb => by obtain ⟨o, e⟩ := ho b hb; exact Heap.lt_size e
  have hfn : ∀ {x : Str}, scope.names.lookup x = some .free → (x, NameKind.free) ∈ scope.names := fun e => PySem.mem_of_lookup e
  refine ⟨⟨I.ok.mod, S.kind, I.ok.glob, I.ok.blt, ?_, fun x y c h1 h2 => I.ok.inj x y c (hcl1 x c h1) (hcl1 y c h2), fun x hx => hcl2 x (relabel_back S.cell hx), fun x c z => (by cases z), I.ok.hd, I.ok.frames, .inl rfl, ?_, ?_, ?_, ?_, ?_, Ik.stack, I.stkFree⟩,
    rfl, I.bare, Un.kept hsb, ?_, ?_, nC, fun x c e => I.freeC x c (hcl1 x c e), ?_, I.hok.kept hold, ?_⟩
  · exact Nat.le_of_eq sizeP
  · intro b hb
    rcases List.mem_cons.mp hb with rfl | hb
    · exact ⟨Nat.ne_of_lt (Nat.lt_succ_self _), fun x c e => Nat.ne_of_lt (cellLt x c (hcl1 x c e))⟩
    · exact ⟨Nat.ne_of_lt (Nat.lt_succ_of_lt (fpLt b hb)), fun x c e => (hf b hb).2.2.2.2.1 x c (hcl1 x c e)⟩
  · intro b o e
    obtain ⟨e1, e2⟩ := I.bs b o e
    exact ⟨Heap.get?_push_of_some _ e1, e2⟩
  · show X.base.objs.size ≤ (s.heap.push _).objs.size
    rw [sizeP]
    exact Nat.le_succ_of_le (Nat.le_trans I.ok.bsz I.sz)
  · intro b o e hb
    obtain ⟨e1, e2⟩ := I.bs b o e
    rcases List.mem_cons.mp hb with rfl | hb
    · exact absurd (ltD e1) (Nat.lt_irrefl _)
    · rcases (hf b hb).2.2.2.1 with z | z
      · exact I.ok.noex b o e z
      · exact absurd (Nat.lt_of_lt_of_le (Heap.lt_size (I.ok.bs b o e).1) z) (Nat.lt_irrefl _)
  · intro b hb
    rcases List.mem_cons.mp hb with rfl | hb
    · exact stkNe _ (Nat.ne_of_gt I.lt) (I.nofs (Nat.le_refl _))
    · exact stkNe b (hf b hb).2.1 (hf b hb).2.2.1
  · refine ⟨m, hns, fun i x v h1 h2 h3 => ?_⟩
    have hik : k ≤ i := by
      refine Nat.le_of_not_lt fun hlt => ?_
      rw [List.getElem?_append_left (by simpa using hlt), List.getElem?_replicate] at h2
      split at h2 <;> cases h2
    obtain ⟨j, rfl⟩ := Nat.exists_eq_add_of_le hik
    rw [List.getElem?_append_right (by simp), List.length_replicate, Nat.add_sub_cancel_left] at h2
    have hj : j < cap.length := by
      have := (List.getElem?_eq_some_iff.mp h2).1
      simpa [capS] using this
    obtain ⟨x', i, e1, e2, e3, e4⟩ := S.cap j (List.mem_range.mpr hj)
    rw [show N[k + j]? = some x from h1] at e1
    cases e1
    have h2' : σ[i]? = some (some v) := by
      unfold capS at h2
      rw [List.getElem?_map, e2] at h2
      have h2' : (σ[i]?).join = some v := Option.some.inj h2
      cases q : σ[i]? with
      | none => rw [q] at h2'; cases h2'
      | some z => rw [q] at h2'; exact congrArg some h2'
    have hfm := hfn e4
    have pk := S.free _ hfm rfl
    obtain ⟨m0, _, hl⟩ := I.loc
    obtain ⟨u, r, lk⟩ := hl i x v e3 h2' (pk.elim (fun z => .inr (.inl z)) fun z => .inr (.inr z))
    refine ⟨u, r, ?_⟩
    rcases lk with ⟨kl, _⟩ | ⟨_, c, e, ic⟩
    · rcases pk with z | z
      · have : X.env.scope.names.lookup x = some .local := kl
        rw [z] at this; cases this
      · have : X.env.scope.names.lookup x = some .local := kl
        rw [z] at this; cases this
    · obtain ⟨c', ec⟩ := hcl2 x hfm
      have := hcl1 x c' ec
      rw [e] at this; cases this
      refine .inr ⟨?_, c, ec, ?_⟩
      · exact relabel_free e4
      · obtain ⟨ob, h3, h4⟩ := ic
        exact ⟨ob, hold _ _ h3, h4⟩
  · intro x c e
    obtain ⟨v, ob, h3, h4⟩ := I.cell x c (hcl1 x c e)
    exact ⟨v, ob, hold _ _ h3, h4⟩
  · intro p hp
    rcases List.mem_append.mp hp with hp | hp
    · obtain ⟨e, n, ne, nf, d⟩ := I.pin p hp
      exact ⟨hold _ _ e, n, Nat.ne_of_lt (Nat.lt_succ_of_lt (ltD e)), stkNe _ ne nf, d⟩
    · have : p = (s.heap.objs.size, { cls := .type "list", data := .seq #[] }) := by simpa using hp
      subst this
      refine ⟨hsb _ _ (Heap.get?_push_size _ rfl), nD, Nat.ne_of_lt (Nat.lt_succ_self _), stkNe _ (Nat.ne_of_gt I.lt) (I.nofs (Nat.le_refl _)), fun v z => by cases z⟩
  · show _ = N.length
    rw [S.len]
    simp [capS]
end L2
set_option Elab.async false
set_option linter.all false
set_option maxRecDepth 100000
set_option maxHeartbeats 1000000
namespace L2
open PySem PySem.Spec PyProof.Rows
theorem comp_core {X : Cx} {elt tg iter : Expr} {ifs : List Expr} {scope : Scope} {pos : Pos} {N : List Str} {k : Nat} {cap : List Nat} {wi : TI} {tt : TTg} {tc : TT} {te : TE} {cl : List (Str × Addr)}
    (hc : X.calm = true) (hi : PI X tg iter wi) (hg : ∀ cl C s H ex pn, PTg (compCx X scope N cl C s H ex pn) k tg tt) (ht : ∀ cl C s H ex pn, PTs (compCx X scope N cl C s H ex pn) ifs tc)
    (he : ∀ cl C s H ex pn, PE (compCx X scope N cl C s H ex pn) elt te) (S : CompOk scope X.env.scope N X.N k cap)
    (hcl1 : ∀ x c, cl.lookup x = some c → X.env.cells.lookup x = some c) (hcl2 : ∀ x, (x, NameKind.free) ∈ scope.names → ∃ c, cl.lookup x = some c)
    {pins : List (Addr × Obj)} {s : Shared} {σ : St} {H : Hp} {Q : VK} (I : Inv X pins σ H s) (h : tComp wi tt tc te cap σ H Q) {RR : Value → Addr → Result → Shared → Prop}
    (hRR : ∀ D C s1 H', Inv X pins σ H' s1 → Blk X pins H' s1 C → Q (.ref D) H' → RR (.ref D) C (.ok .next) s1) :
    wpAny (model X.prog X.w) X.A (eval iter X.env) (fun x s₁ => wpAny (model X.prog X.w) X.A (pyIter x) (fun it s₂ => wpAny (model X.prog X.w) X.A (newList []) (fun acc s₃ =>
      wpAny (model X.prog X.w) X.A (newFunctionEnv scope X.env.globals cl [] X.env.qual none .none (some X.env)) (fun cenv s₄ =>
        codeAny (model X.prog X.w) X.A (.compStart (.ListComp elt [⟨tg, iter, ifs, 0⟩] scope pos) 0 it acc { cenv with scope := relabel scope X.env }) (RR acc cenv.locals) s₄) X.xe s₃) X.xe s₂) X.xe s₁) X.xe s := by
  refine thn (hi pins s σ H _ I h) fun v s1 h1 => thn h1 fun itv s2 h2 => ?_
  obtain ⟨it, fp, tn, J, H2, e, I2, T, st2, f2, W, ⟨m0, w0⟩, turn⟩ := h2
  subst e
  refine wpAny_newObj_type (wpAny_newFunctionEnv S.cell (by intro y hy; simp at hy) (fun h₁ hns₁ hsb₁ => ?_) S.kind)
  dsimp only at hns₁ hsb₁ ⊢
  have hP : s2.heap.push { cls := .type "list", dict := none, data := .seq ([] : List Value).toArray } = s2.heap.push { cls := .type "list", data := .seq #[] } := rfl
  rw [hP] at hns₁ hsb₁ ⊢
  have hC : (s2.heap.push { cls := .type "list", data := .seq #[] }).objs.size = s2.heap.objs.size + 1 := Heap.size_push ..
  rw [hC] at hns₁ hsb₁ ⊢
  have hsb : ∀ b o, (s2.heap.push { cls := .type "list", data := .seq #[] }).get? b = some o → h₁.get? b = some o := fun b o e =>
    hsb₁.extBut b o (by have := Heap.lt_size e; rw [hC] at this; exact Nat.ne_of_lt this) (Heap.get?_push_of_some _ e)
  have hob : ∀ b ∈ fp, ∃ o, s2.heap.get? b = some o := fun b hb => by obtain ⟨o, e, _⟩ := T.obj _ _ st2 b hb; exact ⟨o, e⟩
  have IY := comp_start (N := N) (k := k) (cap := cap) (tk := s2.toks + ([] : List (Str × Value)).length) I2 S hcl1 hcl2 f2 hob hns₁ hsb
  generalize hY : compCx X scope N cl (s2.heap.objs.size + 1) { s2 with heap := s2.heap.push { cls := .type "list", data := .seq #[] } } H2 (s2.heap.objs.size :: fp) (X.pn ++ pins) = Y at IY
  have yp : Y.prog = X.prog := by rw [← hY]
  have yw : Y.w = X.w := by rw [← hY]
  have yK : Y.K = X.K := by rw [← hY]
  have yA : Y.A = X.A := by rw [← hY]
  have yc : Y.calm = true := by rw [← hY]; exact hc
  have yl : Y.env.locals = s2.heap.objs.size + 1 := by rw [← hY]; rfl
  have yenv : Y.env = compEnvC scope cl (s2.heap.objs.size + 1) X.env := by rw [← hY]
  have yex : Y.ex = s2.heap.objs.size :: fp := by rw [← hY]
  have yfs : Y.fs = frs X.stack := by rw [← hY]
  have ypn : Y.pn = X.pn ++ pins := by rw [← hY]
  have ycl : Y.env.cells = cl := by rw [← hY]; rfl
  have yxe : Y.xe = fun _ _ => False := by rw [← hY]
  have gT : PTg Y k tg tt := by rw [← hY]; exact hg _ _ _ _ _ _
  have gC : PTs Y ifs tc := by rw [← hY]; exact ht _ _ _ _ _ _
  have gE : PE Y elt te := by rw [← hY]; exact he _ _ _ _ _ _
  have yH : Y.H₀ = H2 := by rw [← hY]
  have ys0 : Y.s₀ = { s2 with heap := s2.heap.push { cls := .type "list", data := .seq #[] } } := by rw [← hY]
  have fpLt : ∀ b ∈ fp, b < s2.heap.objs.size := fun b hb => by obtain ⟨o, e⟩ := hob b hb; exact Heap.lt_size e
  have pinLt : ∀ p ∈ X.pn ++ pins, p.1 < s2.heap.objs.size := fun p hp => Heap.lt_size (I2.pin p hp).1
  have cellLt : ∀ x c, X.env.cells.lookup x = some c → c < s2.heap.objs.size := fun x c e => by
    obtain ⟨v, q⟩ := I2.cell x c e
    exact q.lt
  have stkNe : ∀ b, b ≠ X.env.locals → b ∉ X.fs → b ∉ frs X.stack := fun b h1 h2 hb => (List.mem_cons.mp (I2.stkSub b hb)).elim h1 h2
  have fpY : ∀ {H' : Hp} {pl : List (Addr × Obj)}, (∀ b ∈ fp, H' b = none) → (∀ p ∈ pl, p.1 = s2.heap.objs.size) → ∀ b ∈ fp, FpOk Y pl H' b := fun {H' pl} hn hpl b hb => by
    refine ⟨hn b hb, ?_, ?_, .inl ?_, fun x c e => ?_, fun p hp => ?_⟩
    · rw [yl]; exact Nat.ne_of_lt (Nat.lt_succ_of_lt (fpLt b hb))
    · rw [yfs]; exact stkNe b (f2 b hb).2.1 (f2 b hb).2.2.1
    · rw [yex]; exact List.mem_cons_of_mem _ hb
    · rw [ycl] at e; exact (f2 b hb).2.2.2.2.1 x c (hcl1 x c e)
    · rcases List.mem_append.mp hp with hp | hp
      · rw [ypn] at hp; exact (f2 b hb).2.2.2.2.2 p hp
      · rw [hpl p hp]; exact Nat.ne_of_gt (fpLt b hb)
  have loop : ∀ s₃ : Shared, s₃ = { s2 with heap := h₁, toks := s2.toks + ([] : List (Str × Value)).length } →
      codeAny (model X.prog X.w) X.A (.compLoop (.ListComp elt [⟨tg, iter, ifs, 0⟩] scope pos) 0 (.ref it) (.ref s2.heap.objs.size) (compEnvC scope cl (s2.heap.objs.size + 1) X.env)) (RR (.ref s2.heap.objs.size) (s2.heap.objs.size + 1)) s₃ := by
    rintro s₃ rfl
    refine comp_loop (fun n s' => ∃ i ys its H' c, Inv Y [(s2.heap.objs.size, { cls := .type "list", data := .seq (List.toArray its) c })] (List.replicate k none ++ capS σ cap) H' s' ∧ tn i s'.heap ∧ (∀ b ∈ fp, H' b = none) ∧ Vals ys its ∧ W i n ys H') ?_ m0
      ⟨0, [], [], H2, _, IY, T.keep _ _ _ st2 fun b hb o e => hsb b o (Heap.get?_push_of_some _ e), fun b hb => (f2 b hb).1, .nil, w0⟩
    rintro n s3 ⟨i, ys, its, H3, c3, I3, st3, fr3, rv3, w3⟩
    have onlyD : ∀ p ∈ [(s2.heap.objs.size, ({ cls := .type "list", data := .seq its.toArray c3 } : Obj))], p.1 = s2.heap.objs.size := fun p hp => by
      have : p = (s2.heap.objs.size, { cls := .type "list", data := .seq its.toArray c3 }) := by simpa using hp
      rw [this]
    have pinD : ∀ {pl : List (Addr × Obj)} {σ' : St} {H' : Hp} {s' : Shared}, Inv Y ([(s2.heap.objs.size, ({ cls := .type "list", data := .seq its.toArray c3 } : Obj))] ++ pl) σ' H' s' → s'.heap.get? s2.heap.objs.size = some { cls := .type "list", data := .seq its.toArray c3 } ∧ H' s2.heap.objs.size = none := fun I' => by
      obtain ⟨e, n, _⟩ := I'.pin (s2.heap.objs.size, { cls := .type "list", data := .seq its.toArray c3 }) (List.mem_append_right _ (List.mem_append_left _ (by simp)))
      exact ⟨e, n⟩
    rcases turn i n ys H3 w3 with ⟨stop, hz, qn⟩ | ⟨go, Nx, hNx, step⟩
    · have hd := T.done Y yp yw yK yc i _ s3 _ H3 (fun _ _ => False) I3 (fpY fr3 onlyD) st3 stop
      rw [yA] at hd
      refine thn hd fun r s4 hm0 => ?_
      obtain ⟨hr, I4⟩ := hm0
      subst hr
      obtain ⟨eD, nD⟩ := pinD (pl := []) (by simpa using I4)
      have nC : H3 (s2.heap.objs.size + 1) = none := by have := I4.free; rw [yl] at this; exact this
      obtain ⟨mC, nsC, _⟩ := I4.loc
      rw [yl] at nsC
      have U := I4.base
      rw [yfs, yex, yH, ys0] at U
      have old : ∀ {b o}, s2.heap.get? b = some o → b < s2.heap.objs.size := fun e => Heap.lt_size e
      have Un2 : Un (frs X.stack) (s2.heap.objs.size :: fp) H2 (upd H3 s2.heap.objs.size (.lst ys)) s2.heap s4.heap :=
        ⟨fun b o e n hb hx => U.keep b o (Heap.get?_push_of_some _ e) n hb hx, fun b o e n hb hx => U.slot b o (Heap.get?_push_of_some _ e) n hb hx,
          fun b o e n hx => by rw [upd_ne (Nat.ne_of_lt (old e))]; exact U.free b o (Heap.get?_push_of_some _ e) n hx, fun b o e hx => U.there b o (Heap.get?_push_of_some _ e) hx,
          fun b xs e => by have q := U.tups b xs e; rw [upd_ne (ne_of_none q nD)]; exact q, fun b o u e => by have q := U.frzs b o u e; rw [upd_ne (ne_of_none q nD)]; exact q,
          fun b ps e => by obtain ⟨mo, q⟩ := U.tbls b ps e; exact ⟨mo, by rw [upd_ne (ne_of_none q nD)]; exact q⟩⟩
      have hok4 := I4.hok
      rw [yp, yw] at hok4
      have IX : Inv X pins σ (upd H3 s2.heap.objs.size (.lst ys)) s4 := by
        refine I2.call' (ch := s2.heap.objs.size :: fp) ?_ Un2 (hok4.adopt nD ⟨hz, its, c3, rv3, eD⟩) I4.bare fun b hb => ?_
        · have := I4.os; rw [ys0] at this; exact this
        · rcases List.mem_cons.mp hb with rfl | hb
          · exact ⟨.inr I2.sz, Nat.ne_of_gt I2.lt, fun x c e => Nat.ne_of_lt (cellLt x c e), fun p hp => Nat.ne_of_lt (pinLt p hp)⟩
          · exact ⟨(f2 b hb).2.2.2.1, (f2 b hb).2.1, (f2 b hb).2.2.2.2.1, (f2 b hb).2.2.2.2.2⟩
      refine hRR _ _ s4 _ IX ⟨⟨mC, nsC⟩, ?_, ?_, Nat.le_succ_of_le I2.sz, fun x c e => Nat.ne_of_lt (Nat.lt_succ_of_lt (cellLt x c e)), fun p hp => Nat.ne_of_lt (Nat.lt_succ_of_lt (pinLt p hp))⟩ (qn _ nD)
      · rw [upd_ne (Nat.succ_ne_self _)]; exact nC
      · exact Nat.ne_of_gt (Nat.lt_succ_of_lt I2.lt)
    · have hd := T.item Y yp yw yK yc i _ s3 _ H3 (fun _ _ => False) I3 (fpY fr3 onlyD) st3 go
      rw [yA] at hd
      refine thn hd fun r s4 hm0 => ?_
      obtain ⟨u, hr, h4⟩ := hm0
      subst hr
      refine thn h4 fun _ s5 hm0 => ?_
      obtain ⟨x, H5, I5, r5, y5, st5, fr5⟩ := hm0
      have I5' := I5.pinned (fpY fr5 onlyD) (T.obj _ _ st5)
      have a5 := gT _ s5 _ H5 x u _ I5' (by simp) r5 (step x H5 y5)
      rw [yp, yw, yA, yxe, yenv] at a5
      refine thn a5 fun _ s6 hm0 => ?_
      obtain ⟨ws, hlw, q6, I6⟩ := hm0
      have dr : (List.replicate k (none : Option V) ++ capS σ cap).drop k = capS σ cap := by
        rw [List.drop_append_of_le_length (by simp)]; simp
      rw [dr] at I6
      have a6 := gC _ s6 _ H5 _ I6 q6
      rw [yp, yw, yA, yxe, yenv] at a6
      refine thn a6 fun ok s7 hm0 => ?_
      obtain ⟨H7, I7, q7⟩ := hm0
      have wk : ∀ (j : Nat) v, (List.replicate k (none : Option V) ++ capS σ cap)[j]? = some (some v) → (ws.map some ++ capS σ cap)[j]? = some (some v) := fun j v e => by
        have hik : k ≤ j := by
          refine Nat.le_of_not_lt fun hlt => ?_
          rw [List.getElem?_append_left (by simpa using hlt), List.getElem?_replicate] at e
          split at e <;> cases e
        rw [List.getElem?_append_right (by simpa using hik), List.length_replicate] at e
        rw [List.getElem?_append_right (by simpa [hlw] using hik), List.length_map, hlw]
        exact e
      have wl : (List.replicate k (none : Option V) ++ capS σ cap).length = (ws.map some ++ capS σ cap).length := by simp [hlw]
      have stn : ∀ {H' : Hp} {s' : Shared}, Inv Y ([(s2.heap.objs.size, ({ cls := .type "list", data := .seq its.toArray c3 } : Obj))] ++ pinsAt fp s5.heap) (ws.map some ++ capS σ cap) H' s' → tn (i + 1) s'.heap ∧ ∀ b ∈ fp, H' b = none := fun {H' s'} I' => by
        refine ⟨T.keep _ _ _ st5 fun b hb o e => (I'.pin (b, o) (List.mem_append_right _ (List.mem_append_right _ (mem_pinsAt hb e)))).1, fun b hb => ?_⟩
        obtain ⟨o, e, d⟩ := T.obj _ _ st5 b hb
        exact (I'.pin (b, o) (List.mem_append_right _ (List.mem_append_right _ (mem_pinsAt hb e)))).2.1
      cases ok with
      | false =>
        obtain ⟨_, m', hm, w'⟩ := hNx _ _ q7
        obtain ⟨t7, f7⟩ := stn I7
        exact ⟨m', hm, i + 1, ys, its, H7, c3, (I7.weak wl wk).unpinned, t7, f7, rv3, w'⟩
      | true =>
        have a7 := gE _ s7 _ H7 _ I7 q7
        rw [yp, yw, yA, yxe, yenv] at a7
        rw [if_pos rfl]
        refine thn a7 fun yv s8 hm0 => ?_
        obtain ⟨y, H8, I8, r8, q8⟩ := hm0
        obtain ⟨hz8, m', hm, w'⟩ := hNx _ _ q8
        rw [List.length_append, List.length_singleton] at hz8
        obtain ⟨eD, nD⟩ := pinD I8
        obtain ⟨t8, f8⟩ := stn I8
        refine wpAny_list_append_plain (hsz := by rw [List.size_toArray, ← rv3.length]; omega) ⟨c3, eD⟩ fun h9 pl9 sb9 => ?_
        obtain ⟨c9, e9⟩ := pl9
        have I8' : Inv Y [] (List.replicate k none ++ capS σ cap) H8 s8 := (I8.weak wl wk).pins_of fun p hp => by cases hp
        have I9 : Inv Y [] (List.replicate k none ++ capS σ cap) H8 { s8 with heap := h9 } :=
          I8'.turned (t' := s8.toks) (it := s2.heap.objs.size) (fun b o hb e => sb9.extBut b o hb e) nD (by rw [yl]; exact Nat.ne_of_lt (Nat.lt_succ_self _)) (.inl (by rw [yex]; exact List.mem_cons_self)) (fun x c e => by rw [ycl] at e; exact Nat.ne_of_lt (cellLt x c (hcl1 x c e)))
            fun p hp => by
              rw [List.append_nil, ypn] at hp
              exact Nat.ne_of_lt (pinLt p hp)
        have e9' : h9.get? s2.heap.objs.size = some { cls := .type "list", data := .seq (its ++ [yv]).toArray c9 } := by rw [e9]; simp
        refine ⟨m', hm, i + 1, ys ++ [y], its ++ [yv], H8, c9, I9.pins_of fun p hp => ?_, T.keep _ _ _ t8 fun b hb o e => sb9.extBut b o (Nat.ne_of_lt (fpLt b hb)) e, f8, rv3.append (.cons r8 .nil), w'⟩
        have : p = (s2.heap.objs.size, { cls := .type "list", data := .seq (its ++ [yv]).toArray c9 }) := by simpa using hp
        subst this
        refine ⟨e9', nD, ?_, ?_, fun v z => by cases z⟩
        · rw [yl]; exact Nat.ne_of_lt (Nat.lt_succ_self _)
        · rw [yfs]; exact stkNe _ (Nat.ne_of_gt I2.lt) (I2.nofs (Nat.le_refl _))
  exact codeAny_compStart_list (loop _ rfl) (T.self _ 0 _ _ _ (T.keep _ _ _ st2 fun b hb o e => hsb b o (Heap.get?_push_of_some _ e)) (loop _ rfl))
section
variable {X : Cx} {elt tg iter : Expr} {ifs : List Expr} {scope : Scope} {pos : Pos} {N : List Str} {k : Nat} {cap : List Nat} {wi : TI} {tt : TTg} {tc : TT} {te : TE}
theorem pe_comp (hc : X.calm = true) (S : CompOk scope X.env.scope N X.N k cap) (hi : PI X tg iter wi) (hg : ∀ cl C s H ex pn, PTg (compCx X scope N cl C s H ex pn) k tg tt) (ht : ∀ cl C s H ex pn, PTs (compCx X scope N cl C s H ex pn) ifs tc)
    (he : ∀ cl C s H ex pn, PE (compCx X scope N cl C s H ex pn) elt te) (hs : ∀ x, foldedSetIterable iter X.env x = pure x := by intro _; rfl) :
    PE X (.ListComp elt [⟨tg, iter, ifs, 0⟩] scope pos) (tComp wi tt tc te cap) := by
  intro pins s σ H Q I h
  obtain ⟨cl, hclos, hcl1, hcl2⟩ := clos_of (scope := scope) (env := X.env) fun y hy hf => I.ok.has y.1 (S.free y hy hf)
  rw [eval_ListComp]
  refine wpAny_comprehension_free (use := none) rfl hs hclos S.kind S.loc ?_
  refine comp_core hc hi hg ht he S hcl1 hcl2 I h fun D C s1 H' I1 B q => ?_
  obtain ⟨m, hm⟩ := B.ns
  exact ⟨m, hm, fun h' sb => ⟨.ref D, H', B.turn I1 sb, rfl, q⟩⟩
end
end L2
set_option Elab.async false
set_option linter.all false
set_option maxRecDepth 100000
set_option maxHeartbeats 1000000
namespace L2
open PySem PySem.Spec PyProof.Rows
abbrev Rel (α : Type) := Hp → α → V → Prop
structure MonoR {α : Type} (R : Rel α) : Prop where
  go : ∀ (H H' : Hp) (x : α) (v : V), Same H H' → R H x v → R H' x v
theorem MonoR.up {α : Type} {R : Rel α} (m : MonoR R) {H H' : Hp} {x : α} {v : V} (s : Same H H') (h : R H x v) : R H' x v := m.go H H' x v s h
theorem paired_mono {α : Type} {R : Rel α} (m : MonoR R) {H H' : Hp} (s : Same H H') {xs : List α} {vs : List V} (p : Paired (R H) xs vs) : Paired (R H') xs vs := Paired.mapP p fun _ _ q => m.up s q
theorem Paired.at {α β : Type} {F : α → β → Prop} : ∀ {xs : List α} {ys : List β} {i : Nat} {x : α}, Paired F xs ys → xs[i]? = some x → ∃ y, ys[i]? = some y ∧ F x y
  | _, _, _, _, .nil, e => by simp at e
  | _, _, 0, _, .cons r _, e => by simp at e; subst e; exact ⟨_, rfl, r⟩
  | _, _, i + 1, x, .cons _ t, e => by
    obtain ⟨u, h1, h2⟩ := Paired.at (i := i) (x := x) t (by simpa using e)
    exact ⟨u, by simpa using h1, h2⟩
theorem Paired.ta {α β : Type} {F : α → β → Prop} : ∀ {xs : List α} {ys : List β} {i : Nat} {y : β}, Paired F xs ys → ys[i]? = some y → ∃ x, xs[i]? = some x ∧ F x y
  | _, _, _, _, .nil, e => by simp at e
  | _, _, 0, _, .cons r _, e => by simp at e; subst e; exact ⟨_, rfl, r⟩
  | _, _, i + 1, x, .cons _ t, e => by
    obtain ⟨u, h1, h2⟩ := Paired.ta (i := i) (y := x) t (by simpa using e)
    exact ⟨u, by simpa using h1, h2⟩
theorem Paired.app {α β : Type} {F : α → β → Prop} : ∀ {xs xs' : List α} {ys ys' : List β}, Paired F xs ys → Paired F xs' ys' → Paired F (xs ++ xs') (ys ++ ys')
  | _, _, _, _, .nil, s => s
  | _, _, _, _, .cons r t, s => .cons r (Paired.app t s)
section
variable {X : Cx}
def kindV (H : Hp) : V → String → Prop
  | .non, T => T = "NoneType"
  | .bl _, T => T = "bool"
  | .int _, T => T = "int"
  | .str _, T => T = "str"
  | .ref a, T => (T = "list" ∧ ((∃ xs, H a = some (.lst xs)) ∨ ∃ o xs, H a = some (.frz o (.lst xs)))) ∨ (T = "tuple" ∧ ∃ xs, H a = some (.tup xs)) ∨ (T = "dict" ∧ ∃ kvs, H a = some (.dK kvs))
  | _, _ => False
theorem kindV.ty {K : PySem.W.Frag} {H : Hp} {x : V} {T : String} (h : kindV H x T) : TyOf K H x (.type T) := by
  cases x with
  | non => cases (show T = "NoneType" from h); exact .non
  | bl b => cases (show T = "bool" from h); exact .bl b
  | int i => cases (show T = "int" from h); exact .int i
  | str z => cases (show T = "str" from h); exact .str z
  | ref a =>
    rcases h with ⟨rfl, ⟨xs, e⟩ | ⟨o, xs, e⟩⟩ | ⟨rfl, xs, e⟩ | ⟨rfl, kvs, e⟩
    · exact .lst e
    · exact .frz e
    · exact .tup e
    · exact .dK e
  | _ => exact False.elim h
theorem call_isi {T : String} : CallR X (.builtin "isinstance") (fun xs H Q => ∃ x S b, xs = [x, .ty T] ∧ kindV H x S ∧ PySem.W.kitOne X.K (.type S) (.type T) = some b ∧ Q (.bl b) H) := by
  intro pins s σ H xs us Q I r h
  obtain ⟨x, S, b, rfl, hk, e, q⟩ := h
  obtain ⟨u, c, rfl, ru, rc⟩ := r.two
  cases (show c = Value.type T from rc)
  exact isinst_ok I ru hk.ty e fun tk => ⟨.bl b, H, I.tok _, rfl, q⟩
theorem isi_same {K : PySem.W.Frag} (T : String) : PySem.W.kitOne K (.type T) (.type T) = some true := by
  unfold PySem.W.kitOne
  rw [if_pos (by simp)]
theorem isi_int_bool {K : PySem.W.Frag} : PySem.W.kitOne K (.type "int") (.type "bool") = some false := rfl
end
end L2
set_option Elab.async false
set_option linter.all false
set_option maxRecDepth 100000
set_option maxHeartbeats 1000000
namespace L2
open PySem PySem.Spec PyProof.Rows
def compOkB (scope psc : Scope) (N PN : List Str) (k : Nat) (cap : List Nat) : Bool :=
  (scope.kind == .function) && (N.length == k + cap.length) &&
  (scope.names.all fun y => (y.2 != .cell) && (y.2 != .local || scope.names.lookup y.1 == some .local) &&
    (y.2 != .free || (scope.names.lookup y.1 == some .free && (psc.names.lookup y.1 == some .cell || psc.names.lookup y.1 == some .free)))) &&
  ((List.range cap.length).all fun j => match N[k + j]?, cap[j]? with
    | some x, some i => PN[i]? == some x && scope.names.lookup x == some .free
    | _, _ => false)
theorem compOk_of {scope psc : Scope} {N PN : List Str} {k : Nat} {cap : List Nat} (h : compOkB scope psc N PN k cap = true) : CompOk scope psc N PN k cap := by
  unfold compOkB at h
  simp only [Bool.and_eq_true] at h
  obtain ⟨⟨⟨h1, h2⟩, h3⟩, h4⟩ := h
  rw [List.all_eq_true] at h3 h4
  have q : ∀ y ∈ scope.names, y.2 ≠ .cell ∧ (y.2 = .local → scope.names.lookup y.1 = some .local) ∧ (y.2 = .free → scope.names.lookup y.1 = some .free ∧ (psc.names.lookup y.1 = some .cell ∨ psc.names.lookup y.1 = some .free)) := fun y hy => by
    have := h3 y hy
    simp only [Bool.and_eq_true, Bool.or_eq_true, bne_iff_ne, beq_iff_eq] at this
    obtain ⟨⟨a, b⟩, c⟩ := this
    exact ⟨a, fun e => b.elim (fun z => absurd e z) id, fun e => c.elim (fun z => absurd e z) id⟩
  refine ⟨by simpa using h1, by simpa using h2, fun y hy => (q y hy).1, fun y hy => (q y hy).2.1, fun y hy e => ((q y hy).2.2 e).2, fun j hj => ?_, fun y hy e => ((q y hy).2.2 e).1⟩
  have := h4 j hj
  split at this
  · rename_i x i e1 e2
    simp only [Bool.and_eq_true, beq_iff_eq] at this
    exact ⟨x, i, e1, e2, this.1, this.2⟩
  · cases this
section
variable {X : Cx} {elt tg iter : Expr} {ifs : List Expr} {scope : Scope} {pos : Pos} {wi : TI} {tt : TTg} {tc : TT} {te : TE}
theorem pe_lc (psc : Scope) (PN N : List Str) (k : Nat) (cap : List Nat) (hi : PI X tg iter wi) (hg : ∀ cl C s H ex pn, PTg (compCx X scope N cl C s H ex pn) k tg tt) (ht : ∀ cl C s H ex pn, PTs (compCx X scope N cl C s H ex pn) ifs tc)
    (he : ∀ cl C s H ex pn, PE (compCx X scope N cl C s H ex pn) elt te) (hc : X.calm = true := by rfl) (h1 : X.env.scope = psc := by rfl) (h2 : X.N = PN := by rfl) (S : compOkB scope psc N PN k cap = true := by decide +kernel)
    (hs : ∀ x, foldedSetIterable iter X.env x = pure x := by intro _; rfl) :
    PE X (.ListComp elt [⟨tg, iter, ifs, 0⟩] scope pos) (tComp wi tt tc te cap) := pe_comp hc (by rw [h1, h2]; exact compOk_of S) hi hg ht he hs
end
structure Dn (P : Program) (w : World) (K : PySem.W.Frag) (mg : Str → Option Value) (base : Heap) (x : Str) (n : Nat) (ps : List Str) (sp : Sp) : Prop where
  ex : ∃ f fd, FnOk P w K mg base CX0 n f fd ps sp ∧ mg x = some (.ref f) ∧ PySem.W.keepIn K (.ref f) = true ∧ Binds K fd ps []
structure DefAt (K : PySem.W.Frag) (mg : Str → Option Value) (x : Str) (st : Stmt) (ps : List Str) : Prop where
  ex : ∃ f fd, Fun K x x st f fd ∧ mg x = some (.ref f) ∧ Binds K fd ps []
section
variable {P : Program} {w : World} {K : PySem.W.Frag} {mg : Str → Option Value} {base : Heap}
theorem DefAt.ok {x : Str} {st : Stmt} {N ps : List Str} {k : Nat} {sp : Sp} (F : DefAt K mg x st ps) (S : FnScope N ps (defScope st)) (len : ∀ vs H Q E, sp vs H Q E → vs.length = ps.length)
    (hbody : ∀ (f : Addr) (cdv : Value) (A : Around) (outer : List Env) (s : Shared) (H : Hp) (vs : List V) (Q : VK) (E : XK), Room k (A.deeper (envOfC x (defScope st) s.heap.objs.size f cdv)) → sp vs H Q E →
      ∃ t, PSs (cxOf CX0 P w K mg base N x (defScope st) f cdv A outer s H E).nox (defBody st) t ∧ t { nx := fun _ H' => Q .non H', rt := Q } (start N vs) H) : Dn P w K mg base x (k + 1) ps sp := by
  obtain ⟨f, fd, F, hm, hb⟩ := F.ex
  exact ⟨f, fd, F.ok S len fun cdv A outer s H vs Q E => hbody f cdv A outer s H vs Q E, hm, F.kp, hb⟩
end
theorem pe_dn {X : Cx} {x : Str} {n k : Nat} {ps : List Str} {sp : Sp} {e : Expr} {es : List Expr} {t : TA} {p pos : Pos} (D : Dn X.prog X.w X.K X.mg X.base x n ps sp) (hr : Room k X.A) (ha : PA X (e :: es) t) (hk : n ≤ k := by decide) (hg : Gl X x := by rfl)
    (hdb : (x == ("__debug__" : Str)) = false := by decide) (he : starEach (e :: es) X.env = (false, eval e X.env) :: starEach es X.env := by rfl) (hpl : (backTo pos (starEach es X.env)).any (·.1) = false := by rfl) :
    PE X (.Call (.Name x p) (e :: es) [] pos) (tCall sp [] E0 t) := by
  obtain ⟨f, fd, F, hm, kp, hb⟩ := D.ex
  exact pe_call F (hr.mono hk) hg hm kp hb .nil pass0 ha hdb he hpl
theorem hu_n {A : Around} {k : Nat} (hr : Room k A) (n : Nat) (h : n ≤ 64 := by decide) : A.units + n < cLine := Nat.lt_of_le_of_lt (Nat.add_le_add_left h _) hr.units
def tSeqM (t u : TS) : TS := fun D σ H => ∃ M : St → Hp → Prop, t { D with nx := M } σ H ∧ ∀ σ' H', M σ' H' → u D σ' H'
theorem pss_cut {X : Cx} {st : Stmt} {rest : List Stmt} {t u : TS} (h1 : PS X st t) (h2 : PSs X rest u) : PSs X (st :: rest) (tSeqM t u) := by
  intro pins s σ H D I h
  obtain ⟨M, h, k⟩ := h
  refine wpAny_execs_cons (thn (h1 pins s σ H { D with nx := M } I h) fun f s1 q => ?_)
  cases f with
  | next =>
    obtain ⟨σ', H', I', q⟩ := q
    exact h2 pins s1 σ' H' D I' (k σ' H' q)
  | ret v => exact q
  | brk => exact q
  | cont => exact q
theorem same_upd {H : Hp} {p : Addr} (h : H p = none) (o : HO) : Same H (upd H p o) := fun b u q => by rw [upd_ne (ne_of_none q h)]; exact q
theorem Same.put {Hs H : Hp} {p : Addr} (s : Same Hs H) (h : Hs p = none) (o : HO) : Same Hs (upd H p o) := fun b u q => by
  rw [upd_ne (ne_of_none q h)]; exact s b u q
theorem small {n m : Nat} (h : n ≤ m) (hm : m ≤ 1000000 := by decide) : n ≤ sizeLine := Nat.le_trans h (Nat.le_trans hm (by decide))
theorem atI_ints {ns : List Int} {k : Int} (h0 : 0 ≤ k) (h1 : k < ns.length) : atI (ns.map V.int) k = some (.int (ns.getD k.toNat 0)) := by
  have hk : k.toNat < ns.length := by omega
  have ek : k = ((k.toNat : Nat) : Int) := by omega
  rw [ek]
  refine (atI_nat (v := V.int (ns.getD k.toNat 0)) ?_)
  simp [hk]
end L2
set_option Elab.async false
set_option linter.all false
set_option maxRecDepth 100000
set_option maxHeartbeats 1000000
namespace L2
open PySem PySem.Spec PyProof.Rows
section
variable {prog : Program} {w : World} {A : Around} {E : Value → Shared → Prop} {s : Shared} {T : String} {r d : Addr} {n : Nat} {P : Nat → Value → Prop} {OK : Heap → Prop} {Q : Value → Shared → Prop}
end
section
variable {X : Cx}
end
end L2
set_option Elab.async false
set_option linter.all false
set_option maxRecDepth 100000
set_option maxHeartbeats 1000000
namespace L2
open PySem PySem.Spec PyProof.Rows
end L2
set_option Elab.async false
set_option linter.all false
set_option maxRecDepth 100000
set_option maxHeartbeats 2000000
namespace L2
open PySem PySem.Spec PyProof.Rows
section
variable {P : Program} {w : World} {A : Around} {E : Value → Shared → Prop}
end
end L2
set_option Elab.async false
set_option linter.all false
set_option maxRecDepth 100000
set_option maxHeartbeats 4000000
namespace PySem
section
variable {prog : Program} {w : World} {A : Around} {E : Value → Shared → Prop} {s : Shared}
end
end PySem
namespace L2
open PySem PySem.Spec PyProof.Rows
section
variable {P : Program} {w : World} {A : Around} {R : Result → Shared → Prop} {I : Addr} {fp wr : List Addr} {G : Array GenState → Array GenState → Prop} {n : Nat} {Pv : Nat → Value → Prop} {St : Nat → Shared → Prop}
end
end L2
namespace PySem
open L2
section
variable {prog : Program} {w : World} {A : Around} {E : Value → Shared → Prop} {s : Shared}
end
end PySem
set_option Elab.async false
set_option linter.all false
set_option maxRecDepth 100000
set_option maxHeartbeats 4000000
namespace PySem.F
end PySem.F
namespace L2
open PySem PySem.Spec PyProof.Rows
section
variable {P : Program} {w : World} {A : Around} {E : Value → Shared → Prop} {s : Shared}
end
end L2
set_option Elab.async false
set_option linter.all false
set_option maxRecDepth 100000
set_option maxHeartbeats 4000000
namespace L2
open PySem PySem.Spec PyProof.Rows
section
variable {P : Program} {w : World} {A : Around} {E : Value → Shared → Prop} {s : Shared}
end
end L2
set_option Elab.async false
set_option linter.all false
set_option maxRecDepth 100000
set_option maxHeartbeats 4000000
namespace L2
open PySem PySem.Spec PyProof.Rows
section
variable {P : Program} {w : World} {A : Around} {E : Value → Shared → Prop} {s : Shared}
end
end L2
set_option Elab.async false
set_option linter.all false
set_option maxRecDepth 100000
set_option maxHeartbeats 4000000
namespace L2
open PySem PySem.Spec PyProof.Rows
section
variable {P : Program} {w : World} {A : Around} {E : Value → Shared → Prop} {s : Shared}
end
end L2
set_option Elab.async false
set_option linter.all false
set_option maxRecDepth 100000
set_option maxHeartbeats 1000000
namespace L2
open PySem PySem.Spec PyProof.Rows
theorem int_of_at {ns : List Int} {i : Nat} {x : V} (h : (ns.map V.int)[i]? = some x) : ∃ z, ns[i]? = some z ∧ x = .int z := by
  rw [List.getElem?_map] at h
  cases e : ns[i]? with
  | none => rw [e] at h; cases h
  | some z => rw [e] at h; exact ⟨z, rfl, (Option.some.inj h).symm⟩
def del (H : Hp) (g : Addr) : Hp := fun b => if b = g then none else H b
theorem del_at {H : Hp} {g b : Addr} (h : b ≠ g) : del H g b = H b := if_neg h
theorem del_upd {H : Hp} {g : Addr} {o : HO} : del (upd H g o) g = del H g := by
  funext b
  by_cases e : b = g
  · unfold del; rw [if_pos e, if_pos e]
  · rw [del_at e, del_at e, upd_ne e]
theorem del_same (H : Hp) (g : Addr) : Same (del H g) H := fun b o e => by
  by_cases q : b = g
  · unfold del at e; rw [if_pos q] at e; cases e
  · rw [del_at q] at e; exact e
section
variable {α : Type} {R : Rel α} {H H1 H2 H3 : Hp} {g : Addr} {xs : List α}
end
section
variable {X : Cx} {K : PySem.W.Frag} (hK : X.K = K)
include hK
theorem ixL : IxR X (rIxL K) := by subst hK; exact ix_list
theorem ixT : IxR X (rIxT K) := by subst hK; exact ix_tup
theorem slL : SlR X (rSlL K) := by subst hK; exact sl_list
theorem clLen : CallR X (.builtin "len") (fun xs H Q => ∃ p ys, xs = [.ref p] ∧ (SqL K H p ys ∨ SqT K H p ys) ∧ Q (.int ys.length) H) := by subst hK; exact call_len_seq
theorem clIsi {T : String} : CallR X (.builtin "isinstance") (fun xs H Q => ∃ x S b, xs = [x, .ty T] ∧ kindV H x S ∧ PySem.W.kitOne K (.type S) (.type T) = some b ∧ Q (.bl b) H) := by subst hK; exact call_isi
end
theorem comp_rangeD {lo : Int} {n : Nat} {tt : TTg} {tc : TT} {te : TE} {cap : List Nat} {σ : St} {H : Hp} {D : Addr → List V → Hp → Prop} (Pv : Nat → List V → Hp → Prop) (h0 : Pv 0 [] H) (hz : n ≤ sizeLine) (hl : ∀ i ys H, i ≤ n → Pv i ys H → ys.length ≤ i)
    (hs : ∀ i ys H, i < n → Pv i ys H → tt (.int (lo + i)) H fun ws => tc (ws.map some ++ capS σ cap) H fun b H4 => if b = true then te (ws.map some ++ capS σ cap) H4 fun y H5 => Pv (i + 1) (ys ++ [y]) H5 else Pv (i + 1) ys H4)
    (hd : ∀ ys H, Pv n ys H → ∀ p, H p = none → D p ys H) :
    ∃ W : Nat → Nat → List V → Hp → Prop, (∃ m, W 0 m [] H) ∧ ∀ i m ys H2, W i m ys H2 →
    ((Itr lo n).stop i H2 ∧ ys.length ≤ sizeLine ∧ ∀ p, H2 p = none → D p ys H2) ∨
    ((Itr lo n).go i H2 ∧ ∃ N : List V → Hp → Prop, (∀ ys' H', N ys' H' → ys'.length ≤ sizeLine ∧ ∃ m', m' < m ∧ W (i + 1) m' ys' H') ∧
      ∀ x H3, (Itr lo n).yld i H2 x H3 → tt x H3 fun ws => tc (ws.map some ++ capS σ cap) H3 fun b H4 =>
        if b = true then te (ws.map some ++ capS σ cap) H4 fun y H5 => N (ys ++ [y]) H5 else N ys H4) := by
  refine ⟨fun i m ys H => m = n - i ∧ i ≤ n ∧ Pv i ys H, ⟨n, by simp, Nat.zero_le _, h0⟩, ?_⟩
  rintro i m ys H2 ⟨rfl, hi, p⟩
  have hy := hl i ys H2 hi p
  by_cases hlt : i < n
  · refine .inr ⟨hlt, Pv (i + 1), fun ys' H' r => ?_, fun x H3 y => ?_⟩
    · have h2 := hl (i + 1) ys' H' hlt r
      exact ⟨by omega, n - (i + 1), by omega, rfl, hlt, r⟩
    · obtain ⟨e, y⟩ := y
      subst e; subst y
      exact hs i ys _ hlt p
  · have e : i = n := by omega
    subst e
    exact .inl ⟨Nat.le_refl _, by omega, hd ys H2 p⟩
end L2
set_option Elab.async false
set_option linter.all false
set_option maxRecDepth 100000
set_option maxHeartbeats 1000000
namespace L2
open PySem PySem.Spec PyProof.Rows
theorem Inv.turnedL {X : Cx} {pins : List (Addr × Obj)} {σ : St} {H : Hp} {s : Shared} {h' : Heap} {t' : Nat} {ch : List Addr} (I : Inv X pins σ H s) (hf : ∀ b ∈ ch, FpOk X pins H b) (k : ∀ b o, b ∉ ch → s.heap.get? b = some o → h'.get? b = some o) :
    Inv X pins σ H { s with heap := h', toks := t' } := by
  have nit : ∀ b u, H b = some u → b ∉ ch := fun b u e z => by rw [(hf b z).1] at e; cases e
  refine I.step (g' := s.gens) (d' := s.drawn) (ch := ch) (fun b hb => ?_) (fun b o _ _ hc e _ => k b o hc e) (fun b o _ _ hc e _ => ⟨o.slots, k b o hc e⟩) (fun _ _ _ _ n => n)
    (fun b o hc e => ⟨o, k b o hc e⟩) (fun _ _ e => e) (fun _ _ _ e => e) (fun b ps e => ⟨#[], by rw [e]; simp⟩) (fun m hm => ?_) (fun b u e => ?_) I.bare
  · obtain ⟨_, h1, _, h3, h4, h5⟩ := hf b hb
    exact ⟨h3, h1, h4, h5⟩
  · obtain ⟨o, es, ep, ho, r⟩ := hm
    exact ⟨o, es, ep, k _ o (fun z => (hf _ z).2.1 rfl) ho, r⟩
  · refine (I.hok b u e).stay (fun c v hc q => k c v ?_ q) (fun _ q => q) fun _ _ q => q
    rcases hc with z | z
    · rw [z]; exact nit b u e
    · exact nit c _ z
theorem Inv.adopt {X : Cx} {pins : List (Addr × Obj)} {σ : St} {H : Hp} {s : Shared} {T : Addr} {o : HO} (I : Inv X pins σ H s) (hf : FpOk X pins H T) (new : ObjOk X.prog X.w (upd H T o) s.heap T o) : Inv X pins σ (upd H T o) s := by
  obtain ⟨h0, h1, h2, h3, h4, h5⟩ := hf
  refine I.step (h' := s.heap) (g' := s.gens) (d' := s.drawn) (t' := s.toks) (ch := [T]) (fun b hb => ?_) (fun b u _ _ _ e _ => e) (fun b u _ _ _ e _ => ⟨u.slots, e⟩) (fun b u hc e n => ?_)
    (fun b u _ e => ⟨u, e⟩) (fun b xs e => ?_) (fun b u v e => ?_) (fun b ps e => ⟨#[], ?_⟩) (fun m hm => hm) (I.hok.adopt h0 new) I.bare
  · have e : b = T := by simpa using hb
    subst e
    exact ⟨h3, h1, h4, h5⟩
  · rw [upd_ne (fun z => hc (by simp [z]))]; exact n
  · rw [upd_ne (ne_of_none e h0)]; exact e
  · rw [upd_ne (ne_of_none e h0)]; exact e
  · rw [upd_ne (ne_of_none e h0), e]; simp
end L2
set_option Elab.async false
set_option linter.all false
set_option maxRecDepth 100000
set_option maxHeartbeats 1000000
namespace L2
open PySem
section
variable {H H' : Hp} {r : Addr} {as : List Addr} {Ls : List (List Int)}
end
end L2
set_option Elab.async false
set_option linter.all false
set_option maxRecDepth 100000
set_option maxHeartbeats 1000000
namespace L2
open PySem PySem.Spec PyProof.Rows
section
variable {X : Cx}
theorem pe_gint {x : Str} {n : Int} {pos : Pos} (hm : ∃ t, X.mg x = some (.int n t)) (hg : Gl X x := by rfl) (hd : (x == ("__debug__" : Str)) = false := by decide) : PE X (.Name x pos) (tC (.int n)) := by
  obtain ⟨t, hm⟩ := hm
  exact pe_glob hg hm ⟨t, rfl⟩ hd
end
end L2
set_option Elab.async false
set_option linter.all false
set_option maxRecDepth 100000
set_option maxHeartbeats 1000000
namespace L2
open PySem PySem.Spec PyProof.Rows
section
variable {X : Cx}
theorem rc_empty {K : PySem.W.Frag} {pins : List (Addr × Obj)} {σ : St} {H : Hp} {s : Shared} {a b : Addr} {xs : List V} (hK : X.K = K) (I : Inv X pins σ H s) (hu : X.A.units + 1 < cLine) (ha : SqL K H a xs) (hb : SqL K H b []) :
    SeqAt.RcAt X.A s (.ref a) (.ref b) xs.isEmpty ∧ SeqAt.RcNeAt X.A s (.ref a) (.ref b) !xs.isEmpty := by
  subst hK
  obtain ⟨its, rv, pl, _⟩ := I.list ha
  obtain ⟨its2, rv2, pl2, _⟩ := I.list hb
  cases rv2
  have hl := rv.length
  cases xs with
  | nil =>
    cases rv
    have he : ∀ j (h1 : j < ([] : List Value).toArray.size) (h2 : j < ([] : List Value).toArray.size), SeqAt.EqAt X.A.in1 s ([] : List Value).toArray[j] ([] : List Value).toArray[j] ((fun _ => true) j) := fun j h1 => by simp at h1
    exact ⟨SeqAt.RcAt.lists pl.isList pl2.isList rfl (by omega) he, SeqAt.RcNeAt.lists pl.isList pl2.isList rfl (by omega) he⟩
  | cons x xs =>
    have hne : (its.toArray.size != ([] : List Value).toArray.size) = true := by
      simp only [List.size_toArray, List.length_nil, bne_iff_ne]
      rw [← hl]; simp
    exact ⟨SeqAt.RcAt.lists_lengths pl.isList pl2.isList hne (by omega), SeqAt.RcNeAt.lists_lengths pl.isList pl2.isList hne (by omega)⟩
theorem op_eqE {K : PySem.W.Frag} (hK : X.K = K) (hu : X.A.units + 1 < cLine) : OpR X (compareOp .Eq) (fun v w H Q => ∃ a b xs, v = .ref a ∧ w = .ref b ∧ SqL K H a xs ∧ SqL K H b [] ∧ Q (.bl xs.isEmpty) H) := by
  intro pins s σ H v w u1 u2 Q I r1 r2 h
  obtain ⟨a, b, xs, rfl, rfl, ha, hb, q⟩ := h
  cases r1; cases r2
  exact (rc_empty hK I hu ha hb).1 _ _ _ _ ⟨.bl xs.isEmpty, H, I, rfl, q⟩
theorem op_neE {K : PySem.W.Frag} (hK : X.K = K) (hu : X.A.units + 1 < cLine) : OpR X (compareOp .NotEq) (fun v w H Q => ∃ a b xs, v = .ref a ∧ w = .ref b ∧ SqL K H a xs ∧ SqL K H b [] ∧ Q (.bl (!xs.isEmpty)) H) := by
  intro pins s σ H v w u1 u2 Q I r1 r2 h
  obtain ⟨a, b, xs, rfl, rfl, ha, hb, q⟩ := h
  cases r1; cases r2
  exact (rc_empty hK I hu ha hb).2 _ _ _ _ ⟨.bl (!xs.isEmpty), H, I, rfl, q⟩
end
end L2
set_option Elab.async false
set_option linter.all false
set_option maxRecDepth 100000
set_option maxHeartbeats 1000000
namespace L2
open PySem PySem.Spec PyProof.Rows
theorem zip_apart (n a b : Nat) (la : a < n) (lb : b < n) : ZipApart (n + 4) (n + 2) (n + 3) n (n + 1) a b := by
  constructor
  all_goals (intro h; have h' : (_ : Nat) = _ := h; omega)
section
variable {X : Cx}
end
end L2
set_option Elab.async false
set_option linter.all false
set_option maxRecDepth 100000
set_option maxHeartbeats 4000000
namespace L2
open PySem PySem.Spec PyProof.Rows
section
variable {P : Program} {w : World} {A : Around} {E : Value → Shared → Prop} {s : Shared}
end
end L2
set_option Elab.async false
set_option linter.all false
set_option maxRecDepth 100000
set_option maxHeartbeats 1000000
namespace L2
open PySem PySem.Spec PySem.W PyProof.Rows PySem.Builtin PySem.Builtin.ObjectAttr PySem.Builtin.Getset_descriptor
section
variable {prog : Program} {w : World} {A : Around} {E : Value → Shared → Prop} {s : Shared} {K : Frag} {x C : Addr}
end
end L2
set_option Elab.async false
set_option linter.all false
set_option maxRecDepth 100000
set_option maxHeartbeats 1000000
namespace L2
open PySem PySem.Spec PyProof.Rows
section
variable {X : Cx} {pins : List (Addr × Obj)} {σ : St} {H : Hp} {s : Shared}
end
end L2
set_option Elab.async false
set_option linter.all false
set_option maxRecDepth 100000
set_option maxHeartbeats 1000000
namespace L2
open PySem PySem.Spec PyProof.Rows
section
variable {X : Cx}
end
section
variable {P : Program} {w : World} {K : PySem.W.Frag} {mg : Str → Option Value} {base : Heap}
end
end L2
set_option Elab.async false
set_option linter.all false
set_option maxRecDepth 100000
set_option maxHeartbeats 1000000
namespace L2
open PySem PySem.Spec PyProof.Rows
section
variable {X : Cx} {pins : List (Addr × Obj)} {σ : St} {H : Hp} {s : Shared}
end
end L2
set_option Elab.async false
set_option linter.all false
set_option maxRecDepth 100000
set_option maxHeartbeats 1000000
namespace L2
open PySem PySem.Spec PyProof.Rows
section
variable {X : Cx} {CX : CXT} {k : Nat} {f : Addr} {fd : FuncData} {ps : List Str} {sp : Sp} {E : XK} {x : Str} {p pos : Pos} {e : Expr} {es : List Expr} {t : TA} {pins : List (Addr × Obj)} {σ : St} {H : Hp} {s : Shared} {Q : VK} {EE : Value → Shared → Prop}
end
section
variable {X : Cx} {x y g n : Str} {i j m k : Nat} {ps : List Str} {sp : Sp} {p py pos epos np hpos tpos : Pos} {e : Expr} {es : List Expr} {t : TA} {th : TS} {G : Addr} {b0 : Stmt} {suite : List Stmt}
end
end L2
set_option Elab.async false
set_option linter.all false
set_option maxRecDepth 100000
set_option maxHeartbeats 1000000
namespace L2
open PySem PySem.Spec PyProof.Rows
section
variable {X : Cx}
end
end L2
set_option Elab.async false
set_option linter.all false
set_option maxRecDepth 100000
set_option maxHeartbeats 1000000
namespace L2
open PySem PySem.Spec PyProof.Rows
section
variable {X : Cx}
end
end L2
set_option Elab.async false
set_option linter.all false
set_option maxRecDepth 100000
set_option maxHeartbeats 1000000
namespace L2
open PySem PySem.Spec PyProof.Rows
end L2
set_option Elab.async false
set_option linter.all false
set_option maxRecDepth 100000
set_option maxHeartbeats 1000000
namespace L2
open PySem PySem.Spec PyProof.Rows
section
variable {X : Cx}
end
end L2
set_option Elab.async false
set_option linter.all false
set_option maxRecDepth 100000
set_option maxHeartbeats 1000000
namespace L2
open PySem PySem.Spec PyProof.Rows
section
variable {X : Cx}
end
end L2
set_option Elab.async false
set_option linter.all false
set_option maxRecDepth 100000
set_option maxHeartbeats 1000000
namespace L2
open PySem PySem.Spec PyProof.Rows
section
variable {X : Cx} {pins : List (Addr × Obj)} {σ : St} {H : Hp} {s : Shared}
end
end L2
set_option Elab.async false
set_option linter.all false
set_option maxRecDepth 100000
set_option maxHeartbeats 1000000
namespace L2
open PySem PySem.Spec PyProof.Rows
end L2
set_option Elab.async false
set_option linter.all false
namespace L2
open PySem PyProof.Rows
section
variable {prog : Program} {w : World} {A : Around} {E : Value → Shared → Prop} {s : Shared}
end
end L2
set_option Elab.async false
set_option linter.all false
namespace L2
open PySem PyProof.Rows
section
variable {prog : Program} {w : World} {A : Around} {E : Value → Shared → Prop} {s : Shared}
end
end L2
set_option Elab.async false
set_option linter.all false
namespace L2
open PySem PyProof.Rows
section
variable {prog : Program} {w : World} {A : Around} {E : Value → Shared → Prop} {s : Shared}
end
end L2
set_option Elab.async false
set_option linter.all false
namespace L2
open PySem PyProof.Rows
section
variable {a₀ : Array Keyed} {pd : Array (Nat × Nat × Nat)} {st : SortSt}
variable {prog : Program} {w : World} {A : Around} {E : Value → Shared → Prop} {s : Shared}
end
end L2
set_option Elab.async false
set_option linter.all false
namespace L2
open PySem PyProof.Rows
section
variable {prog : Program} {w : World} {A : Around} {E : Value → Shared → Prop} {s : Shared} {a₀ : Array Keyed} {pd : Array (Nat × Nat × Nat)} {st : SortSt}
end
end L2
set_option Elab.async false
set_option linter.all false
namespace L2
open PySem PyProof.Rows
section
variable {prog : Program} {w : World} {A : Around} {E : Value → Shared → Prop} {s : Shared} {a₀ : Array Keyed} {st : SortSt}
end
end L2
set_option Elab.async false
set_option linter.all false
set_option maxRecDepth 100000
set_option maxHeartbeats 1000000
namespace L2
open PySem PySem.Spec PyProof.Rows
section
variable {prog : Program} {w : World} {A : Around} {E : Value → Shared → Prop} {s : Shared}
end
section
variable {X : Cx}
end
end L2
set_option Elab.async false
set_option linter.all false
set_option maxRecDepth 100000
set_option maxHeartbeats 1000000
namespace L2
open PySem PySem.Spec PyProof.Rows
section
variable {P : Program} {w : World} {K : PySem.W.Frag} {mg : Str → Option Value} {base : Heap}
end
end L2
set_option Elab.async false
set_option linter.all false
set_option maxRecDepth 100000
set_option maxHeartbeats 1000000
namespace L2
open PySem PySem.Spec PyProof.Rows
theorem cut_from1 (xs : List V) : cutV xs (some 1) none = xs.drop 1 := by
  unfold cutV
  show List.take _ (List.drop (HT.sIx xs.length 0 (some ((1 : Nat) : Int))) xs) = _
  rw [HT.sIx_nat, HT.sIx_none]
  cases xs with
  | nil => rfl
  | cons x xs =>
    have : min 1 (x :: xs).length = 1 := by simp
    show List.take ((x :: xs).length - min 1 (x :: xs).length) (List.drop (min 1 (x :: xs).length) (x :: xs)) = _
    rw [this]
    refine List.take_of_length_le ?_
    simp
end L2
set_option Elab.async false
set_option linter.all false
set_option maxRecDepth 100000
set_option maxHeartbeats 1000000
namespace L2
open PySem PySem.Spec PyProof.Rows
section
variable {X : Cx}
end
end L2
set_option Elab.async false
set_option linter.all false
set_option maxRecDepth 100000
set_option maxHeartbeats 1000000
namespace L2
open PySem PySem.Spec PyProof.Rows
structure ClsAt (K : PySem.W.Frag) (mg : Str → Option Value) (x : Str) (C : Addr) (fs : List Str) : Prop where
  cl : Cls K C
  mgC : mg x = some (.ref C)
  na : ∀ f ∈ fs, NoAttr K C f
structure MeAt (K : PySem.W.Frag) (C : Addr) (m qual : Str) (st : Stmt) (ps : List Str) : Prop where
  ex : ∃ f fd, Fun K m qual st f fd ∧ Meth K C m f ∧ Binds K fd ps []
structure MkAt (K : PySem.W.Frag) (C : Addr) (qual : Str) (st : Stmt) (ps : List Str) : Prop where
  ex : ∃ f fd, Fun K "__init__" qual st f fd ∧ Mk K C f ∧ Binds K fd ps []
structure DnM (P : Program) (w : World) (K : PySem.W.Frag) (mg : Str → Option Value) (base : Heap) (C : Addr) (m : Str) (n : Nat) (ps : List Str) (sp : Sp) : Prop where
  ex : ∃ f fd, FnOk P w K mg base CX0 n f fd ps sp ∧ Meth K C m f ∧ Binds K fd ps []
structure DnK (P : Program) (w : World) (K : PySem.W.Frag) (mg : Str → Option Value) (base : Heap) (C : Addr) (n : Nat) (ps : List Str) (sp : Sp) : Prop where
  ex : ∃ f fd, FnOk P w K mg base CX0 n f fd ps sp ∧ Mk K C f ∧ Binds K fd ps []
section
variable {P : Program} {w : World} {K : PySem.W.Frag} {mg : Str → Option Value} {base : Heap}
theorem MeAt.ok {C : Addr} {m qual : Str} {st : Stmt} {N ps : List Str} {k : Nat} {sp : Sp} (F : MeAt K C m qual st ps) (S : FnScope N ps (defScope st)) (len : ∀ vs H Q E, sp vs H Q E → vs.length = ps.length)
    (hbody : ∀ (f : Addr) (cdv : Value) (A : Around) (outer : List Env) (s : Shared) (H : Hp) (vs : List V) (Q : VK) (E : XK), Room k (A.deeper (envOfC qual (defScope st) s.heap.objs.size f cdv)) → sp vs H Q E →
      ∃ t, PSs (cxOf CX0 P w K mg base N qual (defScope st) f cdv A outer s H E).nox (defBody st) t ∧ t { nx := fun _ H' => Q .non H', rt := Q } (start N vs) H) : DnM P w K mg base C m (k + 1) ps sp := by
  obtain ⟨f, fd, F, hm, hb⟩ := F.ex
  exact ⟨f, fd, F.ok S len fun cdv A outer s H vs Q E => hbody f cdv A outer s H vs Q E, hm, hb⟩
theorem MkAt.ok {C : Addr} {qual : Str} {st : Stmt} {N ps : List Str} {k : Nat} {sp : Sp} (F : MkAt K C qual st ps) (S : FnScope N ps (defScope st)) (len : ∀ vs H Q E, sp vs H Q E → vs.length = ps.length)
    (hbody : ∀ (f : Addr) (cdv : Value) (A : Around) (outer : List Env) (s : Shared) (H : Hp) (vs : List V) (Q : VK) (E : XK), Room k (A.deeper (envOfC qual (defScope st) s.heap.objs.size f cdv)) → sp vs H Q E →
      ∃ t, PSs (cxOf CX0 P w K mg base N qual (defScope st) f cdv A outer s H E).nox (defBody st) t ∧ t { nx := fun _ H' => Q .non H', rt := Q } (start N vs) H) : DnK P w K mg base C (k + 1) ps sp := by
  obtain ⟨f, fd, F, hm, hb⟩ := F.ex
  exact ⟨f, fd, F.ok S len fun cdv A outer s H vs Q E => hbody f cdv A outer s H vs Q E, hm, hb⟩
end
section
variable {X : Cx}
theorem pe_dnM {C : Addr} {m : Str} {n k : Nat} {ps : List Str} {sp : Sp} {o e : Expr} {es : List Expr} {ta : TE} {t : TA} {apos pos : Pos} {pl : Sem Bool} (cl : Cls X.K C) (D : DnM X.prog X.w X.K X.mg X.base C m n ps sp) (hr : Room k X.A) (he : PE X o ta) (ha : PA X (e :: es) t) (hk : n ≤ k := by decide)
    (hst : starEach (e :: es) X.env = (false, eval e X.env) :: starEach es X.env := by rfl) (hpl : (backTo pos (starEach es X.env)).any (·.1) = false := by rfl)
    (ht : eval (.Call (.Attribute o m apos) (e :: es) [] pos) X.env = (do
      let ov ← eval o X.env
      standAt apos.atName
      let (f, first) ← holding [ov] (getMethod ov m pl)
      callWith pos f first (backTo pos (starEach (e :: es) X.env)) (backToKw pos (keywordEach [] X.env))) := by rfl) :
    PE X (.Call (.Attribute o m apos) (e :: es) [] pos) (tMeth C m sp [] E0 ta t) := by
  obtain ⟨f, fd, F, hm, hb⟩ := D.ex
  exact pe_meth he cl hm F (hr.mono hk) hb .nil pass0 ha hst hpl ht
theorem pe_dnK {C : Addr} {x : Str} {fs : List Str} {n k : Nat} {ps : List Str} {sp : Sp} {e : Expr} {es : List Expr} {t : TA} {p pos : Pos} (CL : ClsAt X.K X.mg x C fs) (D : DnK X.prog X.w X.K X.mg X.base C n ps sp) (hr : Room k X.A) (ha : PA X (e :: es) t) (hk : n + 1 ≤ k := by decide) (hg : Gl X x := by rfl)
    (hdb : (x == ("__debug__" : Str)) = false := by decide) (he : starEach (e :: es) X.env = (false, eval e X.env) :: starEach es X.env := by rfl) (hpl : (backTo pos (starEach es X.env)).any (·.1) = false := by rfl) :
    PE X (.Call (.Name x p) (e :: es) [] pos) (tMake C sp [] E0 t) := by
  obtain ⟨f, fd, F, hm, hb⟩ := D.ex
  exact pe_make hm F (hr.mono hk) hg CL.mgC hb .nil pass0 ha hdb he hpl
theorem pe_fldK {K : PySem.W.Frag} {e : Expr} {f : Str} {pos : Pos} {ta : TE} (hK : X.K = K) (he : PE X e ta) (hb : attributeBase e f X.env (eval e X.env) = eval e X.env) : PE X (.Attribute e f pos) (tFld K ta f) := by
  subst hK; exact pe_fld he hb
theorem ps_fldK {K : PySem.W.Frag} {o value : Expr} {f : Str} {pos pos' : Pos} {ta tv : TE} (hK : X.K = K) (ha : PE X o ta) (hv : PE X value tv) (hs : swapsWith value (some (.Attribute o f pos')) pos.line X.env = pure false) : PS X (.Assign [.Attribute o f pos'] value pos) (sFld K ta tv f) := by
  subst hK; exact ps_fld ha hv hs
end
end L2
set_option Elab.async false
set_option linter.all false
set_option maxRecDepth 100000
set_option maxHeartbeats 1000000
namespace L2
open PySem PySem.Spec PyProof.Rows
section
variable {H H' : Hp} {a b c : Addr}
end
end L2
set_option Elab.async false
set_option linter.all false
namespace L2
open PySem PySem.Spec PyProof.Rows
section
variable {K : PySem.W.Frag} {i j : Nat} {σ : St} {H : Hp} {Q : VK} {a b C dx : Addr} {xs ys : List V} {z c : Int} {v u : V} {f : Str} {fs : List (Str × V)}
end
end L2
set_option linter.all false
namespace L2
end L2
set_option Elab.async false
set_option linter.all false
set_option maxRecDepth 100000
set_option maxHeartbeats 1000000
namespace L2
open PySem PySem.W PySem.Spec PyProof.Rows
section
variable {k : Nat → Int} {n : Nat} {cmp : Nat → Nat → (Bool → Shared → Prop) → Shared → Prop} {s : Shared}
end
end L2
set_option Elab.async false
set_option linter.all false
set_option maxRecDepth 100000
set_option maxHeartbeats 1000000
namespace L2
open PySem PySem.Spec PyProof.Rows
section
variable {prog : Program} {w : World} {A : Around} {E : Value → Shared → Prop} {s : Shared}
end
section
variable {X : Cx}
end
end L2
set_option Elab.async false
set_option linter.all false
set_option maxRecDepth 100000
set_option maxHeartbeats 1000000
namespace L2
open PySem PySem.Spec PyProof.Rows
section
variable {X : Cx} {elt tg iter : Expr} {ifs : List Expr} {scope : Scope} {pos : Pos} {wi : TI} {tt : TTg} {tc : TT} {te : TE}
end
end L2
set_option linter.all false
namespace L2
open PySem
section
variable {P : List Value → Prop}
theorem argS {n : Nat} (h : ∀ a (us : List Value), us.length = n → P (a :: us)) (us : List Value) (e : us.length = n + 1) : P us := by
  cases us with
  | nil => exact absurd e (Nat.succ_ne_zero n).symm
  | cons a us => exact h a us (Nat.succ.inj e)
theorem arg0 (h : P []) (us : List Value) (e : us.length = 0) : P us := by
  rw [List.length_eq_zero_iff.mp e]; exact h
theorem arg1 (h : ∀ a, P [a]) : ∀ us : List Value, us.length = 1 → P us := argS fun a => arg0 (h a)
theorem arg2 (h : ∀ a b, P [a, b]) : ∀ us : List Value, us.length = 2 → P us := argS fun a => arg1 (P := fun us => P (a :: us)) (h a)
theorem arg3 (h : ∀ a b c, P [a, b, c]) : ∀ us : List Value, us.length = 3 → P us := argS fun a => arg2 (P := fun us => P (a :: us)) (h a)
theorem arg4 (h : ∀ a b c d, P [a, b, c, d]) : ∀ us : List Value, us.length = 4 → P us := argS fun a => arg3 (P := fun us => P (a :: us)) (h a)
end
end L2
set_option Elab.async false
set_option linter.all false
set_option maxRecDepth 100000
set_option maxHeartbeats 1000000
namespace L2
open PySem PySem.Spec PyProof.Rows
section
variable {X : Cx}
end
section
variable {X : Cx}
end
end L2
set_option Elab.async false
set_option linter.all false
set_option maxRecDepth 100000
set_option maxHeartbeats 1000000
namespace L2
open PySem PySem.Spec PyProof.Rows
section
variable {X : Cx}
end
end L2
set_option linter.all false
namespace L2
open PySem PySem.Spec PyProof.Rows
end L2
set_option Elab.async false
set_option linter.all false
set_option maxHeartbeats 4000000
namespace L2
open PySem
section
variable {X : Cx} {pins : List (Addr × Obj)} {σ : St} {H : Hp} {s : Shared} {a : Addr} {kvs : List (Key × V)} {k : Key} {u : Value} {A : Around} {E : Value → Shared → Prop}
end
section
variable {X : Cx} {o e f : Expr} {apos cpos : Pos} {td ty tx : TE}
end
end L2
set_option Elab.async false
set_option linter.all false
set_option maxRecDepth 100000
set_option maxHeartbeats 4000000
namespace L2
open PySem PySem.Spec PyProof.Rows
section
variable {X : Cx}
end
end L2
set_option Elab.async false
set_option linter.all false
set_option maxRecDepth 100000
set_option maxHeartbeats 4000000
namespace L2
open PySem PySem.Spec PyProof.Rows
section
variable {X : Cx}
end
end L2
set_option Elab.async false
set_option linter.all false
set_option maxRecDepth 100000
set_option maxHeartbeats 4000000
namespace L2
open PySem PySem.Spec PyProof.Rows
def KDict (P : Program) (w : World) (K : PySem.W.Frag) (a : Addr) (kvs : List (Key × V)) : Prop :=
  (a == sysModules) = false ∧ ∃ vs, KV kvs vs ∧ ∀ h : Heap, K.In h → h.DictOf (mixKind P w) a vs
def tDGetK (P : Program) (w : World) (K : PySem.W.Frag) (td ty : TE) : TE := fun σ H Q => td σ H fun x H1 => ty σ H1 fun y H2 => ∃ a kvs k v, x = .ref a ∧ KDict P w K a kvs ∧ y = kV k ∧ valV kvs k = some v ∧ Q v H2
def tDInK (P : Program) (w : World) (K : PySem.W.Frag) (neg : Bool) (ty td : TE) : TE := fun σ H Q => ty σ H fun y H1 => td σ H1 fun x H2 => ∃ a kvs k, x = .ref a ∧ KDict P w K a kvs ∧ y = kV k ∧ Q (.bl (if neg then !(valV kvs k).isSome else (valV kvs k).isSome)) H2
section
variable {X : Cx} {o i : Expr} {pos : Pos} {td ty : TE}
theorem pe_dgetK (ho : PE X o td) (hi : PE X i ty) (hs : NoSl i) : PE X (.Subscript o i pos) (tDGetK X.prog X.w X.K td ty) := by
  intro pins s σ H Q I h
  refine subD_of PySem.F.slot_dict_getitem.lookup hs (thn (ho pins s σ H _ I h) fun u s1 hm0 => ?_)
  obtain ⟨x, H1, I1, rx, q1⟩ := hm0
  refine thn (hi pins s1 σ H1 _ I1 q1) fun iv s2 hm1 => ?_
  obtain ⟨y, H2, I2, ry, a, kvs, k, v, ex, ⟨hd, vs, rel, dd⟩, ey, hv, q2⟩ := hm1
  subst ex
  subst ey
  obtain rfl : u = Value.ref a := rx
  have d := dd _ I2.kIn
  obtain ⟨w', hw, rw'⟩ := RelO.some_of (v := v) (o := valueAt vs k) (by rw [← hv]; exact rel.val k)
  exact ⟨d.typeIs, wpAny_getItem_of (kV_is ry) d.mapOf hw ⟨v, H2, I2.tok _, rw', q2⟩⟩
theorem pc_dnotinK (hi : PE X i ty) (ho : PE X o td) : PC X .NotIn i o (tDInK X.prog X.w X.K true ty td) := by
  intro pins s σ H Q I h
  refine thn (hi pins s σ H _ I h) fun iv s1 hm0 => ?_
  obtain ⟨y, H1, I1, ry, q1⟩ := hm0
  refine thn (ho pins s1 σ H1 _ I1 q1) fun u s2 hm1 => ?_
  obtain ⟨x, H2, I2, rx, a, kvs, k, ex, ⟨hd, vs, rel, dd⟩, ey, q2⟩ := hm1
  subst ex
  subst ey
  obtain rfl : u = Value.ref a := rx
  have d := dd _ I2.kIn
  refine wpAny_notIn_of (kV_is ry) hd d.mapOf ?_
  rw [← (rel.val k).isSome_eq]
  exact ⟨.bl (!(valV kvs k).isSome), H2, I2.tok _, rfl, q2⟩
end
end L2
set_option Elab.async false
set_option linter.all false
set_option maxRecDepth 100000
set_option maxHeartbeats 4000000
namespace L2
open PySem PySem.Spec PyProof.Rows
section
variable {X : Cx} {elt tg iter : Expr} {ifs : List Expr} {scope : Scope} {pos : Pos} {N : List Str} {k : Nat} {cap : List Nat} {wi : TI} {tt : TTg} {tc : TT} {te : TE}
end
section
variable {X : Cx} {elt tg iter : Expr} {ifs : List Expr} {scope : Scope} {pos : Pos} {wi : TI} {tt : TTg} {tc : TT} {te : TE}
end
section
variable {X : Cx} {elt tg iter : Expr} {ifs : List Expr} {scope : Scope} {pos : Pos} {wi : TI} {tt : TTg} {tc : TT} {te : TE}
end
end L2
set_option Elab.async false
set_option linter.all false
set_option maxRecDepth 100000
set_option maxHeartbeats 4000000
namespace L2
open PySem PySem.Spec PyProof.Rows
end L2
set_option Elab.async false
set_option linter.all false
set_option maxRecDepth 100000
set_option maxHeartbeats 4000000
namespace L2
open PySem PySem.Spec PyProof.Rows
end L2
set_option Elab.async false
set_option linter.all false
set_option maxRecDepth 100000
set_option maxHeartbeats 4000000
namespace L2
open PySem PySem.Spec PyProof.Rows
section
variable {X : Cx}
end
end L2
set_option Elab.async false
set_option linter.all false
set_option maxRecDepth 100000
set_option maxHeartbeats 4000000
namespace L2
open PySem PySem.Spec PyProof.Rows
end L2
set_option Elab.async false
set_option linter.all false
set_option maxRecDepth 100000
set_option maxHeartbeats 4000000
namespace L2
open PySem PySem.Spec PyProof.Rows
end L2
set_option Elab.async false
set_option linter.all false
set_option maxRecDepth 100000
set_option maxHeartbeats 4000000
namespace L2
open PySem PySem.Spec PyProof.Rows
end L2
set_option Elab.async false
set_option linter.all false
set_option maxRecDepth 100000
set_option maxHeartbeats 4000000
namespace L2
open PySem PySem.Spec PyProof.Rows
section
variable {P : Program} {w : World} {A : Around} {E : Value → Shared → Prop} {s : Shared}
theorem setf {o : Obj} {vs : Array Value} {it : Addr} {h : Heap} (e : h.get? it = some o) (d : o.data = .fields vs) (k : Nat) (x : Value) : (h.update it (Obj.mapFields fun v => v.setIfInBounds k x)).get? it = some (Obj.mapFields (fun v => v.setIfInBounds k x) o) ∧ (Obj.mapFields (fun v => v.setIfInBounds k x) o).cls = o.cls ∧ (Obj.mapFields (fun v => v.setIfInBounds k x) o).data = .fields (vs.setIfInBounds k x) := by
  obtain ⟨c, dd, da, sl⟩ := o
  have d' : da = .fields vs := d
  subst d'
  exact ⟨Heap.get?_update_self _ e rfl, rfl, rfl⟩
theorem first_stop : firstArgMember (.type "StopIteration") [] = pure Value.none := by kernel_rfl
theorem stop_wp {α : Type} {Q : α → Shared → Prop} (hh : A.handled = none) (q : ∀ (h' : Heap) (e : Addr), (∀ b o, s.heap.get? b = some o → h'.get? b = some o) → (∃ o, h'.get? e = some o ∧ o.cls = .type "StopIteration") → E (.ref e) { s with heap := h' }) : wpAny (model P w) A (Builtin.SmallTypes.stopIteration (α := α)) Q E s := by
  unfold Builtin.SmallTypes.stopIteration newExc
  refine wpAny_bind (wpAny_bind (wpAny_newTuple ?_))
  rw [first_stop]
  refine wpAny_bind (wpAny_pure ?_)
  refine wpAny_newObj_type ?_
  refine wpAny_raiseNew_none hh (q _ _ (fun b o e => ?_) ⟨_, Heap.get?_push_size _ rfl, rfl⟩)
  exact Heap.get?_push_of_some _ (Heap.get?_push_of_some _ e)
theorem nextOf_tup_item {it t : Addr} {i : Nat} {items : Array Value} {x : Value} {Q : Value → Shared → Prop} (hI : s.heap.IsTupleIter it t i) (ht : s.heap.IsTuple t items) (hx : items[i]? = some x)
    (q : ∀ h' : Heap, h'.IsTupleIter it t (i + 1) → Heap.SameBut it s.heap h' → Q x { s with heap := h' }) : wpAny (model P w) A (Builtin.SmallTypes.nextOf (.ref it)) Q E s := by
  obtain ⟨o, e, c, d⟩ := id hI
  obtain ⟨o2, e2, c2, n2, d2⟩ := ht
  have ty : s.TypeIs (.ref it) "tuple_iterator" := ⟨o, e, c⟩
  unfold Builtin.SmallTypes.nextOf
  refine wpAny_bind (wpAny_callSpecial?_slotG ty slot_tupleiter_next.toG ?_)
  refine wpAny_call_entry slot_tupleiter_next ty entry_tupleiter_next ?_ (args_tupleiter_next _)
  show wpAny _ _ (_ >>= _) _ _ _
  refine wpAny_bind (m := slotArgs "__next__" 0 _) (wpAny_pure ?_)
  refine wpAny_bind (wpAny_field e d (x := .ref t) (i := 0) rfl ?_)
  show wpAny _ _ (ite _ _ _) _ _ _
  rw [if_neg (show ¬ (Value.ref t == Value.none) = true from Bool.false_ne_true)]
  refine wpAny_bind (wpAny_field e d (x := .int (i : Nat) 0) (i := 1) rfl ?_)
  refine wpAny_bind (wpAny_seqItems e2 d2 ?_)
  show wpAny _ _ (match items[((i : Nat) : Int).toNat]? with | some x => _ | none => _) _ _ _
  rw [Int.toNat_natCast, hx]
  refine wpAny_bind (wpAny_setField e d (show 1 < 2 by decide) ?_)
  obtain ⟨g1, g2, g3⟩ := setf e d 1 (rawInt (((i : Nat) : Int) + 1))
  exact wpAny_pure ⟨x, rfl, wpAny_pure (q _ ⟨_, g1, g2.trans c, g3⟩ (Heap.SameBut.update _ _ _))⟩
theorem nextOf_tup_end {it t : Addr} {i : Nat} {items : Array Value} {Q : Value → Shared → Prop} (hh : A.handled = none) (hI : s.heap.IsTupleIter it t i) (ht : s.heap.IsTuple t items) (hx : items[i]? = none)
    (q : ∀ (h' : Heap) (e : Addr), Heap.ExtBut it s.heap h' → (∃ o, h'.get? e = some o ∧ o.cls = .type "StopIteration") → E (.ref e) { s with heap := h' }) : wpAny (model P w) A (Builtin.SmallTypes.nextOf (.ref it)) Q E s := by
  obtain ⟨o, e, c, d⟩ := id hI
  obtain ⟨o2, e2, c2, n2, d2⟩ := ht
  have ty : s.TypeIs (.ref it) "tuple_iterator" := ⟨o, e, c⟩
  unfold Builtin.SmallTypes.nextOf
  refine wpAny_bind (wpAny_callSpecial?_slotG ty slot_tupleiter_next.toG ?_)
  refine wpAny_call_entry slot_tupleiter_next ty entry_tupleiter_next ?_ (args_tupleiter_next _)
  show wpAny _ _ (_ >>= _) _ _ _
  refine wpAny_bind (m := slotArgs "__next__" 0 _) (wpAny_pure ?_)
  refine wpAny_bind (wpAny_field e d (x := .ref t) (i := 0) rfl ?_)
  show wpAny _ _ (ite _ _ _) _ _ _
  rw [if_neg (show ¬ (Value.ref t == Value.none) = true from Bool.false_ne_true)]
  refine wpAny_bind (wpAny_field e d (x := .int (i : Nat) 0) (i := 1) rfl ?_)
  refine wpAny_bind (wpAny_seqItems e2 d2 ?_)
  show wpAny _ _ (match items[((i : Nat) : Int).toNat]? with | some x => _ | none => _) _ _ _
  rw [Int.toNat_natCast, hx]
  refine wpAny_bind (wpAny_rule (wpAny_bind (wpAny_setField e d (show 0 < 2 by decide) ?_)))
  refine stop_wp (by simpa using hh) fun h' ea hk ho => ?_
  refine q h' ea (fun b ob hb e1 => hk b ob ?_) ho
  show (s.heap.update it _).get? b = _
  rw [(Heap.SameBut.update _ _ _).2 b hb]; exact e1
theorem zipT_next_item {z TI TO i1 i2 t1 t2 : Addr} {k : Nat} {xs ys : Array Value} {x y a b : Value} {Q : Value → Shared → Prop} (ap : ZipApart z TI TO i1 i2 t1 t2) (zz : IsZip s.heap z TI TO .none) (ti : IsPair s.heap TI (.ref i1) (.ref i2)) (to : IsPair s.heap TO a b)
    (s1 : s.heap.IsTupleIter i1 t1 k) (s2 : s.heap.IsTupleIter i2 t2 k) (p1 : s.heap.IsTuple t1 xs) (p2 : s.heap.IsTuple t2 ys) (hx : xs[k]? = some x) (hy : ys[k]? = some y)
    (q : ∀ h' : Heap, IsZip h' z TI TO (rawInt s.heap.objs.size) → IsPair h' TO x y → h'.IsTupleIter i1 t1 (k + 1) → h'.IsTupleIter i2 t2 (k + 1) → IsPair h' s.heap.objs.size x y → h'.objs.size = s.heap.objs.size + 1 → (∀ c o, c ≠ z → c ≠ TO → c ≠ i1 → c ≠ i2 → s.heap.get? c = some o → h'.get? c = some o) → Q (.ref s.heap.objs.size) { s with heap := h' }) :
    wpAny (model P w) A (Builtin.«zip.__next__» { pos := [.ref z] }) (fun fin s' => ∃ v, fin = Fin.done (Flow.ret v) ∧ Q v s') E s := by
  unfold Builtin.«zip.__next__»
  refine wpAny_bind (m := slotArgs "__next__" 0 _) (wpAny_pure ?_)
  refine wpAny_bind (wpAny_field zz rfl (x := .bool false) (i := 2) rfl ?_)
  refine wpAny_bind (wpAny_field zz rfl (x := .ref TI) (i := 3) rfl ?_)
  refine wpAny_bind (wpAny_seqItems ti rfl ?_)
  show wpAny _ _ (ite _ _ _) _ _ _
  rw [if_neg (show ¬ (#[Value.ref i1, Value.ref i2] : Array Value).isEmpty = true from Bool.false_ne_true)]
  unfold Builtin.SmallTypes.ownedTupleIsFree
  refine wpAny_bind (wpAny_bind (wpAny_field zz rfl (x := .none) (i := 0) rfl ?_))
  refine wpAny_pure ?_
  show wpAny _ _ (ite _ _ _) _ _ _
  rw [if_pos rfl]
  refine wpAny_bind (wpAny_rule ?_)
  refine wpAny_bind (wpAny_field zz rfl (x := .ref TO) (i := 4) rfl ?_)
  refine wpAny_bind (wpAny_setField_rec zz (show 0 < 5 by decide) fun h1 z1 sb1 => ?_)
  have z1' : h1.get? z = some { cls := .type "zip", data := .fields #[.ellipsis, .bool false, .bool false, .ref TI, .ref TO] } := z1
  have q11 : h1.IsTupleIter i1 t1 k := by obtain ⟨o, e, c, d⟩ := s1; exact ⟨o, by rw [sb1.2 _ ap.i1z]; exact e, c, d⟩
  have q12 : h1.IsTupleIter i2 t2 k := by obtain ⟨o, e, c, d⟩ := s2; exact ⟨o, by rw [sb1.2 _ ap.i2z]; exact e, c, d⟩
  have p11 : h1.IsTuple t1 xs := by obtain ⟨o, e, c⟩ := p1; exact ⟨o, by rw [sb1.2 _ ap.l1z]; exact e, c⟩
  have p12 : h1.IsTuple t2 ys := by obtain ⟨o, e, c⟩ := p2; exact ⟨o, by rw [sb1.2 _ ap.l2z]; exact e, c⟩
  have to1 : IsPair h1 TO a b := by show h1.get? TO = _; rw [sb1.2 _ ap.TOz]; exact to
  refine wpAny_bind ?_
  show wpAny _ _ (forIn [(Value.ref i1, 0), (Value.ref i2, 1)] _ _) _ _ _
  rw [List.forIn_cons]
  refine wpAny_bind (wpAny_bind (wpAny_onRaise ?_))
  show wpAny _ _ (ite _ _ (Builtin.SmallTypes.nextOf (.ref i1) >>= fun v => pure (some v))) _ _ _
  rw [if_neg (show ¬ (Value.bool false == Value.bool true) = true from Bool.false_ne_true)]
  refine wpAny_bind (nextOf_tup_item (s := { s with heap := h1 }) q11 p11 hx fun h2 q21 sb2 => wpAny_pure ?_)
  have to2 : IsPair h2 TO a b := by show h2.get? TO = _; rw [sb2.2 _ ap.TOi1]; exact to1
  refine wpAny_bind (wpAny_seqItems to2 rfl ?_)
  refine wpAny_bind (wpAny_updateSeq_pair to2 fun h3 to3 sb3 => ?_)
  have to3' : IsPair h3 TO x b := to3
  refine wpAny_bind (wpAny_letGo ?_)
  refine wpAny_pure ?_
  show wpAny _ _ (forIn [(Value.ref i2, 1)] _ _) _ _ _
  rw [List.forIn_cons]
  refine wpAny_bind (wpAny_bind (wpAny_onRaise ?_))
  show wpAny _ _ (ite _ _ (Builtin.SmallTypes.nextOf (.ref i2) >>= fun v => pure (some v))) _ _ _
  rw [if_neg (show ¬ (Value.bool false == Value.bool true) = true from Bool.false_ne_true)]
  have e3 : ∀ c, c ≠ i1 → c ≠ TO → h3.get? c = h1.get? c := fun c c1 c2 => by rw [sb3.2 _ c2]; exact sb2.2 _ c1
  have q32 : h3.IsTupleIter i2 t2 k := by obtain ⟨o, e, c, d⟩ := q12; exact ⟨o, by rw [e3 _ (Ne.symm ap.i12) (Ne.symm ap.TOi2)]; exact e, c, d⟩
  have p32 : h3.IsTuple t2 ys := by obtain ⟨o, e, c⟩ := p12; exact ⟨o, by rw [e3 _ ap.l2i1 ap.l2TO]; exact e, c⟩
  refine wpAny_bind (nextOf_tup_item (s := { s with heap := h3 }) q32 p32 hy fun h4 q42 sb4 => wpAny_pure ?_)
  have to4 : IsPair h4 TO x b := by show h4.get? TO = _; rw [sb4.2 _ ap.TOi2]; exact to3'
  refine wpAny_bind (wpAny_seqItems to4 rfl ?_)
  refine wpAny_bind (wpAny_updateSeq_pair to4 fun h5 to5 sb5 => ?_)
  have to5' : IsPair h5 TO x y := to5
  refine wpAny_bind (wpAny_letGo ?_)
  refine wpAny_pure ?_
  refine wpAny_pure ?_
  refine wpAny_bind (wpAny_seqItems to5' rfl ?_)
  refine wpAny_bind (wpAny_newTuple ?_)
  have sz : h5.objs.size = s.heap.objs.size := by rw [sb5.1, sb4.1, sb3.1, sb2.1, sb1.1]
  have e5 : ∀ c, c ≠ i1 → c ≠ TO → c ≠ i2 → h5.get? c = h1.get? c := fun c c1 c2 c3 => by rw [sb5.2 _ c2, sb4.2 _ c3]; exact e3 c c1 c2
  have z5 : (h5.push { cls := .type "tuple", data := .seq #[x, y] }).get? z = some { cls := .type "zip", data := .fields #[.ellipsis, .bool false, .bool false, .ref TI, .ref TO] } := Heap.get?_push_of_some _ (by rw [e5 _ (Ne.symm ap.i1z) (Ne.symm ap.TOz) (Ne.symm ap.i2z)]; exact z1')
  unfold Builtin.SmallTypes.ownedTupleHandOut
  refine wpAny_bind (wpAny_bind (wpAny_setField_rec z5 (show 0 < 5 by decide) fun h7 z7 sb7 => ?_))
  refine wpAny_setField_rec z7 (show 1 < 5 by decide) fun h8 z8 sb8 => ?_
  have e8 : ∀ c, c ≠ z → h8.get? c = (h5.push { cls := .type "tuple", data := .seq #[x, y] }).get? c := fun c hc => by rw [sb8.2 _ hc]; exact sb7.2 _ hc
  have q51 : h5.IsTupleIter i1 t1 (k + 1) := by obtain ⟨o, e, c, d⟩ := q21; exact ⟨o, by rw [sb5.2 _ (Ne.symm ap.TOi1), sb4.2 _ ap.i12, sb3.2 _ (Ne.symm ap.TOi1)]; exact e, c, d⟩
  have q52 : h5.IsTupleIter i2 t2 (k + 1) := by obtain ⟨o, e, c, d⟩ := q42; exact ⟨o, by rw [sb5.2 _ (Ne.symm ap.TOi2)]; exact e, c, d⟩
  have lz : z < h5.objs.size := by rw [sz]; exact Heap.lt_size zz
  have szp : (h5.push { cls := .type "tuple", data := .seq #[x, y] }).objs.size = s.heap.objs.size + 1 := by rw [size_push', sz]
  refine wpAny_pure ⟨_, rfl, ?_⟩
  show Q (.ref h5.objs.size) { s with heap := h8 }
  rw [sz]
  refine q h8 ?_ ?_ ?_ ?_ ?_ ?_ ?_
  · rw [← sz]; exact z8
  · show h8.get? TO = _
    rw [e8 _ ap.TOz]; exact Heap.get?_push_of_some _ to5'
  · obtain ⟨o, e, c, d⟩ := q51
    exact ⟨o, by rw [e8 _ ap.i1z]; exact Heap.get?_push_of_some _ e, c, d⟩
  · obtain ⟨o, e, c, d⟩ := q52
    exact ⟨o, by rw [e8 _ ap.i2z]; exact Heap.get?_push_of_some _ e, c, d⟩
  · show h8.get? s.heap.objs.size = _
    rw [← sz, e8 _ (Nat.ne_of_gt lz)]; exact Heap.get?_push_size _ rfl
  · rw [sb8.1, sb7.1]; exact szp
  · intro c o c1 c2 c3 c4 e
    rw [e8 _ c1]
    exact Heap.get?_push_of_some _ (by rw [e5 _ c3 c2 c4, sb1.2 _ c1]; exact e)
theorem sub_zip : isSubtype (.type "zip") (.type "zip") = pure true := by rw [isSubtype_type]; kernel_rfl
theorem call_zipT {t1 t2 : Addr} {xs ys : Array Value} {Q : Value → Shared → Prop} (p1 : s.heap.IsTuple t1 xs) (p2 : s.heap.IsTuple t2 ys)
    (q : ∀ h' : Heap, IsZip h' (s.heap.objs.size + 4) (s.heap.objs.size + 2) (s.heap.objs.size + 3) .none → IsPair h' (s.heap.objs.size + 2) (.ref s.heap.objs.size) (.ref (s.heap.objs.size + 1)) → IsPair h' (s.heap.objs.size + 3) .none .none → h'.IsTupleIter s.heap.objs.size t1 0 → h'.IsTupleIter (s.heap.objs.size + 1) t2 0 → h'.objs.size = s.heap.objs.size + 5 → (∀ c o, s.heap.get? c = some o → h'.get? c = some o) → Q (.ref (s.heap.objs.size + 4)) { s with heap := h' }) :
    wpAny (model P w) A (call (.type "zip") [.ref t1, .ref t2]) Q E s := by
  refine callType_newIn (S := fun _ R s' => s' = s ∧ ∀ s2 v, Shared.TypeIs s2 v "zip" ∧ Q v s2 → R (.ok (.ret v)) s2) F.called_zip (by decide) (F.typeCall_zip_2 _ _) (F.newCall_zip_2 _ _) (fun obj => F.args_object_init_3 _ _ _) F.entry_zip_new (fun A' R s' hS => ?_) ⟨rfl, fun s2 v h => h⟩
  obtain ⟨rfl, hR⟩ := hS
  unfold Builtin.«zip.__new__»
  refine wpAny_bind ?_
  show wpAny _ _ (Builtin.SmallTypes.newClass "zip" _) _ _ _
  unfold Builtin.SmallTypes.newClass
  refine wpAny_bind (wpAny_pure ?_)
  show wpAny _ _ (ite _ _ _) _ _ _
  rw [if_neg (by decide)]
  show wpAny _ _ (isSubtype (.type "zip") (.type "zip") >>= _) _ _ _
  rw [sub_zip]
  refine wpAny_bind (wpAny_pure ?_)
  show wpAny _ _ (ite _ _ _) _ _ _
  rw [if_neg (by decide)]
  refine wpAny_pure ?_
  show wpAny _ _ (ite (0 > 1) _ _) _ _ _
  rw [if_neg (by decide)]
  refine wpAny_bind ?_
  unfold Builtin.SmallTypes.iterAll
  refine wpAny_bind ?_
  rw [List.forIn_cons]
  refine wpAny_bind (wpAny_bind (wpAny_holding (wpAny_pyIter_tuple p1 (wpAny_pure ?_))))
  show wpAny _ _ (forIn [Value.ref t2] _ _) _ _ _
  have n1 : (s'.heap.push { cls := .type "tuple_iterator", data := .fields #[.ref t1, .int 0 0] }).objs.size = s'.heap.objs.size + 1 := size_push' ..
  have k1 : (s'.heap.push { cls := .type "tuple_iterator", data := .fields #[.ref t1, .int 0 0] }).get? s'.heap.objs.size = some { cls := .type "tuple_iterator", data := .fields #[.ref t1, .int 0 0] } := Heap.get?_push_size _ rfl
  have k0 : ∀ c o, s'.heap.get? c = some o → (s'.heap.push { cls := .type "tuple_iterator", data := .fields #[.ref t1, .int 0 0] }).get? c = some o := fun c o e => Heap.get?_push_of_some _ e
  generalize s'.heap.push { cls := .type "tuple_iterator", data := .fields #[.ref t1, .int 0 0] } = g1 at n1 k1 k0 ⊢
  rw [List.forIn_cons]
  have p2' : g1.IsTuple t2 ys := by
    obtain ⟨o, e, c⟩ := p2
    exact ⟨o, k0 _ _ e, c⟩
  refine wpAny_bind (wpAny_bind (wpAny_holding (wpAny_pyIter_tuple (s := { s' with heap := g1 }) p2' (wpAny_pure ?_))))
  refine wpAny_pure ?_
  refine wpAny_pure ?_
  show wpAny _ _ (newTuple [Value.ref s'.heap.objs.size, Value.ref g1.objs.size] >>= _) _ _ { s' with heap := g1.push { cls := .type "tuple_iterator", data := .fields #[.ref t2, .int 0 0] } }
  have n2 : (g1.push { cls := .type "tuple_iterator", data := .fields #[.ref t2, .int 0 0] }).objs.size = s'.heap.objs.size + 2 := by rw [size_push', n1]
  have k2 : (g1.push { cls := .type "tuple_iterator", data := .fields #[.ref t2, .int 0 0] }).get? (s'.heap.objs.size + 1) = some { cls := .type "tuple_iterator", data := .fields #[.ref t2, .int 0 0] } := by rw [← n1]; exact Heap.get?_push_size _ rfl
  have k12 : ∀ c o, g1.get? c = some o → (g1.push { cls := .type "tuple_iterator", data := .fields #[.ref t2, .int 0 0] }).get? c = some o := fun c o e => Heap.get?_push_of_some _ e
  generalize g1.push { cls := .type "tuple_iterator", data := .fields #[.ref t2, .int 0 0] } = g2 at n2 k2 k12 ⊢
  rw [n1]
  refine wpAny_bind (wpAny_newTuple (hsz := by show 2 ≤ sizeLine; decide) ?_)
  show wpAny _ _ _ _ _ { s' with heap := g2.push { cls := .type "tuple", data := .seq #[.ref s'.heap.objs.size, .ref (s'.heap.objs.size + 1)] } }
  have n3 : (g2.push { cls := .type "tuple", data := .seq #[.ref s'.heap.objs.size, .ref (s'.heap.objs.size + 1)] }).objs.size = s'.heap.objs.size + 3 := by rw [size_push', n2]
  have k3 : (g2.push { cls := .type "tuple", data := .seq #[.ref s'.heap.objs.size, .ref (s'.heap.objs.size + 1)] }).get? (s'.heap.objs.size + 2) = some { cls := .type "tuple", data := .seq #[.ref s'.heap.objs.size, .ref (s'.heap.objs.size + 1)] } := by rw [← n2]; exact Heap.get?_push_size _ rfl
  have k23 : ∀ c o, g2.get? c = some o → (g2.push { cls := .type "tuple", data := .seq #[.ref s'.heap.objs.size, .ref (s'.heap.objs.size + 1)] }).get? c = some o := fun c o e => Heap.get?_push_of_some _ e
  generalize g2.push { cls := .type "tuple", data := .seq #[.ref s'.heap.objs.size, .ref (s'.heap.objs.size + 1)] } = g3 at n3 k3 k23 ⊢
  rw [show Value.ref g2.objs.size = .ref (s'.heap.objs.size + 2) by rw [n2]]
  refine wpAny_bind (wpAny_newTuple (hsz := by show 2 ≤ sizeLine; decide) ?_)
  show wpAny _ _ _ _ _ { s' with heap := g3.push { cls := .type "tuple", data := .seq #[.none, .none] } }
  have n4 : (g3.push { cls := .type "tuple", data := .seq #[.none, .none] }).objs.size = s'.heap.objs.size + 4 := by rw [size_push', n3]
  have k4 : (g3.push { cls := .type "tuple", data := .seq #[.none, .none] }).get? (s'.heap.objs.size + 3) = some { cls := .type "tuple", data := .seq #[.none, .none] } := by rw [← n3]; exact Heap.get?_push_size _ rfl
  have k34 : ∀ c o, g3.get? c = some o → (g3.push { cls := .type "tuple", data := .seq #[.none, .none] }).get? c = some o := fun c o e => Heap.get?_push_of_some _ e
  generalize g3.push { cls := .type "tuple", data := .seq #[.none, .none] } = g4 at n4 k4 k34 ⊢
  rw [show Value.ref g3.objs.size = .ref (s'.heap.objs.size + 3) by rw [n3]]
  refine wpAny_bind ?_
  unfold Builtin.SmallTypes.newRecord Builtin.SmallTypes.ownedTupleFields
  show wpAny _ _ (newObj (.type "zip") (.fields #[.none, .bool false, .bool false, .ref (s'.heap.objs.size + 2), .ref (s'.heap.objs.size + 3)])) _ _ _
  refine wpAny_newObj_type ?_ (show 5 ≤ sizeLine + 2 by decide)
  refine wpAny_pure (hR _ _ ?_)
  have k5 : (g4.push { cls := .type "zip", data := .fields #[.none, .bool false, .bool false, .ref (s'.heap.objs.size + 2), .ref (s'.heap.objs.size + 3)] }).get? (s'.heap.objs.size + 4) = some { cls := .type "zip", data := .fields #[.none, .bool false, .bool false, .ref (s'.heap.objs.size + 2), .ref (s'.heap.objs.size + 3)] } := by rw [← n4]; exact Heap.get?_push_size _ rfl
  have n5 : (g4.push { cls := .type "zip", data := .fields #[.none, .bool false, .bool false, .ref (s'.heap.objs.size + 2), .ref (s'.heap.objs.size + 3)] }).objs.size = s'.heap.objs.size + 5 := by rw [size_push', n4]
  show Shared.TypeIs { s' with heap := g4.push { cls := .type "zip", data := .fields #[.none, .bool false, .bool false, .ref (s'.heap.objs.size + 2), .ref (s'.heap.objs.size + 3)] } } (.ref g4.objs.size) "zip" ∧ Q (.ref g4.objs.size) { s' with heap := g4.push { cls := .type "zip", data := .fields #[.none, .bool false, .bool false, .ref (s'.heap.objs.size + 2), .ref (s'.heap.objs.size + 3)] } }
  rw [n4]
  have up : ∀ c o, g1.get? c = some o → (g4.push { cls := .type "zip", data := .fields #[.none, .bool false, .bool false, .ref (s'.heap.objs.size + 2), .ref (s'.heap.objs.size + 3)] }).get? c = some o := fun c o e => Heap.get?_push_of_some _ (k34 _ _ (k23 _ _ (k12 _ _ e)))
  refine ⟨⟨_, k5, rfl⟩, q _ k5 (Heap.get?_push_of_some _ (k34 _ _ k3)) (Heap.get?_push_of_some _ k4) ⟨_, up _ _ k1, rfl, rfl⟩ ⟨_, Heap.get?_push_of_some _ (k34 _ _ (k23 _ _ k2)), rfl, rfl⟩ n5 fun c o e => up _ _ (k0 _ _ e)⟩
theorem zipT_item {z TI TO i1 i2 t1 t2 : Addr} {k : Nat} {xs ys : Array Value} {x y a b : Value} {Q : Option Value → Shared → Prop} (ap : ZipApart z TI TO i1 i2 t1 t2) (zz : IsZip s.heap z TI TO .none) (ti : IsPair s.heap TI (.ref i1) (.ref i2)) (to : IsPair s.heap TO a b)
    (s1 : s.heap.IsTupleIter i1 t1 k) (s2 : s.heap.IsTupleIter i2 t2 k) (p1 : s.heap.IsTuple t1 xs) (p2 : s.heap.IsTuple t2 ys) (hx : xs[k]? = some x) (hy : ys[k]? = some y)
    (q : ∀ h' : Heap, IsZip h' z TI TO (rawInt s.heap.objs.size) → IsPair h' TO x y → h'.IsTupleIter i1 t1 (k + 1) → h'.IsTupleIter i2 t2 (k + 1) → IsPair h' s.heap.objs.size x y → h'.objs.size = s.heap.objs.size + 1 → (∀ c o, c ≠ z → c ≠ TO → c ≠ i1 → c ≠ i2 → s.heap.get? c = some o → h'.get? c = some o) → Q (some (.ref s.heap.objs.size)) { s with heap := h' }) :
    wpAny (model P w) A (pyNext (.ref z)) Q E s := by
  have ty : s.TypeIs (.ref z) "zip" := ⟨_, zz, rfl⟩
  unfold pyNext
  refine wpAny_bind (wpAny_attempt (wpAny_callSpecial?_slotG ty F.slot_zip_next.toG ?_))
  exact wpAny_call_entry F.slot_zip_next ty F.entry_zip_next (zipT_next_item ap zz ti to s1 s2 p1 p2 hx hy fun h' a1 a2 a3 a4 a5 a6 a7 => wpAny_pure (q h' a1 a2 a3 a4 a5 a6 a7)) (F.args_zip_next_1 _)
theorem sub_stop : isSubtype (.type "StopIteration") (.type "StopIteration") = pure true := by rw [isSubtype_type]; kernel_rfl
theorem zipT_end {z TI TO i1 i2 t1 t2 : Addr} {k : Nat} {xs : Array Value} {a b : Value} {Q : Option Value → Shared → Prop} (hh : A.handled = none) (ap : ZipApart z TI TO i1 i2 t1 t2) (zz : IsZip s.heap z TI TO .none) (ti : IsPair s.heap TI (.ref i1) (.ref i2)) (to : IsPair s.heap TO a b)
    (s1 : s.heap.IsTupleIter i1 t1 k) (p1 : s.heap.IsTuple t1 xs) (hx : xs[k]? = none)
    (q : ∀ h' : Heap, (∀ c o, c ≠ z → c ≠ TO → c ≠ i1 → c ≠ i2 → s.heap.get? c = some o → h'.get? c = some o) → Q none { s with heap := h' }) :
    wpAny (model P w) A (pyNext (.ref z)) Q E s := by
  have ty : s.TypeIs (.ref z) "zip" := ⟨_, zz, rfl⟩
  unfold pyNext
  refine wpAny_bind (wpAny_attempt (wpAny_callSpecial?_slotG ty F.slot_zip_next.toG ?_))
  refine wpAny_call_entry F.slot_zip_next ty F.entry_zip_next ?_ (F.args_zip_next_1 _)
  unfold Builtin.«zip.__next__»
  refine wpAny_bind (m := slotArgs "__next__" 0 _) (wpAny_pure ?_)
  refine wpAny_bind (wpAny_field zz rfl (x := .bool false) (i := 2) rfl ?_)
  refine wpAny_bind (wpAny_field zz rfl (x := .ref TI) (i := 3) rfl ?_)
  refine wpAny_bind (wpAny_seqItems ti rfl ?_)
  show wpAny _ _ (ite _ _ _) _ _ _
  rw [if_neg (show ¬ (#[Value.ref i1, Value.ref i2] : Array Value).isEmpty = true from Bool.false_ne_true)]
  unfold Builtin.SmallTypes.ownedTupleIsFree
  refine wpAny_bind (wpAny_bind (wpAny_field zz rfl (x := .none) (i := 0) rfl ?_))
  refine wpAny_pure ?_
  show wpAny _ _ (ite _ _ _) _ _ _
  rw [if_pos rfl]
  refine wpAny_bind (wpAny_rule ?_)
  refine wpAny_bind (wpAny_field zz rfl (x := .ref TO) (i := 4) rfl ?_)
  refine wpAny_bind (wpAny_setField_rec zz (show 0 < 5 by decide) fun h1 z1 sb1 => ?_)
  have z1' : h1.get? z = some { cls := .type "zip", data := .fields #[.ellipsis, .bool false, .bool false, .ref TI, .ref TO] } := z1
  have q11 : h1.IsTupleIter i1 t1 k := by obtain ⟨o, e, c, d⟩ := s1; exact ⟨o, by rw [sb1.2 _ ap.i1z]; exact e, c, d⟩
  have p11 : h1.IsTuple t1 xs := by obtain ⟨o, e, c⟩ := p1; exact ⟨o, by rw [sb1.2 _ ap.l1z]; exact e, c⟩
  refine wpAny_bind ?_
  show wpAny _ _ (forIn [(Value.ref i1, 0), (Value.ref i2, 1)] _ _) _ _ _
  rw [List.forIn_cons]
  refine wpAny_bind (wpAny_bind (wpAny_onRaise ?_))
  show wpAny _ _ (ite _ _ (Builtin.SmallTypes.nextOf (.ref i1) >>= fun v => pure (some v))) _ _ _
  rw [if_neg (show ¬ (Value.bool false == Value.bool true) = true from Bool.false_ne_true)]
  refine wpAny_bind (nextOf_tup_end (s := { s with heap := h1 }) (by simpa using hh) q11 p11 hx fun h2 e xb ho => ?_)
  have z2 : h2.get? z = some { cls := .type "zip", data := .fields #[.ellipsis, .bool false, .bool false, .ref TI, .ref TO] } := xb _ _ (Ne.symm ap.i1z) z1'
  refine wpAny_setField_rec z2 (show 0 < 5 by decide) fun h3 z3 sb3 => ?_
  obtain ⟨o, e1, c1⟩ := ho
  have hez : e ≠ z := fun z' => by
    rw [z'] at e1
    rw [z2] at e1
    cases e1
    exact absurd (show Value.type "zip" = Value.type "StopIteration" from c1) (by decide)
  show wpAny _ _ (isInstance (.ref e) (.type "StopIteration") >>= _) _ _ _
  refine wpAny_bind (wpAny_isInstance (T := "StopIteration") (b := true) ⟨o, by show h3.get? e = _; rw [sb3.2 _ hez]; exact e1, c1⟩ sub_stop ?_)
  show wpAny _ _ (ite _ _ _) _ _ _
  rw [if_pos rfl]
  refine wpAny_pure (q h3 fun c o c1 c2 c3 c4 e => ?_)
  rw [sb3.2 _ c1]
  exact xb _ _ c3 (by rw [sb1.2 _ c1]; exact e)
end
def ItzT (K : PySem.W.Frag) (a b : Addr) : It :=
  ⟨fun i H => ∃ xs ys x y, SqT K H a xs ∧ SqT K H b ys ∧ xs[i]? = some x ∧ ys[i]? = some y,
   fun i H v H' => ∃ T x y, v = .ref T ∧ H T = none ∧ (∀ xs, SqT K H a xs → xs[i]? = some x) ∧ (∀ ys, SqT K H b ys → ys[i]? = some y) ∧ H' = upd H T (.tup [x, y]),
   fun i H => ∃ xs, SqT K H a xs ∧ xs.length ≤ i⟩
structure ZTurnT (a b z TI TO i1 i2 : Addr) (i : Nat) (h : Heap) : Prop where
  zz : IsZip h z TI TO .none
  ti : IsPair h TI (.ref i1) (.ref i2)
  to : ∃ p q, IsPair h TO p q
  s1 : h.IsTupleIter i1 a i
  s2 : h.IsTupleIter i2 b i
theorem turn_zipT {P : Program} {w : World} {K : PySem.W.Frag} {elts : List Expr} {k : Nat} {pos : Pos} (a b z TI TO i1 i2 : Addr) (ap : ZipApart z TI TO i1 i2 a b) : Turn P w K (.Tuple elts k pos) (ItzT K a b) [z, TI, TO, i1, i2] z (ZTurnT a b z TI TO i1 i2) where
  mem := by simp
  obj := fun i h st c hc => by
    obtain ⟨zz, ti, ⟨p, q, to⟩, ⟨o1, e1, c1, d1⟩, ⟨o2, e2, c2, d2⟩⟩ := st
    simp only [List.mem_cons, List.not_mem_nil, or_false] at hc
    rcases hc with rfl | rfl | rfl | rfl | rfl
    · exact ⟨_, zz, fun v z => by cases z⟩
    · exact ⟨_, ti, fun v z => by cases z⟩
    · exact ⟨_, to, fun v z => by cases z⟩
    · exact ⟨o1, e1, fun v z => by rw [d1] at z; cases z⟩
    · exact ⟨o2, e2, fun v z => by rw [d2] at z; cases z⟩
  keep := fun i h h' st k => by
    obtain ⟨zz, ti, ⟨p, q, to⟩, ⟨o1, e1, c1, d1⟩, ⟨o2, e2, c2, d2⟩⟩ := st
    exact ⟨k z (by simp) _ zz, k TI (by simp) _ ti, ⟨p, q, k TO (by simp) _ to⟩, ⟨o1, k i1 (by simp) o1 e1, c1, d1⟩, ⟨o2, k i2 (by simp) o2 e2, c2, d2⟩⟩
  item := by
    intro X hP hw hK hc i pins s σ H E I hf st hg
    subst hP hw hK
    obtain ⟨xs, ys, x, y, hq, hq2, hx, hy⟩ := hg
    obtain ⟨its, rv, p, hz⟩ := I.tuple hq
    obtain ⟨its2, rv2, p2, hz2⟩ := I.tuple hq2
    obtain ⟨u, hu, ru⟩ := rv.get hx
    obtain ⟨u2, hu2, ru2⟩ := rv2.get hy
    obtain ⟨zz, ti, ⟨pp, qq, to⟩, s1, s2⟩ := st
    have lz : z < s.heap.objs.size := Heap.lt_size zz
    refine zipT_item ap zz ti to s1 s2 (show s.heap.IsTuple a its.toArray from p) (show s.heap.IsTuple b its2.toArray from p2) (x := u) (y := u2) (by simpa using hu) (by simpa using hu2) fun h' zo to' s1' s2' ht hsz kp => ?_
    refine ⟨_, rfl, wpAny_letOwnedTupleGo_zip zo fun h2 zz2 sb => ?_⟩
    have I1 : Inv X pins σ H { s with heap := h2 } := I.turnedL (t' := s.toks) (ch := [z, TI, TO, i1, i2]) hf fun c o hc q => by
      simp only [List.mem_cons, List.not_mem_nil, or_false, not_or] at hc
      exact (sb.2 c hc.1).trans (kp c o hc.1 hc.2.2.1 hc.2.2.2.1 hc.2.2.2.2 q)
    have hT : h2.get? s.heap.objs.size = some { cls := .type "tuple", data := .seq #[u, u2] } := (sb.2 _ (Nat.ne_of_gt lz)).trans ht
    have hfr : H s.heap.objs.size = none := I.hok.fresh (Nat.le_refl _)
    have I2 := I1.adopt (o := .tup [x, y]) (I.fpOk (Nat.le_refl _) hfr) ⟨(by show 2 ≤ sizeLine; decide), [u, u2], .cons ru (.cons ru2 .nil), ⟨_, hT, rfl, _, rfl⟩⟩
    have hti : IsPair h2 TI (.ref i1) (.ref i2) := (sb.2 TI ap.TIz).trans (kp TI _ ap.TIz ap.TITO ap.TIi1 ap.TIi2 ti)
    refine ⟨.ref s.heap.objs.size, _, I2, rfl, ⟨_, x, y, rfl, hfr, (fun zs hzs => by rw [I.tuple_inj hzs hq]; exact hx), (fun zs hzs => by rw [I.tuple_inj hzs hq2]; exact hy), rfl⟩, ?_, fun c hc => ?_⟩
    · obtain ⟨o1, e1, c1, d1⟩ := s1'
      obtain ⟨o2, e2, c2, d2⟩ := s2'
      exact ⟨zz2, hti, ⟨u, u2, (sb.2 TO ap.TOz).trans to'⟩, ⟨o1, (sb.2 i1 ap.i1z).trans e1, c1, d1⟩, ⟨o2, (sb.2 i2 ap.i2z).trans e2, c2, d2⟩⟩
    rw [upd_ne (fun e => ?_)]
    · exact (hf c hc).1
    · subst e
      obtain ⟨o1, e1, _⟩ := s1
      obtain ⟨o2, e2, _⟩ := s2
      simp only [List.mem_cons, List.not_mem_nil, or_false] at hc
      rcases hc with h | h | h | h | h
      · exact absurd h (Nat.ne_of_gt lz)
      · exact absurd h (Nat.ne_of_gt (Heap.lt_size ti))
      · exact absurd h (Nat.ne_of_gt (Heap.lt_size to))
      · exact absurd h (Nat.ne_of_gt (Heap.lt_size e1))
      · exact absurd h (Nat.ne_of_gt (Heap.lt_size e2))
  done := by
    intro X hP hw hK hc i pins s σ H E I hf st hg
    subst hP hw hK
    obtain ⟨xs, hq, hx⟩ := hg
    obtain ⟨its, rv, p, hz⟩ := I.tuple hq
    have hl := rv.length
    obtain ⟨zz, ti, ⟨pp, qq, to⟩, s1, s2⟩ := st
    refine zipT_end (I.ok.hd hc) ap zz ti to s1 (show s.heap.IsTuple a its.toArray from p) ?_ fun h' kp => ⟨rfl, ?_⟩
    · simp; (clear hc hf hz; omega)
    · exact I.turnedL (t' := s.toks) (ch := [z, TI, TO, i1, i2]) hf fun c o hc q => by
        simp only [List.mem_cons, List.not_mem_nil, or_false, not_or] at hc
        exact kp c o hc.1 hc.2.2.1 hc.2.2.2.1 hc.2.2.2.2 q
  self := fun _ _ _ _ _ st h => wpAny_pyIter_zip st.zz h
def iZipT (K : PySem.W.Frag) (ta : TA) : TI := fun σ H R => ta σ H fun vs H1 => ∃ a b, vs = [.ref a, .ref b] ∧ (∃ xs, SqT K H1 a xs) ∧ (∃ ys, SqT K H1 b ys) ∧ R (ItzT K a b) H1
theorem pi_zipT {X : Cx} {K : PySem.W.Frag} {elts : List Expr} {k : Nat} {tpos : Pos} {l l2 : Expr} {ta : TA} {p pos : Pos} (hK : X.K = K) (hg : Gl X "zip") (hm : X.mg "zip" = none) (ha : PA X [l, l2] ta) (hs : starEach [l, l2] X.env = (false, eval l X.env) :: starEach [l2] X.env := by rfl)
    (hs2 : (backTo pos (starEach [l2] X.env)).any (·.1) = false := by rfl) :
    PI X (.Tuple elts k tpos) (.Call (.Name "zip" p) [l, l2] [] pos) (iZipT K ta) := by
  subst hK
  intro pins s σ H R I h
  refine Call_ (ld_blt I hg hm PyProof.Rows.boot_zip (PyProof.Rows.callWith_type1 (thn (ha pos pins s σ H _ I h) fun us s1 hm0 => ?_) hs hs2))
  obtain ⟨vs, H1, I1, r1, q1⟩ := hm0
  obtain ⟨a, b, rfl, ⟨xs, hq⟩, ⟨ys, hq2⟩, q⟩ := q1
  cases r1 with
  | cons ra rr =>
    cases ra
    obtain ⟨u, rfl, ru⟩ := vals1 rr
    cases ru
    obtain ⟨its, rv, p, hz⟩ := I1.tuple hq
    obtain ⟨its2, rv2, p2, hz2⟩ := I1.tuple hq2
    have la : a < s1.heap.objs.size := by obtain ⟨o, e, _⟩ := p; exact Heap.lt_size e
    have lb : b < s1.heap.objs.size := by obtain ⟨o, e, _⟩ := p2; exact Heap.lt_size e
    refine call_zipT (show s1.heap.IsTuple a its.toArray from p) (show s1.heap.IsTuple b its2.toArray from p2) fun h' zz ti to i1 i2 hsz kp => ?_
    refine wpAny_pyIter_zip zz ?_
    refine ⟨s1.heap.objs.size + 4, [s1.heap.objs.size + 4, s1.heap.objs.size + 2, s1.heap.objs.size + 3, s1.heap.objs.size, s1.heap.objs.size + 1], _, _, H1, rfl, I1.kept (t' := s1.toks) kp, turn_zipT a b _ _ _ _ _ (zip_apart _ a b la lb), ⟨zz, ti, ⟨_, _, to⟩, i1, i2⟩, fun c hc => ?_, q⟩
    have hc' : s1.heap.objs.size ≤ c := by
      simp only [List.mem_cons, List.not_mem_nil, or_false] at hc
      rcases hc with rfl | rfl | rfl | rfl | rfl
      · exact Nat.le_add_right _ _
      · exact Nat.le_add_right _ _
      · exact Nat.le_add_right _ _
      · exact Nat.le_refl _
      · exact Nat.le_add_right _ _
    exact I1.fpOk hc' (I1.hok.fresh hc')
theorem for_zipT {K : PySem.W.Frag} {a b : Addr} {xs ys : List V} {g : TG} {tb : TS} {D : Ends} {σ : St} {H : Hp} (hlen : xs.length = ys.length) (Pv : Nat → St → Hp → Prop) (h0 : Pv 0 σ H) (hl : ∀ i σ H, i ≤ xs.length → Pv i σ H → SqT K H a xs ∧ SqT K H b ys)
    (hs : ∀ i x y σ H T, xs[i]? = some x → ys[i]? = some y → Pv i σ H → H T = none → g (.ref T) σ (upd H T (.tup [x, y])) fun σ2 H2 => tb { D with nx := Pv (i + 1), ct := Pv (i + 1), bk := D.nx } σ2 H2) (hd : ∀ σ H, Pv xs.length σ H → D.nx σ H) :
    ∃ W : Nat → Nat → St → Hp → Prop, (∃ m, W 0 m σ H) ∧ ∀ i m σ H, W i m σ H →
      ((ItzT K a b).stop i H ∧ D.nx σ H) ∨ ((ItzT K a b).go i H ∧ ∃ N : St → Hp → Prop, (∀ σ' H', N σ' H' → ∃ m', m' < m ∧ W (i + 1) m' σ' H') ∧ ∀ x H', (ItzT K a b).yld i H x H' → g x σ H' fun σ2 H2 => tb { D with nx := N, ct := N, bk := D.nx } σ2 H2) := by
  refine ⟨fun i m σ H => m = xs.length - i ∧ i ≤ xs.length ∧ Pv i σ H, ⟨xs.length, by simp, Nat.zero_le _, h0⟩, ?_⟩
  rintro i m σ H ⟨rfl, hi, p⟩
  obtain ⟨q1, q2⟩ := hl i σ H hi p
  by_cases hlt : i < xs.length
  · refine .inr ⟨⟨xs, ys, xs[i], ys[i]'(by omega), q1, q2, by simp, by simp⟩, Pv (i + 1), fun σ' H' p' => ⟨xs.length - (i + 1), by omega, rfl, hlt, p'⟩, fun v H' y => ?_⟩
    obtain ⟨T, x, y, rfl, hT, hx, hy, rfl⟩ := y
    exact hs i x y σ H T (hx _ q1) (hy _ q2) p hT
  · have e : i = xs.length := by omega
    subst e
    exact .inl ⟨⟨xs, q1, Nat.le_refl _⟩, hd σ H p⟩
end L2
set_option Elab.async false
set_option linter.all false
set_option maxRecDepth 100000
set_option maxHeartbeats 4000000
namespace L2
open PySem PySem.Spec PyProof.Rows
section
variable {X : Cx} {K : PySem.W.Frag}
theorem slT (hK : X.K = K) : SlR X (rSlT K) := by subst hK; exact sl_tup
end
def txtsOf : List Value → Option (List Str)
  | [] => some []
  | .str x _ :: r => (txtsOf r).map (x :: ·)
  | _ :: _ => none
def tupOf (K : PySem.W.Frag) (a : Addr) : Option (List Str) :=
  match K.lookup a with
  | some ⟨.type "tuple", _, .seq its _, _⟩ => if its.size ≤ 64 then txtsOf its.toList else none
  | _ => none
theorem txts_vals : ∀ {us : List Value} {xs : List Str}, txtsOf us = some xs → Vals (xs.map V.str) us
  | [], xs, h => by cases h; exact .nil
  | u :: r, xs, h => by
    cases u with
    | str x t =>
      unfold txtsOf at h
      cases e : txtsOf r with
      | none => rw [e] at h; cases h
      | some ys =>
        rw [e] at h
        cases h
        exact .cons ⟨t, rfl⟩ (txts_vals e)
    | _ => cases h
theorem tup_at {K : PySem.W.Frag} {H : Hp} {a : Addr} {xs : List Str} (h : tupOf K a = some xs) : SqT K H a (xs.map V.str) := by
  unfold tupOf at h
  split at h
  · rename_i dd its n sl hl
    split at h
    · rename_i h64
      exact .inr ⟨_, its, _, hl, rfl, rfl, Nat.le_trans h64 (by decide), txts_vals h⟩
    · cases h
  · cases h
def entsOf (K : PySem.W.Frag) : List DictEntry → Option (List (Int × Str × List Str))
  | [] => some []
  | ⟨hs, .str x _, .ref a⟩ :: r =>
    match tupOf K a, entsOf K r with
    | some ks, some l => some ((hs, x, ks) :: l)
    | _, _ => none
  | _ :: _ => none
def tabOf (K : PySem.W.Frag) (a : Addr) : Option (List (Int × Str × List Str)) :=
  match K.lookup a with
  | some o => if ((o.cls == .type "dict") && o.dict.isNone && o.slots.isEmpty) = true then (match o.data with
    | .dict es _ => if es.size ≤ 64 then entsOf K es.toList else none
    | _ => none) else none
  | none => none
theorem ents_are {P : Program} {w : World} {K : PySem.W.Frag} : ∀ {es : List DictEntry} {l : List (Int × Str × List Str)}, entsOf K es = some l → (∀ p ∈ l, p.1 = hashStr w p.2.1) →
    ∃ kvs : List (Key × Value), Pairs (mixKind P w) es kvs ∧ (∀ e ∈ es, ∃ k, (mixKind P w).is k e.key = true ∧ e.hash = (mixKind P w).hash k) ∧ kvs.map (·.1) = l.map (fun p => (.inr p.2.1 : Key)) ∧ ∀ (i : Nat) (p : Int × Str × List Str), l[i]? = some p → ∃ a, kvs[i]? = some (.inr p.2.1, .ref a) ∧ tupOf K a = some p.2.2
  | [], l, h, _ => by
    cases h
    exact ⟨[], .nil, (fun _ z => by cases z), rfl, fun i p z => by simp at z⟩
  | ⟨hs, k, v⟩ :: r, l, h, hh => by
    cases k with
    | str x t =>
      cases v with
      | ref a =>
        unfold entsOf at h
        cases e1 : tupOf K a with
        | none => rw [e1] at h; cases h
        | some ks =>
          cases e2 : entsOf K r with
          | none => rw [e1, e2] at h; cases h
          | some l2 =>
            rw [e1, e2] at h
            cases h
            obtain ⟨kvs, p1, p2, p3, p4⟩ := ents_are (P := P) (w := w) e2 fun p hp => hh p (List.mem_cons_of_mem _ hp)
            have hx : hs = hashStr w x := hh _ List.mem_cons_self
            refine ⟨(.inr x, .ref a) :: kvs, .cons (mixKind_str P w x t) rfl p1, fun e he => ?_, by rw [List.map_cons, List.map_cons, p3], fun i p hp => ?_⟩
            · rcases List.mem_cons.mp he with rfl | he
              · exact ⟨.inr x, mixKind_str P w x t, hx⟩
              · exact p2 e he
            · cases i with
              | zero => cases hp; exact ⟨a, rfl, e1⟩
              | succ i => exact p4 i p hp
      | _ => cases h
    | _ => cases h
def KTabAt (w : World) (K : PySem.W.Frag) (mg : Str → Option Value) (x : Str) (tab : List (Str × List Str)) : Prop := ∃ d, mg x = some (.ref d) ∧ (d == sysModules) = false ∧ tabOf K d = some (tab.map fun p => (hashStr w p.1, p.1, p.2))
theorem nodup_keys {tab : List (Str × List Str)} (h : (tab.map (·.1)).Nodup) : (tab.map fun p => (.inr p.1 : Key)).Nodup := by
  have : tab.map (fun p => (.inr p.1 : Key)) = (tab.map (·.1)).map Sum.inr := by rw [List.map_map]; rfl
  rw [this]
  exact h.map _ fun x y h z => h (Sum.inr.inj z)
theorem tab_at {P : Program} {w : World} {K : PySem.W.Frag} {d : Addr} {tab : List (Str × List Str)} (hd : (d == sysModules) = false) (h : tabOf K d = some (tab.map fun p => (hashStr w p.1, p.1, p.2))) (nd : (tab.map (·.1)).Nodup) :
    ∃ kvs : List (Key × V), KDict P w K d kvs ∧ kvs.map (·.1) = tab.map (fun p => (.inr p.1 : Key)) ∧ ∀ (i : Nat) (p : Str × List Str), tab[i]? = some p → ∃ a, kvs[i]? = some (.inr p.1, .ref a) ∧ ∀ H', SqT K H' a (p.2.map V.str) := by
  unfold tabOf at h
  cases hl : K.lookup d with
  | none => rw [hl] at h; cases h
  | some o =>
    rw [hl] at h
    simp only at h
    split at h
    case isFalse => cases h
    rename_i hc
    rw [Bool.and_eq_true, Bool.and_eq_true] at hc
    obtain ⟨⟨c1, c2⟩, c3⟩ := hc
    split at h
    case h_2 => cases h
    rename_i es ep hdat
    split at h
    · obtain ⟨kvs, p1, p2, p3, p4⟩ := ents_are (P := P) (w := w) h fun p hp => by
        obtain ⟨q, _, rfl⟩ := List.mem_map.mp hp
        rfl
      rw [List.map_map] at p3
      have p3' : kvs.map (·.1) = tab.map (fun p => (.inr p.1 : Key)) := p3
      have hv : ∀ kv ∈ kvs, ∃ a, kv.2 = .ref a := fun kv hkv => by
        obtain ⟨i, hi⟩ := List.getElem?_of_mem hkv
        have hlen : i < tab.length := by
          have h1 := (List.getElem?_eq_some_iff.mp hi).1
          have h2 := congrArg List.length p3'
          rw [List.length_map, List.length_map] at h2
          omega
        obtain ⟨a, ha, _⟩ := p4 i (hashStr w tab[i].1, tab[i].1, tab[i].2) (by rw [List.getElem?_map, List.getElem?_eq_getElem hlen]; rfl)
        rw [hi] at ha
        cases ha
        exact ⟨a, rfl⟩
      refine ⟨kvs.map fun kv => (kv.1, match kv.2 with | .ref a => V.ref a | _ => V.non), ⟨hd, kvs, ?_, fun hp KI => ?_⟩, ?_, fun i p hp => ?_⟩
      · clear p1 p2 p3 p3' p4
        induction kvs with
        | nil => exact .nil
        | cons kv r ih =>
          refine .cons ⟨rfl, ?_⟩ (ih fun q hq => hv q (List.mem_cons_of_mem _ hq))
          obtain ⟨a, ha⟩ := hv kv List.mem_cons_self
          show RelV (match kv.2 with | .ref a => V.ref a | _ => V.non) kv.2
          rw [ha]; rfl
      · exact ⟨o, es, ep, KI d o hl, ⟨eq_of_beq c1, Option.isNone_iff_eq_none.mp c2, Array.isEmpty_iff.mp c3⟩, hdat, (fun e he => p2 e (by simpa using he)), p1, by rw [p3']; exact nodup_keys nd⟩
      · rw [List.map_map]; exact p3'
      · obtain ⟨a, ha, ht⟩ := p4 i (hashStr w p.1, p.1, p.2) (by rw [List.getElem?_map, hp]; rfl)
        refine ⟨a, by rw [List.getElem?_map, ha]; rfl, fun H' => tup_at ht⟩
    · cases h
theorem keys_find {tab : List (Str × List Str)} {kvs : List (Key × V)} (nd : (tab.map (·.1)).Nodup) (hk : kvs.map (·.1) = tab.map (fun p => (.inr p.1 : Key))) {i : Nat} {k : Key} {v : V} (h : kvs[i]? = some (k, v)) : valV kvs k = some v := by
  have nd2 : (kvs.map (·.1)).Nodup := by rw [hk]; exact nodup_keys nd
  clear hk
  unfold valV
  induction kvs generalizing i with
  | nil => cases h
  | cons kv r ih =>
    rw [List.map_cons, List.nodup_cons] at nd2
    cases i with
    | zero =>
      cases h
      rw [List.find?_cons_of_pos (by simp)]; rfl
    | succ i =>
      have h' : r[i]? = some (k, v) := h
      have hne : kv.1 ≠ k := fun e => nd2.1 (by rw [e]; exact List.mem_map.mpr ⟨_, List.mem_of_getElem? h', rfl⟩)
      rw [List.find?_cons_of_neg (by simp [hne])]
      exact ih h' nd2.2
def tGTab (P : Program) (w : World) (K : PySem.W.Frag) (tab : List (Str × List Str)) : TE := fun _ H Q => ∀ (d : Addr) (kvs : List (Key × V)), KDict P w K d kvs → (∀ p ∈ tab, ∃ a, valV kvs (.inr p.1) = some (.ref a) ∧ ∀ H', SqT K H' a (p.2.map V.str)) → Q (.ref d) H
theorem pe_gtab {X : Cx} {x : Str} {tab : List (Str × List Str)} {pos : Pos} (hm : KTabAt X.w X.K X.mg x tab) (nd : (tab.map (·.1)).Nodup := by decide +kernel) (hg : Gl X x := by rfl) (hd : (x == ("__debug__" : Str)) = false := by decide) : PE X (.Name x pos) (tGTab X.prog X.w X.K tab) := by
  obtain ⟨d, hm, hs, ht⟩ := hm
  intro pins s σ H Q I h
  obtain ⟨kvs, k1, k2, k3⟩ := tab_at (P := X.prog) hs ht nd
  refine pe_glob (v := .ref d) hg hm rfl hd pins s σ H Q I (h d kvs k1 fun p hp => ?_)
  obtain ⟨i, hi⟩ := List.getElem?_of_mem hp
  obtain ⟨a, ha, hq⟩ := k3 i p hi
  exact ⟨a, keys_find nd k2 ha, hq⟩
end L2
set_option Elab.async false
set_option linter.all false
set_option maxRecDepth 100000
set_option maxHeartbeats 4000000
namespace L2
open PySem PySem.Spec PyProof.Rows
theorem pe_callV {X : Cx} {k : Nat} {func e : Expr} {es : List Expr} {tf : TE} {t : TA} {pos : Pos} (hf : PE X func tf) (hr : Room k X.A) (ha : PA X (e :: es) t)
    (hev : eval (.Call func (e :: es) [] pos) X.env = (do let f ← eval func X.env; callWith pos f [] (backTo pos (starEach (e :: es) X.env)) (backToKw pos (keywordEach [] X.env))) := by rfl)
    (he : starEach (e :: es) X.env = (false, eval e X.env) :: starEach es X.env := by rfl) (hpl : (backTo pos (starEach es X.env)).any (·.1) = false := by rfl) :
    PE X (.Call func (e :: es) [] pos) (fun σ H Q => tf σ H fun x H1 => ∃ (f : Addr) (fd : FuncData) (n : Nat) (ps : List Str) (sp : Sp), x = .ref f ∧ FnOk X.prog X.w X.K X.mg X.base CX0 n f fd ps sp ∧ n ≤ k ∧ PySem.W.keepIn X.K (.ref f) = true ∧ Binds X.K fd ps [] ∧ t σ H1 fun vs H2 => sp vs H2 Q E0) := by
  intro pins s σ H Q I h
  refine Call_ (thn (hf pins s σ H _ I h) fun u s1 hm0 => ?_) hev
  obtain ⟨x, H1, I1, rx, f, fd, n, ps, sp, rfl, F, hn, kp, hb, q⟩ := hm0
  obtain rfl : u = Value.ref f := rx
  refine PySem.W.callWith_K (h₀ := X.base) I1.ok.mod.kin kp (thn (ha pos pins s1 σ H1 _ I1 q) fun us s2 hm0 => ?_) he hpl
  obtain ⟨vs, H2, I2, r, q2⟩ := hm0
  refine ⟨I2.kIn, ?_⟩
  have r2 := run_fn F (hr.mono hn) hb (.nil : Vals [] []) pass0 I2 r (by rw [List.append_nil]; exact q2)
  simpa using r2
def refsOf : List DictEntry → Option (List (Int × Str × Addr))
  | [] => some []
  | ⟨hs, .str x _, .ref a⟩ :: r => (refsOf r).map ((hs, x, a) :: ·)
  | _ :: _ => none
def ftabOf (K : PySem.W.Frag) (a : Addr) : Option (List (Int × Str × Addr)) :=
  match K.lookup a with
  | some o => if ((o.cls == .type "dict") && o.dict.isNone && o.slots.isEmpty) = true then (match o.data with
    | .dict es _ => if es.size ≤ 64 then refsOf es.toList else none
    | _ => none) else none
  | none => none
theorem refs_are {P : Program} {w : World} : ∀ {es : List DictEntry} {l : List (Int × Str × Addr)}, refsOf es = some l → (∀ p ∈ l, p.1 = hashStr w p.2.1) →
    Pairs (mixKind P w) es (l.map fun p => ((.inr p.2.1 : Key), Value.ref p.2.2)) ∧ (∀ e ∈ es, ∃ k, (mixKind P w).is k e.key = true ∧ e.hash = (mixKind P w).hash k)
  | [], l, h, _ => by
    cases h
    exact ⟨.nil, fun _ z => by cases z⟩
  | ⟨hs, k, v⟩ :: r, l, h, hh => by
    cases k with
    | str x t =>
      cases v with
      | ref a =>
        unfold refsOf at h
        cases e2 : refsOf r with
        | none => rw [e2] at h; cases h
        | some l2 =>
          rw [e2] at h
          cases h
          obtain ⟨p1, p2⟩ := refs_are (P := P) (w := w) e2 fun p hp => hh p (List.mem_cons_of_mem _ hp)
          have hx : hs = hashStr w x := hh _ List.mem_cons_self
          refine ⟨.cons (mixKind_str P w x t) rfl p1, fun e he => ?_⟩
          rcases List.mem_cons.mp he with rfl | he
          · exact ⟨.inr x, mixKind_str P w x t, hx⟩
          · exact p2 e he
      | _ => cases h
    | _ => cases h
def KFunAt (P : Program) (w : World) (K : PySem.W.Frag) (mg : Str → Option Value) (x : Str) (tab : List (Str × Str)) : Prop := ∃ d kvs, mg x = some (.ref d) ∧ KDict P w K d kvs ∧ ∀ p ∈ tab, ∃ f, valV kvs (.inr p.1) = some (.ref f) ∧ mg p.2 = some (.ref f)
theorem ftab_at {P : Program} {w : World} {K : PySem.W.Frag} {mg : Str → Option Value} {x : Str} {d : Addr} {tab : List (Str × Str)} {l : List (Int × Str × Addr)} (hm : mg x = some (.ref d)) (hd : (d == sysModules) = false) (h : ftabOf K d = some l) (hh : ∀ p ∈ l, p.1 = hashStr w p.2.1) (nd : (l.map (·.2.1)).Nodup) (hf : ∀ p ∈ tab, ∃ q ∈ l, q.2.1 = p.1 ∧ mg p.2 = some (.ref q.2.2)) : KFunAt P w K mg x tab := by
  unfold ftabOf at h
  cases hl : K.lookup d with
  | none => rw [hl] at h; cases h
  | some o =>
    rw [hl] at h
    simp only at h
    split at h
    case isFalse => cases h
    rename_i hc
    rw [Bool.and_eq_true, Bool.and_eq_true] at hc
    obtain ⟨⟨c1, c2⟩, c3⟩ := hc
    split at h
    case h_2 => cases h
    rename_i es ep hdat
    split at h
    · obtain ⟨p1, p2⟩ := refs_are (P := P) (w := w) h hh
      have ndk : ((l.map fun p => ((.inr p.2.1 : Key), Value.ref p.2.2)).map (·.1)).Nodup := by
        rw [List.map_map]
        have : l.map ((fun kv : Key × Value => kv.1) ∘ fun p => ((.inr p.2.1 : Key), Value.ref p.2.2)) = (l.map (·.2.1)).map Sum.inr := by rw [List.map_map]; rfl
        rw [this]
        exact nd.map _ fun x y h z => h (Sum.inr.inj z)
      refine ⟨d, l.map fun p => ((.inr p.2.1 : Key), V.ref p.2.2), hm, ⟨hd, _, ?_, fun hp KI => ⟨o, es, ep, KI d o hl, ⟨eq_of_beq c1, Option.isNone_iff_eq_none.mp c2, Array.isEmpty_iff.mp c3⟩, hdat, (fun e he => p2 e (by simpa using he)), p1, ndk⟩⟩, fun p hp => ?_⟩
      · clear p1 p2 ndk hf h hh nd
        induction l with
        | nil => exact .nil
        | cons q r ih => exact .cons ⟨rfl, rfl⟩ ih
      · obtain ⟨q, hq, e1, e2⟩ := hf p hp
        refine ⟨q.2.2, ?_, e2⟩
        clear p1 p2 ndk hf h hh
        rw [← e1]
        unfold valV
        induction l with
        | nil => cases hq
        | cons z r ih =>
          rw [List.map_cons, List.nodup_cons] at nd
          rcases List.mem_cons.mp hq with rfl | hq
          · rw [List.map_cons, List.find?_cons_of_pos (by simp)]; rfl
          · have hne : z.2.1 ≠ q.2.1 := fun e => nd.1 (by rw [e]; exact List.mem_map.mpr ⟨q, hq, rfl⟩)
            rw [List.map_cons, List.find?_cons_of_neg (by simp [hne])]
            exact ih nd.2 hq
    · cases h
def tGFun (P : Program) (w : World) (K : PySem.W.Frag) (mg : Str → Option Value) (tab : List (Str × Str)) : TE := fun _ H Q => ∀ (d : Addr) (kvs : List (Key × V)), KDict P w K d kvs → (∀ p ∈ tab, ∃ f, valV kvs (.inr p.1) = some (.ref f) ∧ mg p.2 = some (.ref f)) → Q (.ref d) H
theorem pe_gfun {X : Cx} {x : Str} {tab : List (Str × Str)} {pos : Pos} (hm : KFunAt X.prog X.w X.K X.mg x tab) (hg : Gl X x := by rfl) (hd : (x == ("__debug__" : Str)) = false := by decide) : PE X (.Name x pos) (tGFun X.prog X.w X.K X.mg tab) := by
  obtain ⟨d, kvs, hm, hk, ht⟩ := hm
  intro pins s σ H Q I h
  exact pe_glob (v := .ref d) hg hm rfl hd pins s σ H Q I (h d kvs hk ht)
end L2
set_option Elab.async false
set_option linter.all false
set_option maxRecDepth 100000
set_option maxHeartbeats 4000000
namespace Law
open PySem L2
def top (i : Nat) : Stmt := PySem.Challenge.pw_rankgarth_k54_wishes_by_their_ticks.main.body.getD i (.Pass ⟨0, 0, 0, 0⟩)
abbrev s_is_whole : Stmt := top 5
abbrev s_is_place : Stmt := top 6
abbrev s_has_bit : Stmt := top 10
abbrev s_after_answer : Stmt := top 11
abbrev s_after_often : Stmt := top 12
abbrev s_after_within : Stmt := top 13
abbrev s_after_never : Stmt := top 14
abbrev s_after_not : Stmt := top 15
abbrev s_after_only : Stmt := top 16
abbrev s_after_hope : Stmt := top 17
abbrev s_after_calm : Stmt := top 18
abbrev s_check_wish : Stmt := top 21
abbrev s_wish_of : Stmt := top 22
abbrev s_law_cell_at : Stmt := top 24
abbrev s_law_wishes : Stmt := top 25
abbrev s_law_ticks : Stmt := top 26
abbrev s_law_bit : Stmt := top 27
abbrev s_law_last_done : Stmt := top 28
abbrev s_law_raised : Stmt := top 29
abbrev s_law_within : Stmt := top 30
abbrev s_law_only : Stmt := top 31
abbrev s_law_barred : Stmt := top 32
abbrev s_law_due : Stmt := top 33
abbrev s_law_alike : Stmt := top 34
abbrev s_law_stepped : Stmt := top 35
abbrev s_law_walked : Stmt := top 36
abbrev s_law : Stmt := top 37
abbrev s_Wish___init__ : Stmt := inClass (top 20) 0
abbrev s_Wish_after : Stmt := inClass (top 20) 2
structure Txt (mg : Str → Option Value) : Prop where
  b_bool : mg "bool" = none
  b_int : mg "int" = none
  b_isinstance : mg "isinstance" = none
  b_len : mg "len" = none
  b_range : mg "range" = none
  b_str : mg "str" = none
  b_tuple : mg "tuple" = none
  b_zip : mg "zip" = none
  g_MOST_WITHIN : ∃ t, mg "MOST_WITHIN" = some (.int 6 t)
theorem sc_is_whole : FnScope ["value"] ["value"] (defScope s_is_whole) := ⟨rfl, rfl, rfl, by decide +kernel, rfl, by decide +kernel, by decide +kernel⟩
theorem sc_is_place : FnScope ["value", "count"] ["value", "count"] (defScope s_is_place) := ⟨rfl, rfl, rfl, by decide +kernel, rfl, by decide +kernel, by decide +kernel⟩
theorem sc_has_bit : FnScope ["number", "bit"] ["number", "bit"] (defScope s_has_bit) := ⟨rfl, rfl, rfl, by decide +kernel, rfl, by decide +kernel, by decide +kernel⟩
theorem sc_after_answer : FnScope ["numbers", "state", "asks", "deeds"] ["numbers", "state", "asks", "deeds"] (defScope s_after_answer) := ⟨rfl, rfl, rfl, by decide +kernel, rfl, by decide +kernel, by decide +kernel⟩
theorem sc_after_often : FnScope ["numbers", "state", "asks", "deeds"] ["numbers", "state", "asks", "deeds"] (defScope s_after_often) := ⟨rfl, rfl, rfl, by decide +kernel, rfl, by decide +kernel, by decide +kernel⟩
theorem sc_after_within : FnScope ["numbers", "state", "asks", "deeds", "left"] ["numbers", "state", "asks", "deeds"] (defScope s_after_within) := ⟨rfl, rfl, rfl, by decide +kernel, rfl, by decide +kernel, by decide +kernel⟩
theorem sc_after_never : FnScope ["numbers", "state", "asks", "deeds"] ["numbers", "state", "asks", "deeds"] (defScope s_after_never) := ⟨rfl, rfl, rfl, by decide +kernel, rfl, by decide +kernel, by decide +kernel⟩
theorem sc_after_not : FnScope ["numbers", "state", "asks", "deeds"] ["numbers", "state", "asks", "deeds"] (defScope s_after_not) := ⟨rfl, rfl, rfl, by decide +kernel, rfl, by decide +kernel, by decide +kernel⟩
theorem sc_after_only : FnScope ["numbers", "state", "asks", "deeds", "asked"] ["numbers", "state", "asks", "deeds"] (defScope s_after_only) := ⟨rfl, rfl, rfl, by decide +kernel, rfl, by decide +kernel, by decide +kernel⟩
theorem sc_after_hope : FnScope ["numbers", "state", "asks", "deeds"] ["numbers", "state", "asks", "deeds"] (defScope s_after_hope) := ⟨rfl, rfl, rfl, by decide +kernel, rfl, by decide +kernel, by decide +kernel⟩
theorem sc_after_calm : FnScope ["numbers", "state", "asks", "deeds"] ["numbers", "state", "asks", "deeds"] (defScope s_after_calm) := ⟨rfl, rfl, rfl, by decide +kernel, rfl, by decide +kernel, by decide +kernel⟩
theorem sc_check_wish : FnScope ["row", "asks", "deeds", "kinds", "bounds", "number", "kind"] ["row", "asks", "deeds"] (defScope s_check_wish) := ⟨rfl, rfl, rfl, by decide +kernel, rfl, by decide +kernel, by decide +kernel⟩
theorem sc_wish_of : FnScope ["row", "asks", "deeds"] ["row", "asks", "deeds"] (defScope s_wish_of) := ⟨rfl, rfl, rfl, by decide +kernel, rfl, by decide +kernel, by decide +kernel⟩
theorem sc_law_cell_at : FnScope ["_law_script", "_law_k", "_law_number"] ["_law_script", "_law_k"] (defScope s_law_cell_at) := ⟨rfl, rfl, rfl, by decide +kernel, rfl, by decide +kernel, by decide +kernel⟩
theorem sc_law_wishes : FnScope ["_law_script", "_law_asks", "_law_deeds", "_law_cell", "_law_a", "_law_d", "_law_e", "_law_n", "_law_found"] ["_law_script", "_law_asks", "_law_deeds"] (defScope s_law_wishes) := ⟨rfl, rfl, rfl, by decide +kernel, rfl, by decide +kernel, by decide +kernel⟩
theorem sc_law_ticks : FnScope ["_law_script", "_law_asks", "_law_deeds", "_law_many", "_law_cell", "_law_ticks_here", "_law_k", "_law_number", "_law_asked", "_law_done"] ["_law_script", "_law_asks", "_law_deeds"] (defScope s_law_ticks) := ⟨rfl, rfl, rfl, by decide +kernel, rfl, by decide +kernel, by decide +kernel⟩
theorem sc_law_bit : FnScope ["_law_number", "_law_k"] ["_law_number", "_law_k"] (defScope s_law_bit) := ⟨rfl, rfl, rfl, by decide +kernel, rfl, by decide +kernel, by decide +kernel⟩
theorem sc_law_last_done : FnScope ["_law_ticks_here", "_law_d", "_law_end", "_law_at"] ["_law_ticks_here", "_law_d", "_law_end"] (defScope s_law_last_done) := ⟨rfl, rfl, rfl, by decide +kernel, rfl, by decide +kernel, by decide +kernel⟩
theorem sc_law_raised : FnScope ["_law_ticks_here", "_law_a", "_law_start"] ["_law_ticks_here", "_law_a", "_law_start"] (defScope s_law_raised) := ⟨rfl, rfl, rfl, by decide +kernel, rfl, by decide +kernel, by decide +kernel⟩
theorem sc_law_within : FnScope ["_law_ticks_here", "_law_wish", "_law_open_ones", "_law_left"] ["_law_ticks_here", "_law_wish"] (defScope s_law_within) := ⟨rfl, rfl, rfl, by decide +kernel, rfl, by decide +kernel, by decide +kernel⟩
theorem sc_law_only : FnScope ["_law_ticks_here", "_law_wish", "_law_last", "_law_ahead", "_law_raised_here"] ["_law_ticks_here", "_law_wish"] (defScope s_law_only) := ⟨rfl, rfl, rfl, by decide +kernel, rfl, by decide +kernel, by decide +kernel⟩
theorem sc_law_barred : FnScope ["_law_ticks_here", "_law_wish", "_law_asked"] ["_law_ticks_here", "_law_wish"] (defScope s_law_barred) := ⟨rfl, rfl, rfl, by decide +kernel, rfl, by decide +kernel, by decide +kernel⟩
theorem sc_law_due : FnScope ["_law_ticks_here", "_law_wish", "_law_word", "_law_last"] ["_law_ticks_here", "_law_wish"] (defScope s_law_due) := ⟨rfl, rfl, rfl, by decide +kernel, rfl, by decide +kernel, by decide +kernel⟩
theorem sc_law_alike : FnScope ["_law_found", "_law_due_here"] ["_law_found", "_law_due_here"] (defScope s_law_alike) := ⟨rfl, rfl, rfl, by decide +kernel, rfl, by decide +kernel, by decide +kernel⟩
theorem sc_law_stepped : FnScope ["_law_heard", "_law_wish", "_law_walk", "_law_tick", "_law_since", "_law_due_here"] ["_law_heard", "_law_wish", "_law_walk", "_law_tick"] (defScope s_law_stepped) := ⟨rfl, rfl, rfl, by decide +kernel, rfl, by decide +kernel, by decide +kernel⟩
theorem sc_law_walked : FnScope ["_law_heard", "_law_wish", "_law_ticks_here", "_law_one", "_law_other", "_law_k"] ["_law_heard", "_law_wish", "_law_ticks_here"] (defScope s_law_walked) := ⟨rfl, rfl, rfl, by decide +kernel, rfl, by decide +kernel, by decide +kernel⟩
theorem sc_law : FnScope ["_law_script", "_law_asks", "_law_deeds", "_law_ticks_here", "_law_wish"] ["_law_script"] (defScope s_law) := ⟨rfl, rfl, rfl, by decide +kernel, rfl, by decide +kernel, by decide +kernel⟩
theorem sc_Wish___init__ : FnScope ["self", "word", "numbers"] ["self", "word", "numbers"] (defScope s_Wish___init__) := ⟨rfl, rfl, rfl, by decide +kernel, rfl, by decide +kernel, by decide +kernel⟩
theorem sc_Wish_after : FnScope ["self", "state", "asks", "deeds"] ["self", "state", "asks", "deeds"] (defScope s_Wish_after) := ⟨rfl, rfl, rfl, by decide +kernel, rfl, by decide +kernel, by decide +kernel⟩
section
variable {P : Program} {w : World} {K : PySem.W.Frag} {mg : Str → Option Value} {base : Heap}
def spWhole : Sp := fun vs H Q _ => ∃ z : Int, vs = [.int z] ∧ Q (.bl true) H
theorem ok_is_whole (F : DefAt K mg "is_whole" s_is_whole ["value"]) (T : Txt mg) : Dn P w K mg base "is_whole" 1 ["value"] spWhole := by
  have sc := sc_is_whole
  refine F.ok sc (fun vs H Q E h => ?_) (fun f cdv A outer s H vs Q E hr h => ?_)
  · obtain ⟨z, rfl, _⟩ := h; rfl
  obtain ⟨z, rfl, q⟩ := h
  refine ⟨_, (pss_one (ps_ret (pe_and (pe_callB (clIsi (K := K) rfl (T := "int")) rfl T.b_isinstance PyProof.Rows.boot_isinstance (pa_cons (pv 0) (pa_cons (pe_bltn (v := .ty "int") rfl T.b_int PyProof.Rows.boot_int rfl) pa_nil))) (pe_one (pe_not (pe_callB (clIsi (K := K) rfl (T := "bool")) rfl T.b_isinstance PyProof.Rows.boot_isinstance (pa_cons (pv 0) (pa_cons (pe_bltn (v := .ty "bool") rfl T.b_bool PyProof.Rows.boot_bool rfl) pa_nil)))))))), ?_⟩
  refine ⟨_, rfl, _, "int", _, rfl, rfl, isi_same _, true, rfl, ?_⟩
  refine iteT ?_
  exact ⟨_, rfl, _, "int", _, rfl, rfl, isi_int_bool, false, rfl, q⟩
def spPlace : Sp := fun vs H Q _ => ∃ z n : Int, vs = [.int z, .int n] ∧ Q (.bl (decide (0 ≤ z ∧ z < n))) H
theorem ok_is_place (F : DefAt K mg "is_place" s_is_place ["value", "count"]) (T : Txt mg) (D_is_whole : Dn P w K mg base "is_whole" 1 ["value"] spWhole) : Dn P w K mg base "is_place" 2 ["value", "count"] spPlace := by
  have sc := sc_is_place
  refine F.ok sc (fun vs H Q E h => ?_) (fun f cdv A outer s H vs Q E hr h => ?_)
  · obtain ⟨_, _, rfl, _⟩ := h; rfl
  obtain ⟨z, n, rfl, q⟩ := h
  refine ⟨_, (pss_one (ps_ret (pe_and (pe_dn D_is_whole hr (pa_cons (pv 0) pa_nil)) (pe_one (pe_chain op_le op_lt pe_int (pv 0) (pv 1)))))), ?_⟩
  refine ⟨_, rfl, z, rfl, true, rfl, ?_⟩
  refine iteT ?_
  refine ⟨_, rfl, _, _, rfl, rfl, decide (0 ≤ z), rfl, ?_⟩
  refine ite2 (fun c => ?_) (fun c => ?_)
  · have h0 : 0 ≤ z := of_decide_eq_true c
    refine ⟨_, rfl, _, _, rfl, rfl, ?_⟩
    show Q (V.bl (decide (z < n))) H
    have e : decide (z < n) = decide (0 ≤ z ∧ z < n) := by
      by_cases h : z < n
      · rw [decide_eq_true h, decide_eq_true ⟨h0, h⟩]
      · rw [decide_eq_false h, decide_eq_false fun k => h k.2]
    rw [e]; exact q
  · have e : decide (0 ≤ z ∧ z < n) = false := decide_eq_false fun k => c (decide_eq_true k.1)
    rw [e] at q; exact q
variable {C : Addr}
def inT (signs : Str) (c : Nat) : Bool := !(Builtin.Str.occurrences signs ⟨#[c]⟩ 0 signs.length 1).isEmpty
def isName (z : Str) : Bool := decide (1 ≤ z.length ∧ (z.length : Int) ≤ 8) && z.cps.toList.all (inT "abcdefghijklmnopqrstuvwxyz")
def tabNK : List (Str × List Str) := [("answer", ["ask", "deed"]), ("often", ["deed"]), ("within", ["ask", "deed", "ticks"]), ("never", ["deed", "deed"]), ("not", ["ask", "deed"]), ("only", ["ask", "deed"]), ("hope", ["ask"]), ("calm", ["ask"])]
abbrev WR := Str × List Int
def wv (r : WR) : List V := .str r.1 :: r.2.map V.int
def bnd (a d : Int) (k : Str) : Int := if k = "ask" then a else if k = "deed" then d else 7
structure WOk (a d : Int) (r : WR) : Prop where
  k : ∃ ks, (r.1, ks) ∈ tabNK ∧ r.2.length = ks.length ∧ ∀ (i : Nat) (x : Int) (k : Str), r.2[i]? = some x → ks[i]? = some k → (k = "ask" ∨ k = "deed" ∨ k = "ticks") ∧ 0 ≤ x ∧ x < bnd a d k
def rW : Rel WR := fun H r v => ∃ t, v = .ref t ∧ H t = some (.tup (wv r))
theorem cut1 (x : V) (xs : List V) : cutV (x :: xs) (some 1) none = xs := by
  rw [cut_from1]; rfl
theorem tab_few : ∀ p ∈ tabNK, 1 ≤ p.2.length ∧ p.2.length ≤ 3 ∧ isName p.1 = true := by
  have h : tabNK.all (fun p => decide (1 ≤ p.2.length) && decide (p.2.length ≤ 3) && isName p.1) = true := by decide +kernel
  intro p hp
  have := List.all_eq_true.mp h p hp
  rw [Bool.and_eq_true, Bool.and_eq_true] at this
  exact ⟨of_decide_eq_true this.1.1, of_decide_eq_true this.1.2, this.2⟩
theorem sl_ok {x : V} {xs : List V} (h : xs ≠ []) : ¬ (HT.sIx (x :: xs).length 0 (some 1) = 0 ∧ HT.sIx (x :: xs).length (x :: xs).length none = (x :: xs).length) := by
  intro ⟨z, _⟩
  obtain ⟨y, r, rfl⟩ := List.exists_cons_of_ne_nil h
  simp [HT.sIx] at z
def spCW : Sp := fun vs H Q _ => ∃ (t : Addr) (a d : Int) (r : WR), vs = [.ref t, .int a, .int d] ∧ H t = some (.tup (wv r)) ∧ WOk a d r ∧ ∀ H', Same H H' → Q .non H'
theorem ok_cw (F : DefAt K mg "check_wish" s_check_wish ["row", "asks", "deeds"]) (T : Txt mg) (KT_NUMBER_KINDS : KTabAt w K mg "NUMBER_KINDS" tabNK) (D_is_place : Dn P w K mg base "is_place" 2 ["value", "count"] spPlace) : Dn P w K mg base "check_wish" 3 ["row", "asks", "deeds"] spCW := by
  have sc := sc_check_wish
  refine F.ok sc (fun vs H Q E h => ?_) (fun f cdv A outer s H vs Q E hr h => ?_)
  · obtain ⟨_, _, _, _, rfl, _⟩ := h; rfl
  obtain ⟨t, a, d, r, rfl, ht, ⟨ks, hks, hl, hin⟩, q⟩ := h
  obtain ⟨l1, l3, hnm⟩ : 1 ≤ ks.length ∧ ks.length ≤ 3 ∧ isName r.1 = true := tab_few _ hks
  have wl : (wv r).length = r.2.length + 1 := by unfold wv; simp
  refine ⟨_, (pss_cons (ps_if (PW.pt (pw_or (pt_not (pt_val (pe_callB (clIsi (K := K) rfl (T := "tuple")) rfl T.b_isinstance PyProof.Rows.boot_isinstance (pa_cons (pv 0) (pa_cons (pe_bltn (v := .ty "tuple") rfl T.b_tuple PyProof.Rows.boot_tuple rfl) pa_nil))))) (pw_or1 (pt_cmpR op_eq (pe_callB (clLen (K := K) rfl) rfl T.b_len PySem.boot_len (pa_cons (pv 0) pa_nil)) pe_int (nomark _)))))
      (pss_one ps_never)
      pss_nil)
      (pss_cons (ps_if (PW.pt (pw_or (pt_not (pt_val (pe_callB (clIsi (K := K) rfl (T := "str")) rfl T.b_isinstance PyProof.Rows.boot_isinstance (pa_cons (pe_ix (ixT (K := K) rfl) (pv 0) pe_int (fun _ _ => rfl)) (pa_cons (pe_bltn (v := .ty "str") rfl T.b_str PyProof.Rows.boot_str rfl) pa_nil))))) (pw_or1 (pt_cmp (pc_dnotinK (pe_ix (ixT (K := K) rfl) (pv 0) pe_int (fun _ _ => rfl)) (pe_gtab KT_NUMBER_KINDS))))))
      (pss_one ps_never)
      pss_nil)
      (pss_cons (ps_set (i := 3) sc.nd rfl (Or.inl rfl) (pe_dgetK (pe_gtab KT_NUMBER_KINDS) (pe_ix (ixT (K := K) rfl) (pv 0) pe_int (fun _ _ => rfl)) (fun _ _ => rfl)))
      (pss_cons (ps_if (pt_cmpR op_ne (pe_op op_sub (pe_callB (clLen (K := K) rfl) rfl T.b_len PySem.boot_len (pa_cons (pv 0) pa_nil)) pe_int) (pe_callB (clLen (K := K) rfl) rfl T.b_len PySem.boot_len (pa_cons (pv 3) pa_nil)) (nomark _))
      (pss_one ps_never)
      pss_nil)
      (pss_cons (ps_set (i := 4) sc.nd rfl (Or.inl rfl) (pe_disp (pps_cons pe_str (pv 1) (pps_cons pe_str (pv 2) (pps_cons pe_str (pe_op op_add (pe_gint T.g_MOST_WITHIN) pe_int) pps_nil))) rfl rfl (fun z => by cases z) (by decide)))
      (pss_one (ps_for PassesOwn.never rfl (pi_zipT (K := K) rfl rfl T.b_zip (pa_cons (pe_slice (slT (K := K) rfl) (pv 0) (po_some pe_int) po_none) (pa_cons (pv 3) pa_nil))) (pg_tup rfl (pgs_cons (pg_name (i := 5) sc.nd rfl (Or.inl rfl)) (pgs_cons (pg_name (i := 6) sc.nd rfl (Or.inl rfl)) pgs_nil)))
      (pss_one (ps_if (pt_not (pt_val (pe_dn D_is_place hr (pa_cons (pv 5) (pa_cons (pe_dget (hu_n hr 1) (pv 4) (pv 6) (fun _ _ => rfl)) pa_nil)))))
      (pss_one ps_never)
      pss_nil))))))))), ?_⟩
  refine ⟨_, rfl, _, "tuple", _, rfl, .inr (.inl ⟨rfl, _, ht⟩), isi_same _, _, rfl, ?_⟩
  refine iteF ?_
  refine ⟨_, rfl, t, _, rfl, .inr (SqT.of ht), rfl, _, rfl, ?_⟩
  refine ite2 (fun c => ?_) (fun _ => ?_)
  · have := of_decide_eq_true c
    injection this with this
    omega
  refine ⟨_, rfl, t, _, _, _, rfl, rfl, SqT.of ht, atI_nat (j := 0) rfl, _, "str", _, rfl, rfl, isi_same _, _, rfl, ?_⟩
  refine iteF ?_
  refine ⟨_, rfl, t, _, _, _, rfl, rfl, SqT.of ht, atI_nat (j := 0) rfl, fun dd kvs hK hv => ?_⟩
  obtain ⟨ka, hka, hkq⟩ : ∃ a, valV kvs (.inr r.1) = some (.ref a) ∧ ∀ H', SqT K H' a (ks.map V.str) := hv _ hks
  refine ⟨dd, kvs, .inr r.1, rfl, hK, rfl, _, rfl, ?_⟩
  refine ite2 (fun c => ?_) (fun _ => ?_)
  · rw [if_pos rfl] at c
    rw [hka] at c
    cases c
  refine fun dd kvs hK hv => ?_
  obtain ⟨ka, hka, hkq⟩ : ∃ a, valV kvs (.inr r.1) = some (.ref a) ∧ ∀ H', SqT K H' a (ks.map V.str) := hv _ hks
  refine ⟨_, rfl, t, _, _, _, rfl, rfl, SqT.of ht, atI_nat (j := 0) rfl, dd, kvs, .inr r.1, .ref ka, rfl, hK, rfl, hka, ?_⟩
  refine ⟨_, rfl, t, _, rfl, .inr (SqT.of ht), _, _, rfl, rfl, _, rfl, ka, _, rfl, .inr (hkq _), rfl, _, rfl, ?_⟩
  refine ite2 (fun c => ?_) (fun _ => ?_)
  · exfalso
    have e : ((wv r).length : Int) - 1 = ((ks.map V.str).length : Int) := by rw [wl, List.length_map]; omega
    have c' : (!decide (V.int (((wv r).length : Int) - 1) = V.int ((ks.map V.str).length : Int))) = true := c
    rw [e] at c'
    simp at c'
  refine fun bp hbp => ?_
  refine ⟨_, rfl, _, rfl, _, _, rfl, rfl, upd_same, [(.inr "ask", .int a), (.inr "deed", .int d), (.inr "ticks", .int (6 + 1))], rfl, (by show 3 ≤ 15; decide), ?_⟩
  have hbm : mergeK [] [((.inr "ask" : Key), V.int a), (.inr "deed", .int d), (.inr "ticks", .int (6 + 1))] = [((.inr "ask" : Key), V.int a), (.inr "deed", .int d), (.inr "ticks", .int (6 + 1))] := rfl
  have eu : upd (upd H bp (.dK [])) bp (.dK (mergeK [] [((.inr "ask" : Key), V.int a), (.inr "deed", .int d), (.inr "ticks", .int (6 + 1))])) = upd H bp (.dK [((.inr "ask" : Key), V.int a), (.inr "deed", .int d), (.inr "ticks", .int (6 + 1))]) := by
    rw [hbm]
    funext b
    by_cases e : b = bp
    · subst e; rw [upd_same, upd_same]
    · rw [upd_ne e, upd_ne e, upd_ne e]
  rw [eu]
  have sb := same_upd hbp (.dK [((.inr "ask" : Key), V.int a), (.inr "deed", .int d), (.inr "ticks", .int (6 + 1))])
  have hb1 : upd H bp (.dK [((.inr "ask" : Key), V.int a), (.inr "deed", .int d), (.inr "ticks", .int (6 + 1))]) bp = some (.dK [((.inr "ask" : Key), V.int a), (.inr "deed", .int d), (.inr "ticks", .int (6 + 1))]) := upd_same
  generalize upd H bp (.dK [((.inr "ask" : Key), V.int a), (.inr "deed", .int d), (.inr "ticks", .int (6 + 1))]) = H1 at sb hb1 ⊢
  have ht1 : H1 t = some (.tup (.str r.1 :: r.2.map V.int)) := sb _ _ ht
  have hne : r.2.map V.int ≠ [] := fun z => by
    have := congrArg List.length z
    rw [List.length_map] at this
    have : r.2.length = 0 := this
    omega
  refine ⟨_, rfl, 1, rfl, t, _, rfl, SqT.of ht1, sl_ok hne, fun sp hsp => ?_⟩
  rw [cut1]
  have s2 := sb.trans (same_upd hsp (.tup (r.2.map V.int)))
  have hs2 : upd H1 sp (.tup (r.2.map V.int)) sp = some (.tup (r.2.map V.int)) := upd_same
  have hb2 := same_upd hsp (.tup (r.2.map V.int)) _ _ hb1
  generalize upd H1 sp (.tup (r.2.map V.int)) = H2 at s2 hs2 hb2 ⊢
  refine ⟨_, rfl, sp, ka, rfl, ⟨_, SqT.of hs2⟩, ⟨_, hkq _⟩, for_zipT (K := K) (a := sp) (b := ka) (xs := r.2.map V.int) (ys := ks.map V.str) (by rw [List.length_map, List.length_map]; exact hl) (fun i σ H3 => Same H2 H3 ∧ ∃ y1 y2 : Option V, σ = [some (.ref t), some (.int a), some (.int d), some (.ref ka), some (.ref bp), y1, y2])
    ⟨Same.refl _, _, _, rfl⟩ (fun i σ H3 _ h => ⟨SqT.of (h.1 _ _ hs2), hkq _⟩) (fun i x y σ H3 Tt hi hj h hT => ?_) (fun σ H3 h => ?_)⟩
  · obtain ⟨s3, y1, y2, rfl⟩ := h
    obtain ⟨z, hz, rfl⟩ := int_of_at hi
    rw [List.getElem?_map] at hj
    obtain ⟨k, hk, rfl⟩ : ∃ k, ks[i]? = some k ∧ y = V.str k := by
      cases e : ks[i]? with
      | none => rw [e] at hj; cases hj
      | some k => rw [e] at hj; cases hj; exact ⟨k, rfl, rfl⟩
    obtain ⟨hkk, z0, z1⟩ := hin i z k hz hk
    have s4 := s3.trans (same_upd hT (.tup [.int z, .str k]))
    have g : DGet (upd H3 Tt (.tup [.int z, .str k])) bp (.str k) (some (.int (bnd a d k))) := by
      refine .inl ⟨_, .inr k, .inl (s4 _ _ hb2), rfl, ?_⟩
      rcases hkk with rfl | rfl | rfl <;> rfl
    refine ⟨Tt, _, rfl, SqT.of upd_same, rfl, _, _, rfl, _, _, rfl, rfl, ?_⟩
    refine ⟨_, rfl, _, rfl, _, rfl, bp, _, rfl, g, z, bnd a d k, rfl, ?_⟩
    rw [decide_eq_true ⟨z0, z1⟩]
    refine ⟨_, rfl, ?_⟩
    refine iteF ?_
    exact ⟨s4, _, _, rfl⟩
  · exact q _ (s2.trans h.1)
def KOk (a d x : Int) (k : Str) : Prop := (k = "ask" ∨ k = "deed" ∨ k = "ticks") ∧ 0 ≤ x ∧ x < bnd a d k
def InK (a d : Int) (xs : List Int) (ks : List Str) : Prop := xs.length = ks.length ∧ ∀ (i : Nat) (x : Int) (k : Str), xs[i]? = some x → ks[i]? = some k → KOk a d x k
theorem ink_nil (a d : Int) : InK a d [] [] := ⟨rfl, fun i x k h => by simp at h⟩
theorem ink_cons {a d x : Int} {k : Str} {xs : List Int} {ks : List Str} (h : KOk a d x k) (r : InK a d xs ks) : InK a d (x :: xs) (k :: ks) := by
  refine ⟨by rw [List.length_cons, List.length_cons, r.1], fun i y q hy hq => ?_⟩
  cases i with
  | zero => cases hy; cases hq; exact h
  | succ i => exact r.2 i y q hy hq
theorem k_ask {a d x : Int} (h0 : 0 ≤ x) (h1 : x < a) : KOk a d x "ask" := ⟨.inl rfl, h0, by unfold bnd; rw [if_pos rfl]; exact h1⟩
theorem k_deed {a d x : Int} (h0 : 0 ≤ x) (h1 : x < d) : KOk a d x "deed" := ⟨.inr (.inl rfl), h0, by unfold bnd; rw [if_neg (by decide +kernel), if_pos rfl]; exact h1⟩
theorem k_ticks {a d x : Int} (h0 : 0 ≤ x) (h1 : x < 7) : KOk a d x "ticks" := ⟨.inr (.inr rfl), h0, by unfold bnd; rw [if_neg (by decide +kernel), if_neg (by decide +kernel)]; exact h1⟩
theorem wok_of {a d : Int} {word : Str} {xs : List Int} {ks : List Str} (h : (word, ks) ∈ tabNK) (r : InK a d xs ks) : WOk a d (word, xs) := ⟨⟨ks, h, r.1, r.2⟩⟩
theorem wok_ne {a d : Int} {r : WR} (h : WOk a d r) : r.2 ≠ [] := fun z => by
  obtain ⟨ks, hks, hl, _⟩ := h.k
  have := (tab_few _ hks).1
  have l0 : r.2.length = 0 := by rw [z]; rfl
  have l1 : 1 ≤ ks.length := this
  omega
def CntOk (z : Int) : Prop := 1 ≤ z ∧ z ≤ 3
def spCell (K : PySem.W.Frag) : Sp := fun vs H Q _ => ∃ (a : Addr) (ns : List Int) (k : Int), vs = [.ref a, .int k] ∧ SqL K H a (ns.map V.int) ∧ ns.length ≤ 63 ∧ 0 ≤ k ∧ k ≤ 10000 ∧ ∀ m : Int, 0 ≤ m → m < 2305843009213693951 → Q (.int m) H
theorem ok_cell (F : DefAt K mg "_law_cell_at" s_law_cell_at ["_law_script", "_law_k"]) (T : Txt mg) : Dn P w K mg base "_law_cell_at" 1 ["_law_script", "_law_k"] (spCell K) := by
  have sc := sc_law_cell_at
  refine F.ok sc (fun vs H Q E h => ?_) (fun f cdv A outer s H vs Q E hr h => ?_)
  · obtain ⟨a, ns, k, rfl, _⟩ := h; rfl
  obtain ⟨a, ns, k, rfl, hS, h63, h0, h1, q⟩ := h
  refine ⟨_, (pss_cons (ps_if (pt_cmpR op_eq (pe_callB (clLen (K := K) rfl) rfl T.b_len PySem.boot_len (pa_cons (pv 0) pa_nil)) pe_int (nomark _))
      (pss_one (ps_ret (pe_op op_mod (pe_op op_add (pe_op op_mul (pe_op op_mul (pv 1) (pv 1)) pe_int) (pe_op op_mul pe_int (pv 1))) pe_int)))
      pss_nil)
      (pss_cons (ps_set (i := 2) sc.nd rfl (Or.inl rfl) (pe_op op_mod (pe_ix (ixL (K := K) rfl) (pv 0) (pe_op op_mod (pv 1) (pe_callB (clLen (K := K) rfl) rfl T.b_len PySem.boot_len (pa_cons (pv 0) pa_nil))) (fun _ _ => rfl)) pe_int))
      (pss_cons (ps_if (pt_cmpR op_lt (pv 1) (pe_callB (clLen (K := K) rfl) rfl T.b_len PySem.boot_len (pa_cons (pv 0) pa_nil)) (nomark _))
      (pss_one (ps_ret (pv 2)))
      pss_nil)
      (pss_one (ps_ret (pe_op op_mod (pe_op op_add (pe_op op_mul (pv 2) pe_int) (pe_op op_mul (pe_op op_mul (pv 1) (pv 1)) pe_int)) pe_int)))))), ?_⟩
  have hl : (ns.map V.int).length = ns.length := List.length_map _
  refine ⟨_, rfl, a, _, rfl, .inl hS, rfl, _, rfl, ?_⟩
  refine ite2 (fun c => ?_) (fun c => ?_)
  · refine ⟨_, rfl, _, rfl, _, _, rfl, rfl, .inl ⟨by omega, by omega⟩, _, _, rfl, rfl, .inr ⟨by decide, by decide⟩, _, rfl, _, _, rfl, rfl, .inl ⟨by decide, by decide⟩, _, _, rfl, rfl, _, _, rfl, rfl, (show (0 : Int) < 2147483647 by decide), ?_⟩
    have e1 := Int.emod_nonneg (k * k * 40692 + 7 * k) (show (2147483647 : Int) ≠ 0 by decide)
    have e2 := Int.emod_lt_of_pos (k * k * 40692 + 7 * k) (show (0 : Int) < 2147483647 by decide)
    exact q _ e1 (by omega)
  · have c' : 0 < ns.length := by
      rcases Nat.eq_zero_or_pos ns.length with h | h
      · exact absurd (decide_eq_true (by rw [hl, h]; rfl)) c
      · exact h
    have b1 := Int.emod_nonneg k (show (ns.length : Int) ≠ 0 by omega)
    have b2 := Int.emod_lt_of_pos k (show (0 : Int) < ns.length by omega)
    refine ⟨_, rfl, _, rfl, _, rfl, a, _, rfl, .inl hS, _, _, rfl, rfl, (by rw [hl]; omega), a, _, _, _, rfl, rfl, hS, (by rw [hl]; exact atI_ints b1 b2), _, _, rfl, rfl, (show (0 : Int) < 2305843009213693951 by decide), ?_⟩
    have e1 := Int.emod_nonneg (ns.getD (k % (ns.length : Int)).toNat 0) (show (2305843009213693951 : Int) ≠ 0 by decide)
    have e2 := Int.emod_lt_of_pos (ns.getD (k % (ns.length : Int)).toNat 0) (show (0 : Int) < 2305843009213693951 by decide)
    refine ⟨_, rfl, _, rfl, a, _, rfl, .inl hS, _, _, rfl, rfl, _, rfl, ?_⟩
    refine ite2 (fun c => ?_) (fun c => ?_)
    · exact ⟨_, rfl, q _ e1 e2⟩
    · refine ⟨_, rfl, _, _, rfl, rfl, .inr ⟨by decide, by decide⟩, _, rfl, _, rfl, _, _, rfl, rfl, .inl ⟨by omega, by omega⟩, _, _, rfl, rfl, .inr ⟨by decide, by decide⟩, _, _, rfl, rfl, _, _, rfl, rfl, (show (0 : Int) < 2305843009213693951 by decide), ?_⟩
      exact q _ (Int.emod_nonneg _ (by decide)) (Int.emod_lt_of_pos _ (by decide))
def oV : Option Int → V
  | none => .non
  | some z => .int z
def bit (n k : Int) : Bool := decide (V.int (Builtin.bitAnd (n / 2 ^ k.toNat) 1) = V.int 1)
def spBit : Sp := fun vs H Q _ => ∃ n k : Int, vs = [.int n, .int k] ∧ 0 ≤ k ∧ Q (.bl (bit n k)) H
theorem ok_bit (F : DefAt K mg "has_bit" s_has_bit ["number", "bit"]) (T : Txt mg) : Dn P w K mg base "has_bit" 1 ["number", "bit"] spBit := by
  have sc := sc_has_bit
  refine F.ok sc (fun vs H Q E h => ?_) (fun f cdv A outer s H vs Q E hr h => ?_)
  · obtain ⟨_, _, rfl, _⟩ := h; rfl
  obtain ⟨n, k, rfl, h0, q⟩ := h
  refine ⟨_, (pss_one (ps_ret (pe_cmpR op_eq (pe_op op_and (pe_op op_shr (pv 0) (pv 1)) pe_int) pe_int (nomark _)))), ?_⟩
  exact ⟨_, rfl, _, rfl, _, _, rfl, rfl, h0, _, _, rfl, rfl, rfl, q⟩
theorem ok_bitL (F : DefAt K mg "_law_bit" s_law_bit ["_law_number", "_law_k"]) (T : Txt mg) : Dn P w K mg base "_law_bit" 1 ["_law_number", "_law_k"] spBit := by
  have sc := sc_law_bit
  refine F.ok sc (fun vs H Q E h => ?_) (fun f cdv A outer s H vs Q E hr h => ?_)
  · obtain ⟨_, _, rfl, _⟩ := h; rfl
  obtain ⟨n, k, rfl, h0, q⟩ := h
  refine ⟨_, (pss_one (ps_ret (pe_cmpR op_eq (pe_op op_and (pe_op op_shr (pv 0) (pv 1)) pe_int) pe_int (nomark _)))), ?_⟩
  exact ⟨_, rfl, _, rfl, _, _, rfl, rfl, h0, _, _, rfl, rfl, rfl, q⟩
def spAft (m : Nat) (g : List Int → Int → Int → Int → Option Int) : Sp := fun vs H Q _ => ∃ (t : Addr) (xs : List Int) (st ak dn : Int), vs = [.ref t, .int st, .int ak, .int dn] ∧ H t = some (.tup (xs.map V.int)) ∧ xs.length = m ∧ (∀ x ∈ xs, 0 ≤ x) ∧ Q (oV (g xs st ak dn)) H
def gAnswer (xs : List Int) (st ak dn : Int) : Option Int := if bit dn (xs.getD 1 0) = true then some 0 else if bit ak (xs.getD 0 0) = true then some 1 else some st
def gOften (xs : List Int) (st ak dn : Int) : Option Int := if bit dn (xs.getD 0 0) = true then some 1 else some 0
def gWithin (xs : List Int) (st ak dn : Int) : Option Int := if bit dn (xs.getD 1 0) = true then some 0 else if 0 < st then (if st - 1 = 0 then none else some (st - 1)) else if bit ak (xs.getD 0 0) = true then (if xs.getD 2 0 = 0 then none else some (xs.getD 2 0)) else some 0
def gNever (xs : List Int) (st ak dn : Int) : Option Int := if bit dn (xs.getD 0 0) = true ∧ bit dn (xs.getD 1 0) = true then none else some 0
def gNot (xs : List Int) (st ak dn : Int) : Option Int := if bit ak (xs.getD 0 0) = true ∧ bit dn (xs.getD 1 0) = true then none else some 0
def gOnly (xs : List Int) (st ak dn : Int) : Option Int := if bit dn (xs.getD 1 0) = true then (if st = 1 ∨ bit ak (xs.getD 0 0) = true then some 0 else none) else (if st = 1 ∨ bit ak (xs.getD 0 0) = true then some 1 else some 0)
def gHope (xs : List Int) (st ak dn : Int) : Option Int := if bit ak (xs.getD 0 0) = true then some 1 else some 0
def gCalm (xs : List Int) (st ak dn : Int) : Option Int := if bit ak (xs.getD 0 0) = true then some 0 else some 1
theorem xs_at {xs : List Int} {j : Nat} (h : j < xs.length) : atI (xs.map V.int) ((j : Nat) : Int) = some (.int (xs.getD j 0)) := by
  refine atI_nat ?_
  rw [List.getElem?_map, List.getElem?_eq_getElem h, List.getD_eq_getElem?_getD, List.getElem?_eq_getElem h]; rfl
theorem xs_nn {xs : List Int} {j : Nat} (h : ∀ x ∈ xs, 0 ≤ x) : 0 ≤ xs.getD j 0 := by
  rw [List.getD_eq_getElem?_getD]
  cases e : xs[j]? with
  | none => exact Int.le_refl 0
  | some x => exact h x (List.mem_of_getElem? e)
theorem ok_answer (F : DefAt K mg "after_answer" s_after_answer ["numbers", "state", "asks", "deeds"]) (T : Txt mg) (D_has_bit : Dn P w K mg base "has_bit" 1 ["number", "bit"] spBit) : Dn P w K mg base "after_answer" 2 ["numbers", "state", "asks", "deeds"] (spAft 2 gAnswer) := by
  have sc := sc_after_answer
  refine F.ok sc (fun vs H Q E h => ?_) (fun f cdv A outer s H vs Q E hr h => ?_)
  · obtain ⟨_, _, _, _, _, rfl, _⟩ := h; rfl
  obtain ⟨t, xs, st, ak, dn, rfl, ht, hl, hn, q⟩ := h
  refine ⟨_, (pss_cons (ps_if (pt_val (pe_dn D_has_bit hr (pa_cons (pv 3) (pa_cons (pe_ix (ixT (K := K) rfl) (pv 0) pe_int (fun _ _ => rfl)) pa_nil))))
      (pss_one (ps_ret pe_int))
      pss_nil)
      (pss_one (ps_ret (pe_ifExp (pt_val (pe_dn D_has_bit hr (pa_cons (pv 2) (pa_cons (pe_ix (ixT (K := K) rfl) (pv 0) pe_int (fun _ _ => rfl)) pa_nil)))) pe_int (pv 1))))), ?_⟩
  unfold gAnswer at q
  refine ⟨_, rfl, _, rfl, t, _, _, _, rfl, rfl, SqT.of ht, xs_at (j := 1) (by omega), _, _, rfl, xs_nn hn, _, rfl, ?_⟩
  refine ite2 (fun c => ?_) (fun c => ?_)
  · rw [if_pos c] at q; exact q
  rw [if_neg c] at q
  refine ⟨_, rfl, _, rfl, t, _, _, _, rfl, rfl, SqT.of ht, xs_at (j := 0) (by omega), _, _, rfl, xs_nn hn, _, rfl, ?_⟩
  refine ite2 (fun c => ?_) (fun c => ?_)
  · rw [if_pos c] at q; exact q
  · rw [if_neg c] at q; exact ⟨_, rfl, q⟩
theorem ok_often (F : DefAt K mg "after_often" s_after_often ["numbers", "state", "asks", "deeds"]) (T : Txt mg) (D_has_bit : Dn P w K mg base "has_bit" 1 ["number", "bit"] spBit) : Dn P w K mg base "after_often" 2 ["numbers", "state", "asks", "deeds"] (spAft 1 gOften) := by
  have sc := sc_after_often
  refine F.ok sc (fun vs H Q E h => ?_) (fun f cdv A outer s H vs Q E hr h => ?_)
  · obtain ⟨_, _, _, _, _, rfl, _⟩ := h; rfl
  obtain ⟨t, xs, st, ak, dn, rfl, ht, hl, hn, q⟩ := h
  refine ⟨_, (pss_one (ps_ret (pe_ifExp (pt_val (pe_dn D_has_bit hr (pa_cons (pv 3) (pa_cons (pe_ix (ixT (K := K) rfl) (pv 0) pe_int (fun _ _ => rfl)) pa_nil)))) pe_int pe_int))), ?_⟩
  unfold gOften at q
  refine ⟨_, rfl, _, rfl, t, _, _, _, rfl, rfl, SqT.of ht, xs_at (j := 0) (by omega), _, _, rfl, xs_nn hn, _, rfl, ?_⟩
  refine ite2 (fun c => ?_) (fun c => ?_)
  · rw [if_pos c] at q; exact q
  · rw [if_neg c] at q; exact q
theorem ok_hope (F : DefAt K mg "after_hope" s_after_hope ["numbers", "state", "asks", "deeds"]) (T : Txt mg) (D_has_bit : Dn P w K mg base "has_bit" 1 ["number", "bit"] spBit) : Dn P w K mg base "after_hope" 2 ["numbers", "state", "asks", "deeds"] (spAft 1 gHope) := by
  have sc := sc_after_hope
  refine F.ok sc (fun vs H Q E h => ?_) (fun f cdv A outer s H vs Q E hr h => ?_)
  · obtain ⟨_, _, _, _, _, rfl, _⟩ := h; rfl
  obtain ⟨t, xs, st, ak, dn, rfl, ht, hl, hn, q⟩ := h
  refine ⟨_, (pss_one (ps_ret (pe_ifExp (pt_val (pe_dn D_has_bit hr (pa_cons (pv 2) (pa_cons (pe_ix (ixT (K := K) rfl) (pv 0) pe_int (fun _ _ => rfl)) pa_nil)))) pe_int pe_int))), ?_⟩
  unfold gHope at q
  refine ⟨_, rfl, _, rfl, t, _, _, _, rfl, rfl, SqT.of ht, xs_at (j := 0) (by omega), _, _, rfl, xs_nn hn, _, rfl, ?_⟩
  refine ite2 (fun c => ?_) (fun c => ?_)
  · rw [if_pos c] at q; exact q
  · rw [if_neg c] at q; exact q
theorem ok_calm (F : DefAt K mg "after_calm" s_after_calm ["numbers", "state", "asks", "deeds"]) (T : Txt mg) (D_has_bit : Dn P w K mg base "has_bit" 1 ["number", "bit"] spBit) : Dn P w K mg base "after_calm" 2 ["numbers", "state", "asks", "deeds"] (spAft 1 gCalm) := by
  have sc := sc_after_calm
  refine F.ok sc (fun vs H Q E h => ?_) (fun f cdv A outer s H vs Q E hr h => ?_)
  · obtain ⟨_, _, _, _, _, rfl, _⟩ := h; rfl
  obtain ⟨t, xs, st, ak, dn, rfl, ht, hl, hn, q⟩ := h
  refine ⟨_, (pss_one (ps_ret (pe_ifExp (pt_val (pe_dn D_has_bit hr (pa_cons (pv 2) (pa_cons (pe_ix (ixT (K := K) rfl) (pv 0) pe_int (fun _ _ => rfl)) pa_nil)))) pe_int pe_int))), ?_⟩
  unfold gCalm at q
  refine ⟨_, rfl, _, rfl, t, _, _, _, rfl, rfl, SqT.of ht, xs_at (j := 0) (by omega), _, _, rfl, xs_nn hn, _, rfl, ?_⟩
  refine ite2 (fun c => ?_) (fun c => ?_)
  · rw [if_pos c] at q; exact q
  · rw [if_neg c] at q; exact q
theorem ok_within (F : DefAt K mg "after_within" s_after_within ["numbers", "state", "asks", "deeds"]) (T : Txt mg) (D_has_bit : Dn P w K mg base "has_bit" 1 ["number", "bit"] spBit) : Dn P w K mg base "after_within" 2 ["numbers", "state", "asks", "deeds"] (spAft 3 gWithin) := by
  have sc := sc_after_within
  refine F.ok sc (fun vs H Q E h => ?_) (fun f cdv A outer s H vs Q E hr h => ?_)
  · obtain ⟨_, _, _, _, _, rfl, _⟩ := h; rfl
  obtain ⟨t, xs, st, ak, dn, rfl, ht, hl, hn, q⟩ := h
  refine ⟨_, (pss_cons (ps_if (pt_val (pe_dn D_has_bit hr (pa_cons (pv 3) (pa_cons (pe_ix (ixT (K := K) rfl) (pv 0) pe_int (fun _ _ => rfl)) pa_nil))))
      (pss_one (ps_ret pe_int))
      pss_nil)
      (pss_cut (ps_if (pt_cmpR op_gt (pv 1) pe_int (nomark _))
      (pss_one (ps_set (i := 4) sc.nd rfl (Or.inl rfl) (pe_op op_sub (pv 1) pe_int)))
      (pss_one (ps_if (pt_val (pe_dn D_has_bit hr (pa_cons (pv 2) (pa_cons (pe_ix (ixT (K := K) rfl) (pv 0) pe_int (fun _ _ => rfl)) pa_nil))))
      (pss_one (ps_set (i := 4) sc.nd rfl (Or.inl rfl) (pe_ix (ixT (K := K) rfl) (pv 0) pe_int (fun _ _ => rfl))))
      (pss_one (ps_ret pe_int)))))
      (pss_one (ps_ret (pe_ifExp (pt_cmpR op_eq (pv 4) pe_int (nomark _)) pe_non (pv 4)))))), ?_⟩
  unfold gWithin at q
  refine ⟨_, rfl, _, rfl, t, _, _, _, rfl, rfl, SqT.of ht, xs_at (j := 1) (by omega), _, _, rfl, xs_nn hn, _, rfl, ?_⟩
  refine ite2 (fun c => ?_) (fun c => ?_)
  · rw [if_pos c] at q; exact q
  rw [if_neg c] at q
  refine ⟨fun σ' H1 => ∃ l : Int, σ' = [some (.ref t), some (.int st), some (.int ak), some (.int dn), some (.int l)] ∧ H1 = H ∧ (Q (oV (if l = 0 then none else some l)) H), ?_, ?_⟩
  · refine ⟨_, rfl, _, _, rfl, rfl, _, rfl, ?_⟩
    refine ite2 (fun c => ?_) (fun c => ?_)
    · have c' : (0 : Int) < st := of_decide_eq_true c
      rw [if_pos c'] at q
      exact ⟨_, rfl, _, _, rfl, rfl, _, rfl, rfl, q⟩
    · have c' : ¬ (0 : Int) < st := fun k => c (decide_eq_true k)
      rw [if_neg c'] at q
      refine ⟨_, rfl, _, rfl, t, _, _, _, rfl, rfl, SqT.of ht, xs_at (j := 0) (by omega), _, _, rfl, xs_nn hn, _, rfl, ?_⟩
      refine ite2 (fun c => ?_) (fun c => ?_)
      · rw [if_pos c] at q
        exact ⟨_, rfl, t, _, _, _, rfl, rfl, SqT.of ht, xs_at (j := 2) (by omega), _, rfl, rfl, q⟩
      · rw [if_neg c] at q
        exact q
  rintro σ' H1 ⟨l, rfl, rfl, q⟩
  refine ⟨_, rfl, rfl, _, rfl, ?_⟩
  refine ite2 (fun c => ?_) (fun c => ?_)
  · have e : l = 0 := by have := of_decide_eq_true c; injection this
    rw [if_pos e] at q
    exact q
  · have e : ¬ l = 0 := fun e => c (decide_eq_true (by rw [e]))
    rw [if_neg e] at q
    exact ⟨_, rfl, q⟩
theorem ok_never (F : DefAt K mg "after_never" s_after_never ["numbers", "state", "asks", "deeds"]) (T : Txt mg) (D_has_bit : Dn P w K mg base "has_bit" 1 ["number", "bit"] spBit) : Dn P w K mg base "after_never" 2 ["numbers", "state", "asks", "deeds"] (spAft 2 gNever) := by
  have sc := sc_after_never
  refine F.ok sc (fun vs H Q E h => ?_) (fun f cdv A outer s H vs Q E hr h => ?_)
  · obtain ⟨_, _, _, _, _, rfl, _⟩ := h; rfl
  obtain ⟨t, xs, st, ak, dn, rfl, ht, hl, hn, q⟩ := h
  refine ⟨_, (pss_one (ps_ret (pe_ifExp (PW.pt (pw_and (pt_val (pe_dn D_has_bit hr (pa_cons (pv 3) (pa_cons (pe_ix (ixT (K := K) rfl) (pv 0) pe_int (fun _ _ => rfl)) pa_nil)))) (pw_and1 (pt_val (pe_dn D_has_bit hr (pa_cons (pv 3) (pa_cons (pe_ix (ixT (K := K) rfl) (pv 0) pe_int (fun _ _ => rfl)) pa_nil))))))) pe_non pe_int))), ?_⟩
  unfold gNever at q
  refine ⟨_, rfl, _, rfl, t, _, _, _, rfl, rfl, SqT.of ht, xs_at (j := 0) (by omega), _, _, rfl, xs_nn hn, _, rfl, ?_⟩
  refine ite2 (fun c => ?_) (fun c => ?_)
  · refine ⟨_, rfl, _, rfl, t, _, _, _, rfl, rfl, SqT.of ht, xs_at (j := 1) (by omega), _, _, rfl, xs_nn hn, _, rfl, ?_⟩
    refine ite2 (fun c2 => ?_) (fun c2 => ?_)
    · rw [if_pos ⟨c, c2⟩] at q; exact q
    · rw [if_neg fun h => c2 h.2] at q; exact q
  · refine iteF ?_
    rw [if_neg fun h => c h.1] at q; exact q
theorem ok_not (F : DefAt K mg "after_not" s_after_not ["numbers", "state", "asks", "deeds"]) (T : Txt mg) (D_has_bit : Dn P w K mg base "has_bit" 1 ["number", "bit"] spBit) : Dn P w K mg base "after_not" 2 ["numbers", "state", "asks", "deeds"] (spAft 2 gNot) := by
  have sc := sc_after_not
  refine F.ok sc (fun vs H Q E h => ?_) (fun f cdv A outer s H vs Q E hr h => ?_)
  · obtain ⟨_, _, _, _, _, rfl, _⟩ := h; rfl
  obtain ⟨t, xs, st, ak, dn, rfl, ht, hl, hn, q⟩ := h
  refine ⟨_, (pss_one (ps_ret (pe_ifExp (PW.pt (pw_and (pt_val (pe_dn D_has_bit hr (pa_cons (pv 2) (pa_cons (pe_ix (ixT (K := K) rfl) (pv 0) pe_int (fun _ _ => rfl)) pa_nil)))) (pw_and1 (pt_val (pe_dn D_has_bit hr (pa_cons (pv 3) (pa_cons (pe_ix (ixT (K := K) rfl) (pv 0) pe_int (fun _ _ => rfl)) pa_nil))))))) pe_non pe_int))), ?_⟩
  unfold gNot at q
  refine ⟨_, rfl, _, rfl, t, _, _, _, rfl, rfl, SqT.of ht, xs_at (j := 0) (by omega), _, _, rfl, xs_nn hn, _, rfl, ?_⟩
  refine ite2 (fun c => ?_) (fun c => ?_)
  · refine ⟨_, rfl, _, rfl, t, _, _, _, rfl, rfl, SqT.of ht, xs_at (j := 1) (by omega), _, _, rfl, xs_nn hn, _, rfl, ?_⟩
    refine ite2 (fun c2 => ?_) (fun c2 => ?_)
    · rw [if_pos ⟨c, c2⟩] at q; exact q
    · rw [if_neg fun h => c2 h.2] at q; exact q
  · refine iteF ?_
    rw [if_neg fun h => c h.1] at q; exact q
theorem ok_only (F : DefAt K mg "after_only" s_after_only ["numbers", "state", "asks", "deeds"]) (T : Txt mg) (D_has_bit : Dn P w K mg base "has_bit" 1 ["number", "bit"] spBit) : Dn P w K mg base "after_only" 2 ["numbers", "state", "asks", "deeds"] (spAft 2 gOnly) := by
  have sc := sc_after_only
  refine F.ok sc (fun vs H Q E h => ?_) (fun f cdv A outer s H vs Q E hr h => ?_)
  · obtain ⟨_, _, _, _, _, rfl, _⟩ := h; rfl
  obtain ⟨t, xs, st, ak, dn, rfl, ht, hl, hn, q⟩ := h
  refine ⟨_, (pss_cons (ps_set (i := 4) sc.nd rfl (Or.inl rfl) (pe_or (pe_cmpR op_eq (pv 1) pe_int (nomark _)) (pe_one (pe_dn D_has_bit hr (pa_cons (pv 2) (pa_cons (pe_ix (ixT (K := K) rfl) (pv 0) pe_int (fun _ _ => rfl)) pa_nil))))))
      (pss_cons (ps_if (pt_val (pe_dn D_has_bit hr (pa_cons (pv 3) (pa_cons (pe_ix (ixT (K := K) rfl) (pv 0) pe_int (fun _ _ => rfl)) pa_nil))))
      (pss_one (ps_ret (pe_ifExp (pt_val (pv 4)) pe_int pe_non)))
      pss_nil)
      (pss_one (ps_ret (pe_ifExp (pt_val (pv 4)) pe_int pe_int))))), ?_⟩
  unfold gOnly at q
  refine ⟨_, rfl, rfl, _, rfl, ?_⟩
  have fin : ∀ b : Bool, (b = true ↔ (st = 1 ∨ bit ak (xs.getD 0 0) = true)) → Q (oV (if bit dn (xs.getD 1 0) = true then (if b = true then some 0 else none) else (if b = true then some 1 else some 0))) H := fun b hb => by
    by_cases h : b = true
    · rw [if_pos (hb.mp h), if_pos (hb.mp h)] at q
      rw [if_pos h, if_pos h]; exact q
    · have h' : ¬ (st = 1 ∨ bit ak (xs.getD 0 0) = true) := fun z => h (hb.mpr z)
      rw [if_neg h', if_neg h'] at q
      rw [if_neg h, if_neg h]; exact q
  refine ite2 (fun c => ?_) (fun c => ?_)
  · have e : st = 1 := by have := of_decide_eq_true c; injection this
    have q := fin true ⟨fun _ => Or.inl e, fun _ => rfl⟩
    refine ⟨_, rfl, _, rfl, t, _, _, _, rfl, rfl, SqT.of ht, xs_at (j := 1) (by omega), _, _, rfl, xs_nn hn, _, rfl, ?_⟩
    refine ite2 (fun c => ?_) (fun c => ?_)
    · rw [if_pos c, if_pos rfl] at q
      exact ⟨_, rfl, true, rfl, iteT q⟩
    · rw [if_neg c, if_pos rfl] at q
      exact ⟨_, rfl, true, rfl, iteT q⟩
  · have e : ¬ st = 1 := fun e => c (decide_eq_true (by rw [e]))
    refine ⟨_, rfl, _, rfl, t, _, _, _, rfl, rfl, SqT.of ht, xs_at (j := 0) (by omega), _, _, rfl, xs_nn hn, ?_⟩
    have q := fin (bit ak (xs.getD 0 0)) ⟨fun h => Or.inr h, fun h => h.elim (fun z => absurd z e) id⟩
    refine ⟨_, rfl, _, rfl, t, _, _, _, rfl, rfl, SqT.of ht, xs_at (j := 1) (by omega), _, _, rfl, xs_nn hn, _, rfl, ?_⟩
    refine ite2 (fun c => ?_) (fun c => ?_)
    · rw [if_pos c] at q
      refine ⟨_, rfl, _, rfl, ?_⟩
      refine ite2 (fun c => ?_) (fun c => ?_)
      · rw [if_pos c] at q; exact q
      · rw [if_neg c] at q; exact q
    · rw [if_neg c] at q
      refine ⟨_, rfl, _, rfl, ?_⟩
      refine ite2 (fun c => ?_) (fun c => ?_)
      · rw [if_pos c] at q; exact q
      · rw [if_neg c] at q; exact q
inductive Wd | answer | often | within | never | not_ | only | hope | calm
def Wd.s : Wd → Str
  | .answer => "answer" | .often => "often" | .within => "within" | .never => "never" | .not_ => "not" | .only => "only" | .hope => "hope" | .calm => "calm"
def Wd.m : Wd → Nat
  | .answer => 2 | .often => 1 | .within => 3 | .never => 2 | .not_ => 2 | .only => 2 | .hope => 1 | .calm => 1
def Wd.g : Wd → List Int → Int → Int → Int → Option Int
  | .answer => gAnswer | .often => gOften | .within => gWithin | .never => gNever | .not_ => gNot | .only => gOnly | .hope => gHope | .calm => gCalm
def tabST : List (Str × Str) := [("answer", "after_answer"), ("often", "after_often"), ("within", "after_within"), ("never", "after_never"), ("not", "after_not"), ("only", "after_only"), ("hope", "after_hope"), ("calm", "after_calm")]
abbrev flW (s : Str) (sp : Addr) : List (Str × V) := putF "numbers" (.ref sp) (putF "word" (.str s) [])
theorem flW_w (s : Str) (sp : Addr) : (flW s sp).lookup ("word" : Str) = some (.str s) := by
  rw [lookup_putF, if_neg (by decide +kernel), lookup_putF, if_pos rfl]
theorem flW_n (s : Str) (sp : Addr) : (flW s sp).lookup ("numbers" : Str) = some (.ref sp) := by
  rw [lookup_putF, if_pos rfl]
abbrev WishFs : List Str := ["word", "numbers"]
def ObjW (C : Addr) (H : Hp) (x : Addr) (r : WR) : Prop := ∃ dx sp, H x = some (.ins C dx (flW r.1 sp)) ∧ H sp = some (.tup (r.2.map V.int))
theorem ObjW.up {x : Addr} {H H' : Hp} {r : WR} (o : ObjW C H x r) (s : Same H H') : ObjW C H' x r := by
  obtain ⟨dx, sp, h1, h2⟩ := o
  exact ⟨dx, sp, s _ _ h1, s _ _ h2⟩
def spInitW (C : Addr) : Sp := fun vs H Q _ => ∃ (x dx sp : Addr) (s : Str), vs = [.ref x, .str s, .ref sp] ∧ H x = some (.ins C dx []) ∧ Q .non (upd (upd H x (.ins C dx (putF "word" (.str s) []))) x (.ins C dx (flW s sp)))
theorem ok_initW (F : MkAt K C "Wish.__init__" s_Wish___init__ ["self", "word", "numbers"]) (T : Txt mg) (CL_Wish : ClsAt K mg "Wish" C WishFs) : DnK P w K mg base C 1 ["self", "word", "numbers"] (spInitW C) := by
  have sc := sc_Wish___init__
  refine F.ok sc (fun vs H Q E h => ?_) (fun f cdv A outer s H vs Q E hr h => ?_)
  · obtain ⟨_, _, _, _, rfl, _⟩ := h; rfl
  obtain ⟨x, dx, sp, wd, rfl, hx, q⟩ := h
  refine ⟨_, (pss_cons (ps_fldK (K := K) rfl (pv 0) (pv 1) rfl)
      (pss_one (ps_fldK (K := K) rfl (pv 0) (pv 2) rfl))), ?_⟩
  refine ⟨_, rfl, _, rfl, x, C, dx, [], rfl, hx, CL_Wish.cl, CL_Wish.na _ (by decide +kernel), (by show 0 < 1000; decide), ?_⟩
  exact ⟨_, rfl, _, rfl, x, C, dx, _, rfl, upd_same, CL_Wish.cl, CL_Wish.na _ (by decide +kernel), (by show 1 < 1000; decide), q⟩
def spAfter (C : Addr) : Sp := fun vs H Q _ => ∃ (x : Addr) (k : Wd) (xs : List Int) (st ak dn : Int), vs = [.ref x, .int st, .int ak, .int dn] ∧ ObjW C H x (k.s, xs) ∧ xs.length = k.m ∧ (∀ y ∈ xs, 0 ≤ y) ∧ Q (oV (k.g xs st ak dn)) H
theorem ok_after (F : MeAt K C "after" "Wish.after" s_Wish_after ["self", "state", "asks", "deeds"]) (T : Txt mg) (CL_Wish : ClsAt K mg "Wish" C WishFs) (KF_STEPS : KFunAt P w K mg "STEPS" tabST)
    (D1 : Dn P w K mg base "after_answer" 2 ["numbers", "state", "asks", "deeds"] (spAft 2 gAnswer)) (D2 : Dn P w K mg base "after_often" 2 ["numbers", "state", "asks", "deeds"] (spAft 1 gOften)) (D3 : Dn P w K mg base "after_within" 2 ["numbers", "state", "asks", "deeds"] (spAft 3 gWithin)) (D4 : Dn P w K mg base "after_never" 2 ["numbers", "state", "asks", "deeds"] (spAft 2 gNever))
    (D5 : Dn P w K mg base "after_not" 2 ["numbers", "state", "asks", "deeds"] (spAft 2 gNot)) (D6 : Dn P w K mg base "after_only" 2 ["numbers", "state", "asks", "deeds"] (spAft 2 gOnly)) (D7 : Dn P w K mg base "after_hope" 2 ["numbers", "state", "asks", "deeds"] (spAft 1 gHope)) (D8 : Dn P w K mg base "after_calm" 2 ["numbers", "state", "asks", "deeds"] (spAft 1 gCalm)) :
    DnM P w K mg base C "after" 3 ["self", "state", "asks", "deeds"] (spAfter C) := by
  have sc := sc_Wish_after
  refine F.ok sc (fun vs H Q E h => ?_) (fun f cdv A outer s H vs Q E hr h => ?_)
  · obtain ⟨_, _, _, _, _, _, rfl, _⟩ := h; rfl
  obtain ⟨x, k, xs, st, ak, dn, rfl, ⟨dx, sp, hx, hs⟩, hl, hn, q⟩ := h
  refine ⟨_, (pss_one (ps_ret (pe_callV (pe_dgetK (pe_gfun KF_STEPS) (pe_fldK (K := K) rfl (pv 0) rfl) (fun _ _ => rfl)) hr (pa_cons (pe_fldK (K := K) rfl (pv 0) rfl) (pa_cons (pv 1) (pa_cons (pv 2) (pa_cons (pv 3) pa_nil))))))), ?_⟩
  refine fun d kvs hK hv => ?_
  have pick : ∀ {a b : Str} {m : Nat} {g : List Int → Int → Int → Int → Option Int}, (a, b) ∈ tabST → Dn P w K mg base b 2 ["numbers", "state", "asks", "deeds"] (spAft m g) → ∃ f fd, valV kvs (.inr a) = some (.ref f) ∧ FnOk P w K mg base CX0 2 f fd ["numbers", "state", "asks", "deeds"] (spAft m g) ∧ PySem.W.keepIn K (.ref f) = true ∧ Binds K fd ["numbers", "state", "asks", "deeds"] [] := fun {a b m g} hm D => by
    obtain ⟨f, hv1, hm1⟩ := hv _ hm
    obtain ⟨f', fd, Fo, hm2, kp, hb⟩ := D.ex
    have e : f = f' := by
      have := hm1.symm.trans hm2
      injection this with this
      injection this
    subst e
    exact ⟨f, fd, hv1, Fo, kp, hb⟩
  obtain ⟨fa, fd, hv1, Fo, kp, hb⟩ : ∃ f fd, valV kvs (.inr k.s) = some (.ref f) ∧ FnOk P w K mg base CX0 2 f fd ["numbers", "state", "asks", "deeds"] (spAft k.m k.g) ∧ PySem.W.keepIn K (.ref f) = true ∧ Binds K fd ["numbers", "state", "asks", "deeds"] [] := by
    cases k
    · exact pick (List.mem_of_getElem? (i := 0) rfl) D1
    · exact pick (List.mem_of_getElem? (i := 1) rfl) D2
    · exact pick (List.mem_of_getElem? (i := 2) rfl) D3
    · exact pick (List.mem_of_getElem? (i := 3) rfl) D4
    · exact pick (List.mem_of_getElem? (i := 4) rfl) D5
    · exact pick (List.mem_of_getElem? (i := 5) rfl) D6
    · exact pick (List.mem_of_getElem? (i := 6) rfl) D7
    · exact pick (List.mem_of_getElem? (i := 7) rfl) D8
  refine ⟨_, rfl, x, C, dx, _, _, rfl, hx, CL_Wish.cl, CL_Wish.na _ (by decide +kernel), flW_w _ _, d, kvs, .inr k.s, _, rfl, hK, rfl, hv1, fa, fd, 2, _, _, rfl, Fo, (by decide), kp, hb, ?_⟩
  exact ⟨_, rfl, x, C, dx, _, _, rfl, hx, CL_Wish.cl, CL_Wish.na _ (by decide +kernel), flW_n _ _, _, rfl, _, rfl, _, rfl, sp, xs, st, ak, dn, rfl, hs, hl, hn, q⟩
def spWishOf (C : Addr) : Sp := fun vs H Q _ => ∃ (t : Addr) (a d : Int) (r : WR), vs = [.ref t, .int a, .int d] ∧ H t = some (.tup (wv r)) ∧ WOk a d r ∧ ∀ (x : Addr) (H' : Hp), Same H H' → ObjW C H' x r → Q (.ref x) H'
theorem ok_wish_of (F : DefAt K mg "wish_of" s_wish_of ["row", "asks", "deeds"]) (T : Txt mg) (CL_Wish : ClsAt K mg "Wish" C WishFs) (D_check_wish : Dn P w K mg base "check_wish" 3 ["row", "asks", "deeds"] spCW) (D_Wish___init__ : DnK P w K mg base C 1 ["self", "word", "numbers"] (spInitW C)) : Dn P w K mg base "wish_of" 4 ["row", "asks", "deeds"] (spWishOf C) := by
  have sc := sc_wish_of
  refine F.ok sc (fun vs H Q E h => ?_) (fun f cdv A outer s H vs Q E hr h => ?_)
  · obtain ⟨_, _, _, _, rfl, _⟩ := h; rfl
  obtain ⟨t, a, d, r, rfl, ht, hok, q⟩ := h
  refine ⟨_, (pss_cons (ps_expr (pe_dn D_check_wish hr (pa_cons (pv 0) (pa_cons (pv 1) (pa_cons (pv 2) pa_nil)))))
      (pss_one (ps_ret (pe_dnK CL_Wish D_Wish___init__ hr (pa_cons (pe_ix (ixT (K := K) rfl) (pv 0) pe_int (fun _ _ => rfl)) (pa_cons (pe_slice (slT (K := K) rfl) (pv 0) (po_some pe_int) po_none) pa_nil)))))), ?_⟩
  refine ⟨_, rfl, _, rfl, _, rfl, t, a, d, r, rfl, ht, hok, fun H1 s1 => ?_⟩
  have ht1 : H1 t = some (.tup (.str r.1 :: r.2.map V.int)) := s1 _ _ ht
  have hne : r.2.map V.int ≠ [] := fun z => wok_ne hok (List.map_eq_nil_iff.mp z)
  refine ⟨_, rfl, t, _, _, _, rfl, rfl, SqT.of ht1, atI_nat (j := 0) rfl, ?_⟩
  refine ⟨_, rfl, 1, rfl, t, _, rfl, SqT.of ht1, sl_ok hne, fun sp hsp => ?_⟩
  rw [cut1]
  have s2 := s1.trans (same_upd hsp (.tup (r.2.map V.int)))
  have hs2 : upd H1 sp (.tup (r.2.map V.int)) sp = some (.tup (r.2.map V.int)) := upd_same
  generalize upd H1 sp (.tup (r.2.map V.int)) = H2 at s2 hs2 ⊢
  refine fun x dx hx hdx ne => ?_
  refine ⟨x, dx, sp, r.1, rfl, upd_same, rfl, ?_⟩
  have nx : sp ≠ x := fun e => by rw [← e, hs2] at hx; cases hx
  have nd : sp ≠ dx := fun e => by rw [← e, hs2] at hdx; cases hdx
  have eu : ∀ b, b ≠ x → b ≠ dx → upd (upd (upd (upd H2 dx (.own x)) x (.ins C dx [])) x (.ins C dx (putF "word" (.str r.1) []))) x (.ins C dx (flW r.1 sp)) b = H2 b := fun b h1 h2 => by
    rw [upd_ne h1, upd_ne h1, upd_ne h1, upd_ne h2]
  refine q x _ (fun b o e => ?_) ⟨dx, sp, upd_same, ?_⟩
  · have e2 := s2 _ _ e
    rw [eu b (fun z => by rw [z, hx] at e2; cases e2) (fun z => by rw [z, hdx] at e2; cases e2)]
    exact e2
  · rw [eu sp nx nd]; exact hs2
abbrev Tk := Int × Int
def lastD (d : Int) (ts : List Tk) : Nat → Nat
  | 0 => 0
  | n + 1 => if bit (ts.getD n (0, 0)).2 d = true then n + 1 else lastD d ts n
def rsd (a : Int) (ts : List Tk) (s : Nat) : List Nat := (List.range' s (ts.length - s)).filter fun t => bit (ts.getD t (0, 0)).1 a
def opn (a d : Int) (ts : List Tk) : List Nat := rsd a ts (lastD d ts ts.length)
theorem lastD_le (d : Int) (ts : List Tk) : ∀ n, lastD d ts n ≤ n
  | 0 => Nat.le_refl 0
  | n + 1 => by
    unfold lastD
    split
    · exact Nat.le_refl _
    · exact Nat.le_succ_of_le (lastD_le d ts n)
theorem getD_app {ts us : List Tk} {n : Nat} (h : n < ts.length) : (ts ++ us).getD n (0, 0) = ts.getD n (0, 0) := by
  rw [List.getD_eq_getElem?_getD, List.getD_eq_getElem?_getD, List.getElem?_append_left h]
theorem getD_end {ts : List Tk} {p : Tk} : (ts ++ [p]).getD ts.length (0, 0) = p := by
  rw [List.getD_eq_getElem?_getD, List.getElem?_append_right (Nat.le_refl _), Nat.sub_self]; rfl
theorem lastD_app {d : Int} {ts us : List Tk} : ∀ {n : Nat}, n ≤ ts.length → lastD d (ts ++ us) n = lastD d ts n
  | 0, _ => rfl
  | n + 1, h => by
    unfold lastD
    rw [getD_app (by omega), lastD_app (by omega)]
theorem rsd_app {a : Int} {ts : List Tk} {p : Tk} {s : Nat} (h : s ≤ ts.length) : rsd a (ts ++ [p]) s = rsd a ts s ++ (if bit p.1 a = true then [ts.length] else []) := by
  unfold rsd
  have e : (ts ++ [p]).length - s = (ts.length - s) + 1 := by rw [List.length_append]; simp; omega
  rw [e, List.range'_concat, List.filter_append]
  congr 1
  · refine List.filter_congr fun t ht => ?_
    have := List.mem_range'_1.mp ht
    rw [getD_app (by omega)]
  · have e2 : s + 1 * (ts.length - s) = ts.length := by omega
    rw [e2, List.filter_cons, getD_end]
    rfl
theorem rsd_end {a : Int} {ts : List Tk} : rsd a ts ts.length = [] := by
  unfold rsd; rw [Nat.sub_self]; rfl
theorem opn_app (a d : Int) (ts : List Tk) (p : Tk) : opn a d (ts ++ [p]) = if bit p.2 d = true then [] else opn a d ts ++ (if bit p.1 a = true then [ts.length] else []) := by
  unfold opn
  have e : lastD d (ts ++ [p]) (ts ++ [p]).length = if bit p.2 d = true then ts.length + 1 else lastD d ts ts.length := by
    have : (ts ++ [p]).length = ts.length + 1 := by simp
    rw [this]
    show (if bit ((ts ++ [p]).getD ts.length (0, 0)).2 d = true then ts.length + 1 else lastD d (ts ++ [p]) ts.length) = _
    rw [getD_end, lastD_app (Nat.le_refl _)]
  rw [e]
  by_cases c : bit p.2 d = true
  · rw [if_pos c, if_pos c]
    have : (ts ++ [p]).length = ts.length + 1 := by simp
    rw [← this]
    exact rsd_end
  · rw [if_neg c, if_neg c]
    exact rsd_app (lastD_le _ _ _)
def dueW (xs : List Int) (us : List Tk) : Option Int :=
  match opn (xs.getD 0 0) (xs.getD 1 0) us with
  | [] => some 0
  | f :: _ => if xs.getD 2 0 - ((us.length : Int) - 1 - (f : Int)) ≤ 0 then none else some (xs.getD 2 0 - ((us.length : Int) - 1 - (f : Int)))
def onlyR (xs : List Int) (ts : List Tk) (p : Tk) : List Nat := rsd (xs.getD 0 0) (ts ++ [p]) (lastD (xs.getD 1 0) (ts ++ [p]) ts.length)
def b01 (b : Bool) : Int := if b then 1 else 0
def dueQ : Wd → List Int → List Tk → Tk → Option Int
  | .answer, xs, ts, p => some (b01 (!(opn (xs.getD 0 0) (xs.getD 1 0) (ts ++ [p])).isEmpty))
  | .often, xs, _, p => some (b01 (bit p.2 (xs.getD 0 0)))
  | .within, xs, ts, p => dueW xs (ts ++ [p])
  | .never, xs, _, p => if bit p.2 (xs.getD 0 0) = true ∧ bit p.2 (xs.getD 1 0) = true then none else some 0
  | .not_, xs, _, p => if bit p.1 (xs.getD 0 0) = true ∧ bit p.2 (xs.getD 1 0) = true then none else some 0
  | .only, xs, ts, p => if bit p.2 (xs.getD 1 0) = true then (if (onlyR xs ts p).isEmpty = true then none else some 0) else some (b01 (!(onlyR xs ts p).isEmpty))
  | .hope, xs, _, p => some (b01 (bit p.1 (xs.getD 0 0)))
  | .calm, xs, _, p => some (1 - b01 (bit p.1 (xs.getD 0 0)))
def Stt (k : Wd) (xs : List Int) (st : Int) (ts : List Tk) : Prop := match k with
  | .answer => st = b01 (!(opn (xs.getD 0 0) (xs.getD 1 0) ts).isEmpty)
  | .only => st = b01 (!(opn (xs.getD 0 0) (xs.getD 1 0) ts).isEmpty)
  | .within => dueW xs ts = some st ∧ (opn (xs.getD 0 0) (xs.getD 1 0) ts = [] ∨ 0 < st)
  | _ => True
theorem stt_nil (k : Wd) (xs : List Int) : Stt k xs 0 [] := by
  cases k <;> first | trivial | rfl | skip
  exact ⟨rfl, .inl rfl⟩
theorem stt_step {k : Wd} {xs : List Int} {st : Int} {ts : List Tk} (hn : ∀ y ∈ xs, 0 ≤ y) (h : Stt k xs st ts) (p : Tk) : k.g xs st p.1 p.2 = dueQ k xs ts p ∧ ∀ v, dueQ k xs ts p = some v → Stt k xs v (ts ++ [p]) := by
  cases k with
  | often => exact ⟨by show gOften xs st p.1 p.2 = some (b01 (bit p.2 (xs.getD 0 0))); unfold gOften b01; split <;> rfl, fun _ _ => trivial⟩
  | hope => exact ⟨by show gHope xs st p.1 p.2 = some (b01 (bit p.1 (xs.getD 0 0))); unfold gHope b01; split <;> rfl, fun _ _ => trivial⟩
  | calm => exact ⟨by show gCalm xs st p.1 p.2 = some (1 - b01 (bit p.1 (xs.getD 0 0))); unfold gCalm b01; split <;> rfl, fun _ _ => trivial⟩
  | never => exact ⟨rfl, fun _ _ => trivial⟩
  | not_ => exact ⟨rfl, fun _ _ => trivial⟩
  | answer =>
    have h : st = b01 (!(opn (xs.getD 0 0) (xs.getD 1 0) ts).isEmpty) := h
    refine ⟨?_, fun v hv => by
      have hv : some _ = some v := hv
      injection hv with hv
      exact hv.symm⟩
    show gAnswer xs st p.1 p.2 = some (b01 (!(opn (xs.getD 0 0) (xs.getD 1 0) (ts ++ [p])).isEmpty))
    rw [opn_app]
    unfold gAnswer
    by_cases c : bit p.2 (xs.getD 1 0) = true
    · rw [if_pos c, if_pos c]; rfl
    · rw [if_neg c, if_neg c]
      by_cases c2 : bit p.1 (xs.getD 0 0) = true
      · rw [if_pos c2, if_pos c2]; simp [b01]
      · rw [if_neg c2, if_neg c2, List.append_nil, h]
  | only =>
    have h : st = b01 (!(opn (xs.getD 0 0) (xs.getD 1 0) ts).isEmpty) := h
    have eR : onlyR xs ts p = opn (xs.getD 0 0) (xs.getD 1 0) ts ++ (if bit p.1 (xs.getD 0 0) = true then [ts.length] else []) := by
      unfold onlyR opn
      rw [lastD_app (Nat.le_refl _), rsd_app (lastD_le _ _ _)]
    have e1 : (st = 1 ∨ bit p.1 (xs.getD 0 0) = true) ↔ (onlyR xs ts p).isEmpty = false := by
      rw [eR, h]
      generalize opn (xs.getD 0 0) (xs.getD 1 0) ts = L
      by_cases c2 : bit p.1 (xs.getD 0 0) = true
      · rw [if_pos c2]
        exact ⟨fun _ => by simp, fun _ => .inr c2⟩
      · rw [if_neg c2, List.append_nil]
        cases e : L.isEmpty with
        | true => exact ⟨fun z => z.elim (fun z => absurd (show (0 : Int) = 1 from z) (by decide)) (fun z => absurd z c2), fun z => by cases z⟩
        | false => exact ⟨fun _ => rfl, fun _ => .inl rfl⟩
    have e2 : opn (xs.getD 0 0) (xs.getD 1 0) (ts ++ [p]) = if bit p.2 (xs.getD 1 0) = true then [] else onlyR xs ts p := by rw [opn_app, eR]
    refine ⟨?_, fun v hv => ?_⟩
    · show gOnly xs st p.1 p.2 = (if bit p.2 (xs.getD 1 0) = true then (if (onlyR xs ts p).isEmpty = true then none else some 0) else some (b01 (!(onlyR xs ts p).isEmpty)))
      unfold gOnly
      cases e : (onlyR xs ts p).isEmpty with
      | true =>
        have n1 : ¬ (st = 1 ∨ bit p.1 (xs.getD 0 0) = true) := fun z => by rw [e1.mp z] at e; cases e
        rw [if_neg n1, if_neg n1, if_pos rfl]; rfl
      | false =>
        have n1 := e1.mpr e
        rw [if_pos n1, if_pos n1, if_neg (c := (false = true)) (by decide)]; rfl
    · have hv : (if bit p.2 (xs.getD 1 0) = true then (if (onlyR xs ts p).isEmpty = true then none else some 0) else some (b01 (!(onlyR xs ts p).isEmpty))) = some v := hv
      show v = b01 (!(opn (xs.getD 0 0) (xs.getD 1 0) (ts ++ [p])).isEmpty)
      rw [e2]
      by_cases c : bit p.2 (xs.getD 1 0) = true
      · rw [if_pos c] at hv ⊢
        by_cases c3 : (onlyR xs ts p).isEmpty = true
        · rw [if_pos c3] at hv; cases hv
        · rw [if_neg c3] at hv; injection hv with hv; exact hv.symm
      · rw [if_neg c] at hv ⊢
        injection hv with hv; exact hv.symm
  | within =>
    obtain ⟨h1, h2⟩ : dueW xs ts = some st ∧ (opn (xs.getD 0 0) (xs.getD 1 0) ts = [] ∨ 0 < st) := h
    have n0 : 0 ≤ xs.getD 2 0 := xs_nn hn
    have hl : (((ts ++ [p]).length : Nat) : Int) = (ts.length : Int) + 1 := by simp
    have both : dueW xs (ts ++ [p]) = gWithin xs st p.1 p.2 ∧ (opn (xs.getD 0 0) (xs.getD 1 0) (ts ++ [p]) = [] ∨ ∀ v, dueW xs (ts ++ [p]) = some v → 0 < v) := by
      have pos : ∀ us : List Tk, opn (xs.getD 0 0) (xs.getD 1 0) us = [] ∨ ∀ v, dueW xs us = some v → 0 < v := fun us => by
        cases e : opn (xs.getD 0 0) (xs.getD 1 0) us with
        | nil => exact .inl rfl
        | cons f r =>
          refine .inr fun v hv => ?_
          unfold dueW at hv
          rw [e] at hv
          have hv : (if xs.getD 2 0 - ((us.length : Int) - 1 - (f : Int)) ≤ 0 then none else some (xs.getD 2 0 - ((us.length : Int) - 1 - (f : Int)))) = some v := hv
          split at hv
          · cases hv
          · injection hv with hv; omega
      refine ⟨?_, pos _⟩
      unfold dueW
      rw [opn_app, hl]
      unfold gWithin
      by_cases c : bit p.2 (xs.getD 1 0) = true
      · rw [if_pos c, if_pos c]
      · rw [if_neg c, if_neg c]
        unfold dueW at h1
        cases e : opn (xs.getD 0 0) (xs.getD 1 0) ts with
        | nil =>
          rw [e] at h1
          have h1 : some 0 = some st := h1
          injection h1 with h1
          rw [← h1, if_neg (c := ((0 : Int) < 0)) (by decide)]
          by_cases c2 : bit p.1 (xs.getD 0 0) = true
          · rw [if_pos c2, if_pos c2]
            show (if xs.getD 2 0 - ((ts.length : Int) + 1 - 1 - (ts.length : Int)) ≤ 0 then none else some (xs.getD 2 0 - ((ts.length : Int) + 1 - 1 - (ts.length : Int)))) = _
            have e0 : xs.getD 2 0 - ((ts.length : Int) + 1 - 1 - (ts.length : Int)) = xs.getD 2 0 := by omega
            rw [e0]
            by_cases z : xs.getD 2 0 = 0
            · rw [if_pos (by omega), if_pos z]
            · rw [if_neg (by omega), if_neg z]
          · rw [if_neg c2, if_neg c2]; rfl
        | cons f r =>
          rw [e] at h1
          have h1 : (if xs.getD 2 0 - ((ts.length : Int) - 1 - (f : Int)) ≤ 0 then none else some (xs.getD 2 0 - ((ts.length : Int) - 1 - (f : Int)))) = some st := h1
          split at h1
          · cases h1
          injection h1 with h1
          rw [if_pos (c := (0 < st)) (by omega)]
          show (if xs.getD 2 0 - ((ts.length : Int) + 1 - 1 - (f : Int)) ≤ 0 then none else some (xs.getD 2 0 - ((ts.length : Int) + 1 - 1 - (f : Int)))) = _
          have e0 : xs.getD 2 0 - ((ts.length : Int) + 1 - 1 - (f : Int)) = st - 1 := by omega
          rw [e0]
          by_cases z : st - 1 = 0
          · rw [if_pos (by omega), if_pos z]
          · rw [if_neg (by omega), if_neg z]
    refine ⟨both.1.symm, fun v hv => ⟨hv, both.2.imp id fun f => f v hv⟩⟩
def LW (a d : Int) (r : WR) : Prop := WOk a d r ∧ ∃ k : Wd, r.1 = k.s ∧ r.2.length = k.m
def spWishes (K : PySem.W.Frag) : Sp := fun vs H Q _ => ∃ (a : Addr) (ns : List Int) (x y : Int), vs = [.ref a, .int x, .int y] ∧ SqL K H a (ns.map V.int) ∧ ns.length ≤ 63 ∧ CntOk x ∧ CntOk y ∧ ∀ (p : Addr) (us : List V) (rs : List WR) (H' : Hp), Same H H' → H' p = some (.lst us) → Paired (rW H') rs us → (∀ r ∈ rs, LW x y r) → Q (.ref p) H'
theorem ok_wishes (F : DefAt K mg "_law_wishes" s_law_wishes ["_law_script", "_law_asks", "_law_deeds"]) (T : Txt mg) (D_law_cell_at : Dn P w K mg base "_law_cell_at" 1 ["_law_script", "_law_k"] (spCell K)) : Dn P w K mg base "_law_wishes" 2 ["_law_script", "_law_asks", "_law_deeds"] (spWishes K) := by
  have sc := sc_law_wishes
  refine F.ok sc (fun vs H Q E h => ?_) (fun f cdv A outer s H vs Q E hr h => ?_)
  · obtain ⟨_, _, _, _, rfl, _⟩ := h; rfl
  obtain ⟨a, ns, x, y, rfl, hS, h63, hx, hy, q⟩ := h
  have x1 := hx.1
  have y1 := hy.1
  refine ⟨_, (pss_cons (ps_set (i := 3) sc.nd rfl (Or.inl rfl) (pe_op op_fdiv (pe_dn D_law_cell_at hr (pa_cons (pv 0) (pa_cons pe_int pa_nil))) pe_int))
      (pss_cons (ps_set (i := 4) sc.nd rfl (Or.inl rfl) (pe_op op_mod (pv 3) (pv 1)))
      (pss_cons (ps_set (i := 5) sc.nd rfl (Or.inl rfl) (pe_op op_mod (pe_op op_fdiv (pv 3) pe_int) (pv 2)))
      (pss_cons (ps_set (i := 6) sc.nd rfl (Or.inl rfl) (pe_op op_mod (pe_op op_fdiv (pv 3) pe_int) (pv 2)))
      (pss_cons (ps_set (i := 7) sc.nd rfl (Or.inl rfl) (pe_op op_mod (pe_op op_fdiv (pv 3) pe_int) pe_int))
      (pss_cons (ps_set (i := 8) sc.nd rfl (Or.inl rfl) (pe_lst (pa_cons (pe_tup (pa_cons pe_str (pa_cons (pv 4) (pa_cons (pv 5) pa_nil)))) (pa_cons (pe_tup (pa_cons pe_str (pa_cons (pv 5) pa_nil))) (pa_cons (pe_tup (pa_cons pe_str (pa_cons (pv 4) (pa_cons (pv 5) (pa_cons (pv 7) pa_nil))))) (pa_cons (pe_tup (pa_cons pe_str (pa_cons (pv 5) (pa_cons (pv 6) pa_nil)))) pa_nil))))))
      (pss_one (ps_ret (pe_op op_cat (pv 8) (pe_lst (pa_cons (pe_tup (pa_cons pe_str (pa_cons (pv 4) (pa_cons (pv 5) pa_nil)))) (pa_cons (pe_tup (pa_cons pe_str (pa_cons (pv 4) (pa_cons (pv 5) pa_nil)))) (pa_cons (pe_tup (pa_cons pe_str (pa_cons (pv 4) pa_nil))) (pa_cons (pe_tup (pa_cons pe_str (pa_cons (pv 4) pa_nil))) pa_nil)))))))))))))), ?_⟩
  refine ⟨_, rfl, a, ns, 0, rfl, hS, h63, by decide, by decide, fun c _ _ => ?_⟩
  refine ⟨_, _, rfl, rfl, ⟨by decide, by decide⟩, ?_⟩
  refine ⟨_, rfl, _, rfl, _, _, rfl, rfl, (show 0 < x by omega), ?_⟩
  refine ⟨_, rfl, _, _, rfl, rfl, ⟨by decide, by decide⟩, _, rfl, _, _, rfl, rfl, (show 0 < y by omega), ?_⟩
  refine ⟨_, rfl, _, _, rfl, rfl, ⟨by decide, by decide⟩, _, rfl, _, _, rfl, rfl, (show 0 < y by omega), ?_⟩
  refine ⟨_, rfl, _, _, rfl, rfl, ⟨by decide, by decide⟩, _, _, rfl, rfl, (show (0 : Int) < 7 by decide), ?_⟩
  have mA : 0 ≤ c / 9 % x ∧ c / 9 % x < x := ⟨Int.emod_nonneg _ (by omega), Int.emod_lt_of_pos _ (by omega)⟩
  have mD : 0 ≤ c / 9 / 3 % y ∧ c / 9 / 3 % y < y := ⟨Int.emod_nonneg _ (by omega), Int.emod_lt_of_pos _ (by omega)⟩
  have mB : 0 ≤ c / 9 / 9 % y ∧ c / 9 / 9 % y < y := ⟨Int.emod_nonneg _ (by omega), Int.emod_lt_of_pos _ (by omega)⟩
  have mN : 0 ≤ c / 9 / 27 % 7 ∧ c / 9 / 27 % 7 < 7 := ⟨Int.emod_nonneg _ (by decide), Int.emod_lt_of_pos _ (by decide)⟩
  refine ⟨_, rfl, _, rfl, (by show 3 ≤ sizeLine; decide), fun t0 h0 => ?_⟩
  have e0 := same_upd h0 (.tup [V.str "answer", V.int (c / 9 % x), V.int (c / 9 / 3 % y)])
  have k0 : upd H t0 (.tup [V.str "answer", V.int (c / 9 % x), V.int (c / 9 / 3 % y)]) t0 = some (.tup (wv ("answer", [(c / 9 % x), (c / 9 / 3 % y)]))) := upd_same
  have S := e0
  clear e0
  generalize upd H t0 (.tup [V.str "answer", V.int (c / 9 % x), V.int (c / 9 / 3 % y)]) = H1 at S k0 ⊢
  refine ⟨_, rfl, (by show 2 ≤ sizeLine; decide), fun t1 h1 => ?_⟩
  have e1 := same_upd h1 (.tup [V.str "often", V.int (c / 9 / 3 % y)])
  have k1 : upd H1 t1 (.tup [V.str "often", V.int (c / 9 / 3 % y)]) t1 = some (.tup (wv ("often", [(c / 9 / 3 % y)]))) := upd_same
  replace k0 := e1 _ _ k0
  replace S := S.trans e1
  clear e1
  generalize upd H1 t1 (.tup [V.str "often", V.int (c / 9 / 3 % y)]) = H2 at S k0 k1 ⊢
  refine ⟨_, rfl, _, rfl, _, rfl, (by show 4 ≤ sizeLine; decide), fun t2 h2 => ?_⟩
  have e2 := same_upd h2 (.tup [V.str "within", V.int (c / 9 % x), V.int (c / 9 / 3 % y), V.int (c / 9 / 27 % 7)])
  have k2 : upd H2 t2 (.tup [V.str "within", V.int (c / 9 % x), V.int (c / 9 / 3 % y), V.int (c / 9 / 27 % 7)]) t2 = some (.tup (wv ("within", [(c / 9 % x), (c / 9 / 3 % y), (c / 9 / 27 % 7)]))) := upd_same
  replace k0 := e2 _ _ k0
  replace k1 := e2 _ _ k1
  replace S := S.trans e2
  clear e2
  generalize upd H2 t2 (.tup [V.str "within", V.int (c / 9 % x), V.int (c / 9 / 3 % y), V.int (c / 9 / 27 % 7)]) = H3 at S k0 k1 k2 ⊢
  refine ⟨_, rfl, _, rfl, (by show 3 ≤ sizeLine; decide), fun t3 h3 => ?_⟩
  have e3 := same_upd h3 (.tup [V.str "never", V.int (c / 9 / 3 % y), V.int (c / 9 / 9 % y)])
  have k3 : upd H3 t3 (.tup [V.str "never", V.int (c / 9 / 3 % y), V.int (c / 9 / 9 % y)]) t3 = some (.tup (wv ("never", [(c / 9 / 3 % y), (c / 9 / 9 % y)]))) := upd_same
  replace k0 := e3 _ _ k0
  replace k1 := e3 _ _ k1
  replace k2 := e3 _ _ k2
  replace S := S.trans e3
  clear e3
  generalize upd H3 t3 (.tup [V.str "never", V.int (c / 9 / 3 % y), V.int (c / 9 / 9 % y)]) = H4 at S k0 k1 k2 k3 ⊢
  refine ⟨(by show 4 ≤ sizeLine; decide), fun l hl => ?_⟩
  have el := same_upd hl (.lst [.ref t0, .ref t1, .ref t2, .ref t3])
  have kl : upd H4 l (.lst [.ref t0, .ref t1, .ref t2, .ref t3]) l = some (.lst [.ref t0, .ref t1, .ref t2, .ref t3]) := upd_same
  replace S := S.trans el
  replace k0 := el _ _ k0
  replace k1 := el _ _ k1
  replace k2 := el _ _ k2
  replace k3 := el _ _ k3
  clear el
  generalize upd H4 l (.lst [.ref t0, .ref t1, .ref t2, .ref t3]) = G at S kl k0 k1 k2 k3 ⊢
  refine ⟨_, rfl, _, rfl, _, rfl, (by show 3 ≤ sizeLine; decide), fun t4 h4 => ?_⟩
  have e4 := same_upd h4 (.tup [V.str "not", V.int (c / 9 % x), V.int (c / 9 / 3 % y)])
  have k4 : upd G t4 (.tup [V.str "not", V.int (c / 9 % x), V.int (c / 9 / 3 % y)]) t4 = some (.tup (wv ("not", [(c / 9 % x), (c / 9 / 3 % y)]))) := upd_same
  replace k0 := e4 _ _ k0
  replace k1 := e4 _ _ k1
  replace k2 := e4 _ _ k2
  replace k3 := e4 _ _ k3
  replace S := S.trans e4
  replace kl := e4 _ _ kl
  clear e4
  generalize upd G t4 (.tup [V.str "not", V.int (c / 9 % x), V.int (c / 9 / 3 % y)]) = H5 at S k0 k1 k2 k3 k4 kl ⊢
  refine ⟨_, rfl, _, rfl, (by show 3 ≤ sizeLine; decide), fun t5 h5 => ?_⟩
  have e5 := same_upd h5 (.tup [V.str "only", V.int (c / 9 % x), V.int (c / 9 / 3 % y)])
  have k5 : upd H5 t5 (.tup [V.str "only", V.int (c / 9 % x), V.int (c / 9 / 3 % y)]) t5 = some (.tup (wv ("only", [(c / 9 % x), (c / 9 / 3 % y)]))) := upd_same
  replace k0 := e5 _ _ k0
  replace k1 := e5 _ _ k1
  replace k2 := e5 _ _ k2
  replace k3 := e5 _ _ k3
  replace k4 := e5 _ _ k4
  replace S := S.trans e5
  replace kl := e5 _ _ kl
  clear e5
  generalize upd H5 t5 (.tup [V.str "only", V.int (c / 9 % x), V.int (c / 9 / 3 % y)]) = H6 at S k0 k1 k2 k3 k4 k5 kl ⊢
  refine ⟨_, rfl, (by show 2 ≤ sizeLine; decide), fun t6 h6 => ?_⟩
  have e6 := same_upd h6 (.tup [V.str "hope", V.int (c / 9 % x)])
  have k6 : upd H6 t6 (.tup [V.str "hope", V.int (c / 9 % x)]) t6 = some (.tup (wv ("hope", [(c / 9 % x)]))) := upd_same
  replace k0 := e6 _ _ k0
  replace k1 := e6 _ _ k1
  replace k2 := e6 _ _ k2
  replace k3 := e6 _ _ k3
  replace k4 := e6 _ _ k4
  replace k5 := e6 _ _ k5
  replace S := S.trans e6
  replace kl := e6 _ _ kl
  clear e6
  generalize upd H6 t6 (.tup [V.str "hope", V.int (c / 9 % x)]) = H7 at S k0 k1 k2 k3 k4 k5 k6 kl ⊢
  refine ⟨_, rfl, (by show 2 ≤ sizeLine; decide), fun t7 h7 => ?_⟩
  have e7 := same_upd h7 (.tup [V.str "calm", V.int (c / 9 % x)])
  have k7 : upd H7 t7 (.tup [V.str "calm", V.int (c / 9 % x)]) t7 = some (.tup (wv ("calm", [(c / 9 % x)]))) := upd_same
  replace k0 := e7 _ _ k0
  replace k1 := e7 _ _ k1
  replace k2 := e7 _ _ k2
  replace k3 := e7 _ _ k3
  replace k4 := e7 _ _ k4
  replace k5 := e7 _ _ k5
  replace k6 := e7 _ _ k6
  replace S := S.trans e7
  replace kl := e7 _ _ kl
  clear e7
  generalize upd H7 t7 (.tup [V.str "calm", V.int (c / 9 % x)]) = H8 at S k0 k1 k2 k3 k4 k5 k6 k7 kl ⊢
  refine ⟨(by show 4 ≤ sizeLine; decide), fun l2 hl2 => ?_⟩
  have el := same_upd hl2 (.lst [.ref t4, .ref t5, .ref t6, .ref t7])
  have kl2 : upd H8 l2 (.lst [.ref t4, .ref t5, .ref t6, .ref t7]) l2 = some (.lst [.ref t4, .ref t5, .ref t6, .ref t7]) := upd_same
  replace S := S.trans el
  replace kl := el _ _ kl
  replace k0 := el _ _ k0
  replace k1 := el _ _ k1
  replace k2 := el _ _ k2
  replace k3 := el _ _ k3
  replace k4 := el _ _ k4
  replace k5 := el _ _ k5
  replace k6 := el _ _ k6
  replace k7 := el _ _ k7
  clear el
  generalize upd H8 l2 (.lst [.ref t4, .ref t5, .ref t6, .ref t7]) = G2 at S kl kl2 k0 k1 k2 k3 k4 k5 k6 k7 ⊢
  refine ⟨l, l2, _, _, rfl, rfl, kl, kl2, small (m := 8) (Nat.le_refl 8), fun p hp => ?_⟩
  have ep := same_upd hp (.lst ([V.ref t0, .ref t1, .ref t2, .ref t3] ++ [.ref t4, .ref t5, .ref t6, .ref t7]))
  refine q p _ [("answer", [(c / 9 % x), (c / 9 / 3 % y)]), ("often", [(c / 9 / 3 % y)]), ("within", [(c / 9 % x), (c / 9 / 3 % y), (c / 9 / 27 % 7)]), ("never", [(c / 9 / 3 % y), (c / 9 / 9 % y)]), ("not", [(c / 9 % x), (c / 9 / 3 % y)]), ("only", [(c / 9 % x), (c / 9 / 3 % y)]), ("hope", [(c / 9 % x)]), ("calm", [(c / 9 % x)])] _ (S.trans ep) upd_same (.cons ⟨t0, rfl, ep _ _ k0⟩ (.cons ⟨t1, rfl, ep _ _ k1⟩ (.cons ⟨t2, rfl, ep _ _ k2⟩ (.cons ⟨t3, rfl, ep _ _ k3⟩ (.cons ⟨t4, rfl, ep _ _ k4⟩ (.cons ⟨t5, rfl, ep _ _ k5⟩ (.cons ⟨t6, rfl, ep _ _ k6⟩ (.cons ⟨t7, rfl, ep _ _ k7⟩ (.nil))))))))) ?_
  intro r hr
  have pk : ∀ {wd : Wd} {xs : List Int} {ks : List Str}, (wd.s, ks) ∈ tabNK → InK x y xs ks → xs.length = wd.m → LW x y (wd.s, xs) := fun h1 h2 h3 => ⟨wok_of h1 h2, _, rfl, h3⟩
  rcases List.mem_cons.mp hr with rfl | hr
  · exact pk (wd := .answer) (List.mem_of_getElem? (i := 0) rfl) (ink_cons (k_ask mA.1 mA.2) (ink_cons (k_deed mD.1 mD.2) (ink_nil _ _))) rfl
  rcases List.mem_cons.mp hr with rfl | hr
  · exact pk (wd := .often) (List.mem_of_getElem? (i := 1) rfl) (ink_cons (k_deed mD.1 mD.2) (ink_nil _ _)) rfl
  rcases List.mem_cons.mp hr with rfl | hr
  · exact pk (wd := .within) (List.mem_of_getElem? (i := 2) rfl) (ink_cons (k_ask mA.1 mA.2) (ink_cons (k_deed mD.1 mD.2) (ink_cons (k_ticks mN.1 mN.2) (ink_nil _ _)))) rfl
  rcases List.mem_cons.mp hr with rfl | hr
  · exact pk (wd := .never) (List.mem_of_getElem? (i := 3) rfl) (ink_cons (k_deed mD.1 mD.2) (ink_cons (k_deed mB.1 mB.2) (ink_nil _ _))) rfl
  rcases List.mem_cons.mp hr with rfl | hr
  · exact pk (wd := .not_) (List.mem_of_getElem? (i := 4) rfl) (ink_cons (k_ask mA.1 mA.2) (ink_cons (k_deed mD.1 mD.2) (ink_nil _ _))) rfl
  rcases List.mem_cons.mp hr with rfl | hr
  · exact pk (wd := .only) (List.mem_of_getElem? (i := 5) rfl) (ink_cons (k_ask mA.1 mA.2) (ink_cons (k_deed mD.1 mD.2) (ink_nil _ _))) rfl
  rcases List.mem_cons.mp hr with rfl | hr
  · exact pk (wd := .hope) (List.mem_of_getElem? (i := 6) rfl) (ink_cons (k_ask mA.1 mA.2) (ink_nil _ _)) rfl
  rcases List.mem_cons.mp hr with rfl | hr
  · exact pk (wd := .calm) (List.mem_of_getElem? (i := 7) rfl) (ink_cons (k_ask mA.1 mA.2) (ink_nil _ _)) rfl
  cases hr
def rTk : Rel Tk := fun H p v => ∃ t, v = .ref t ∧ H t = some (.tup [.int p.1, .int p.2])
theorem mono_tk : MonoR rTk := ⟨fun _ _ _ _ s h => by
  obtain ⟨t, e, h⟩ := h
  exact ⟨t, e, s _ _ h⟩⟩
theorem cut_len (xs : List V) (a b : Option Int) : (cutV xs a b).length ≤ xs.length := by
  unfold cutV
  refine Nat.le_trans (List.length_take_le' _ _) ?_
  simp
def spTicks (K : PySem.W.Frag) : Sp := fun vs H Q _ => ∃ (a : Addr) (ns : List Int) (x y : Int), vs = [.ref a, .int x, .int y] ∧ SqL K H a (ns.map V.int) ∧ ns.length ≤ 63 ∧ CntOk x ∧ CntOk y ∧ ∀ (p : Addr) (us : List V) (ts : List Tk) (H' : Hp), Same H H' → H' p = some (.lst us) → Paired (rTk H') ts us → ts.length ≤ 83 → Q (.ref p) H'
theorem ok_ticks (F : DefAt K mg "_law_ticks" s_law_ticks ["_law_script", "_law_asks", "_law_deeds"]) (T : Txt mg) (D_law_cell_at : Dn P w K mg base "_law_cell_at" 1 ["_law_script", "_law_k"] (spCell K)) : Dn P w K mg base "_law_ticks" 2 ["_law_script", "_law_asks", "_law_deeds"] (spTicks K) := by
  have sc := sc_law_ticks
  refine F.ok sc (fun vs H Q E h => ?_) (fun f cdv A outer s H vs Q E hr h => ?_)
  · obtain ⟨_, _, _, _, rfl, _⟩ := h; rfl
  obtain ⟨a, ns, x, y, rfl, hS, h63, hx, hy, q⟩ := h
  obtain ⟨x1, x3⟩ := hx
  obtain ⟨y1, y3⟩ := hy
  have pw : ∀ z : Int, 0 < 1 * (2 : Int) ^ z.toNat := fun z => by rw [Int.one_mul]; exact Int.pow_pos (by decide)
  refine ⟨_, (pss_cons (ps_set (i := 3) sc.nd rfl (Or.inl rfl) (pe_callB (clLen (K := K) rfl) rfl T.b_len PySem.boot_len (pa_cons (pe_slice (slL (K := K) rfl) (pv 0) po_none (po_some pe_int)) pa_nil)))
      (pss_cons (ps_set (i := 4) sc.nd rfl (Or.inl rfl) (pe_op op_fdiv (pe_dn D_law_cell_at hr (pa_cons (pv 0) (pa_cons pe_int pa_nil))) pe_int))
      (pss_cut (ps_if (pt_cmpR op_eq (pe_op op_mod (pv 4) pe_int) pe_int (nomark _))
      (pss_one (ps_set (i := 3) sc.nd rfl (Or.inl rfl) (pe_op op_add (pv 3) pe_int)))
      pss_nil)
      (pss_cons (ps_set (i := 5) sc.nd rfl (Or.inl rfl) (pe_lst pa_nil))
      (pss_cons (ps_for PassesOwn.never rfl (pi_range1 rfl T.b_range (pa_cons (pv 3) pa_nil)) (pg_name (i := 6) sc.nd rfl (Or.inl rfl))
      (pss_cons (ps_set (i := 7) sc.nd rfl (Or.inl rfl) (pe_dn D_law_cell_at hr (pa_cons (pv 0) (pa_cons (pv 6) pa_nil))))
      (pss_cons (ps_set (i := 8) sc.nd rfl (Or.inl rfl) (pe_op op_mod (pv 7) pe_int))
      (pss_cons (ps_set (i := 9) sc.nd rfl (Or.inl rfl) (pe_op op_mod (pe_op op_fdiv (pv 7) pe_int) pe_int))
      (pss_cut (ps_if (pt_cmpR op_eq (pe_op op_mod (pe_op op_fdiv (pv 4) pe_int) pe_int) pe_int (nomark _))
      (pss_one (ps_set (i := 9) sc.nd rfl (Or.inl rfl) (pe_op op_and (pe_op op_and (pv 9) (pe_op op_fdiv (pv 7) pe_int)) (pe_op op_fdiv (pv 7) pe_int))))
      pss_nil)
      (pss_cut (ps_if (pt_cmpR op_eq (pe_op op_mod (pe_op op_fdiv (pv 4) pe_int) pe_int) pe_int (nomark _))
      (pss_one (ps_set (i := 8) sc.nd rfl (Or.inl rfl) (pe_op op_and (pe_op op_and (pv 8) (pe_op op_fdiv (pv 7) pe_int)) (pe_op op_fdiv (pv 7) pe_int))))
      pss_nil)
      (pss_one (ps_expr (pe_bm PySem.F.plainAttrs_list PySem.F.slot_list_append PySem.F.type_list_append mt_append (pv 5) (pa_cons (pe_tup (pa_cons (pe_op op_mod (pv 8) (pe_op op_shl pe_int (pv 1))) (pa_cons (pe_op op_mod (pv 9) (pe_op op_shl pe_int (pv 2))) pa_nil))) pa_nil))))))))))
      (pss_one (ps_ret (pv 5)))))))), ?_⟩
  refine ⟨_, rfl, 63, rfl, a, _, rfl, hS, fun p0 hp0 => ?_⟩
  have hc0 : (cutV (ns.map V.int) none (some 63)).length ≤ 63 := Nat.le_trans (cut_len _ _ _) (by rw [List.length_map]; exact h63)
  have s0 := same_upd hp0 (.lst (cutV (ns.map V.int) none (some 63)))
  have k0 : upd H p0 (.lst (cutV (ns.map V.int) none (some 63))) p0 = some (.lst (cutV (ns.map V.int) none (some 63))) := upd_same
  generalize upd H p0 (.lst (cutV (ns.map V.int) none (some 63))) = H0 at s0 k0 ⊢
  generalize cutV (ns.map V.int) none (some 63) = cs at hc0 k0 ⊢
  refine ⟨p0, _, rfl, .inl (SqL.of k0), ?_⟩
  refine ⟨_, rfl, a, ns, 0, rfl, s0.seq hS, h63, by decide, by decide, fun c _ _ => ?_⟩
  refine ⟨_, _, rfl, rfl, ⟨by decide, by decide⟩, ?_⟩
  refine ⟨fun σ' H1 => ∃ m : Int, σ' = [some (.ref a), some (.int x), some (.int y), some (.int m), some (.int (c / 6000)), none, none, none, none, none] ∧ H1 = H0 ∧ 0 ≤ m ∧ m ≤ 83, ?_, ?_⟩
  · refine ⟨_, rfl, _, _, rfl, rfl, (show (0 : Int) < 2 by decide), rfl, _, rfl, ?_⟩
    refine ite2 (fun _ => ?_) (fun _ => ?_)
    · exact ⟨_, rfl, _, _, rfl, rfl, _, rfl, rfl, by omega, by omega⟩
    · exact ⟨_, rfl, rfl, by omega, by omega⟩
  rintro σ' H1 ⟨m, rfl, rfl, m0, m83⟩
  refine ⟨(by show 0 ≤ sizeLine; decide), fun l hl => ?_⟩
  have s1 := same_upd hl (.lst [])
  have hl0 := s0.free hl
  have kl : upd H1 l (.lst []) l = some (.lst []) := upd_same
  replace s1 := s0.trans s1
  generalize upd H1 l (.lst []) = H2 at s1 kl ⊢
  refine ⟨_, rfl, m, rfl, by omega, by omega, for_range (lo := 0) (n := m.toNat) (fun i σ H3 => ∃ (us : List V) (ts : List Tk) (z6 z7 z8 z9 : Option V), σ = [some (.ref a), some (.int x), some (.int y), some (.int m), some (.int (c / 6000)), some (.ref l), z6, z7, z8, z9] ∧ Same H H3 ∧ H3 l = some (.lst us) ∧ Paired (rTk (L2.del H3 l)) ts us ∧ ts.length = i ∧ us.length = i)
    ⟨[], [], _, _, _, _, rfl, s1, kl, .nil, rfl, rfl⟩ (fun i σ H3 hi h => ?_) (fun σ H3 h => ?_)⟩
  · obtain ⟨us, ts, z6, z7, z8, z9, rfl, s3, k3, pr, tl, ul⟩ := h
    refine ⟨_, rfl, _, rfl, a, ns, _, rfl, s3.seq hS, h63, (by omega), (by omega), fun n _ _ => ?_⟩
    refine ⟨_, rfl, _, _, rfl, rfl, (show (0 : Int) < 8 by decide), ?_⟩
    refine ⟨_, rfl, _, _, rfl, rfl, ⟨by decide, by decide⟩, _, _, rfl, rfl, (show (0 : Int) < 8 by decide), ?_⟩
    refine ⟨fun σ' H4 => ∃ v : Int, σ' = [some (.ref a), some (.int x), some (.int y), some (.int m), some (.int (c / 6000)), some (.ref l), some (.int (0 + (i : Int))), some (.int n), some (.int (n % 8)), some (.int v)] ∧ H4 = H3, ?_, ?_⟩
    · refine ⟨_, rfl, _, _, rfl, rfl, ⟨by decide, by decide⟩, _, _, rfl, rfl, (show (0 : Int) < 3 by decide), rfl, _, rfl, ?_⟩
      refine ite2 (fun _ => ?_) (fun _ => ?_)
      · exact ⟨_, rfl, _, rfl, _, _, rfl, rfl, ⟨by decide, by decide⟩, _, _, rfl, rfl, _, rfl, _, _, rfl, rfl, ⟨by decide, by decide⟩, _, _, rfl, rfl, _, rfl, rfl⟩
      · exact ⟨_, rfl, rfl⟩
    rintro σ' H4 ⟨v, rfl, rfl⟩
    refine ⟨fun σ' H5 => ∃ u : Int, σ' = [some (.ref a), some (.int x), some (.int y), some (.int m), some (.int (c / 6000)), some (.ref l), some (.int (0 + (i : Int))), some (.int n), some (.int u), some (.int v)] ∧ H5 = H4, ?_, ?_⟩
    · refine ⟨_, rfl, _, _, rfl, rfl, ⟨by decide, by decide⟩, _, _, rfl, rfl, (show (0 : Int) < 3 by decide), rfl, _, rfl, ?_⟩
      refine ite2 (fun _ => ?_) (fun _ => ?_)
      · exact ⟨_, rfl, _, rfl, _, _, rfl, rfl, ⟨by decide, by decide⟩, _, _, rfl, rfl, _, rfl, _, _, rfl, rfl, ⟨by decide, by decide⟩, _, _, rfl, rfl, _, rfl, rfl⟩
      · exact ⟨_, rfl, rfl⟩
    rintro σ' H5 ⟨u, rfl, rfl⟩
    refine ⟨_, rfl, .inl ⟨rfl, _, SqL.of k3⟩, _, rfl, _, rfl, _, _, rfl, rfl, ⟨by omega, by omega, by decide⟩, _, _, rfl, rfl, pw x, _, rfl, _, rfl, _, _, rfl, rfl, ⟨by omega, by omega, by decide⟩, _, _, rfl, rfl, pw y, (by show 2 ≤ sizeLine; decide), fun t ht => ?_⟩
    have ntl : t ≠ l := fun z => by rw [z, k3] at ht; cases ht
    have s5 := same_upd ht (.tup [.int (u % (1 * 2 ^ x.toNat)), .int (v % (1 * 2 ^ y.toNat))])
    have kt : upd H5 t (.tup [.int (u % (1 * 2 ^ x.toNat)), .int (v % (1 * 2 ^ y.toNat))]) t = some (.tup [.int (u % (1 * 2 ^ x.toNat)), .int (v % (1 * 2 ^ y.toNat))]) := upd_same
    generalize upd H5 t (.tup [.int (u % (1 * 2 ^ x.toNat)), .int (v % (1 * 2 ^ y.toNat))]) = H6 at s5 kt ⊢
    refine ⟨l, us, .ref t, rfl, rfl, s5 _ _ k3, Nat.lt_of_lt_of_le (show us.length < 1000 by omega) (small (m := 1000) (Nat.le_refl _)), us ++ [.ref t], ts ++ [(u % (1 * 2 ^ x.toNat), v % (1 * 2 ^ y.toNat))], _, _, _, _, rfl, (s3.trans s5).put hl0 _, upd_same, ?_, by simp; omega, by simp; omega⟩
    rw [del_upd]
    refine L2.Paired.app (paired_mono mono_tk (fun b o e => ?_) pr) (.cons ⟨t, rfl, by rw [del_at ntl]; exact kt⟩ .nil)
    have nb : b ≠ l := fun z => by unfold L2.del at e; rw [if_pos z] at e; cases e
    rw [del_at nb] at e ⊢
    exact s5 _ _ e
  obtain ⟨us, ts, z6, z7, z8, z9, rfl, s3, k3, pr, tl, ul⟩ := h
  exact ⟨_, rfl, q l us ts H3 s3 k3 (paired_mono mono_tk (del_same _ _) pr) (by omega)⟩
theorem pl_len {α β : Type} {F : α → β → Prop} : ∀ {xs : List α} {ys : List β}, Paired F xs ys → xs.length = ys.length
  | _, _, .nil => rfl
  | _, _, .cons _ t => by rw [List.length_cons, List.length_cons, pl_len t]
theorem tk_at {H : Hp} {ts : List Tk} {us : List V} (pr : Paired (rTk H) ts us) {n : Nat} (h : n < ts.length) : ∃ t, atI us (n : Int) = some (.ref t) ∧ H t = some (.tup [.int (ts.getD n (0, 0)).1, .int (ts.getD n (0, 0)).2]) := by
  obtain ⟨v, hv, t, rfl, ht⟩ := L2.Paired.at pr (List.getElem?_eq_getElem h)
  refine ⟨t, atI_nat hv, ?_⟩
  rw [List.getD_eq_getElem?_getD, List.getElem?_eq_getElem h]; exact ht
def spLast : Sp := fun vs H Q _ => ∃ (l : Addr) (ts : List Tk) (us : List V) (d : Int) (n : Nat), vs = [.ref l, .int d, .int n] ∧ H l = some (.lst us) ∧ Paired (rTk H) ts us ∧ 0 ≤ d ∧ n ≤ ts.length ∧ Q (.int ((lastD d ts n : Int) - 1)) H
theorem ok_last (F : DefAt K mg "_law_last_done" s_law_last_done ["_law_ticks_here", "_law_d", "_law_end"]) (T : Txt mg) (D_law_bit : Dn P w K mg base "_law_bit" 1 ["_law_number", "_law_k"] spBit) : Dn P w K mg base "_law_last_done" 2 ["_law_ticks_here", "_law_d", "_law_end"] spLast := by
  have sc := sc_law_last_done
  refine F.ok sc (fun vs H Q E h => ?_) (fun f cdv A outer s H vs Q E hr h => ?_)
  · obtain ⟨_, _, _, _, _, rfl, _⟩ := h; rfl
  obtain ⟨l, ts, us, d, n, rfl, hl, pr, d0, hn, q⟩ := h
  refine ⟨_, (pss_cons (ps_set (i := 3) sc.nd rfl (Or.inl rfl) (pe_op op_sub (pv 2) pe_int))
      (pss_cons (ps_while PassesOwn.never (PW.pt (pw_and (pt_cmpR op_ge (pv 3) pe_int (nomark _)) (pw_and1 (pt_not (pt_val (pe_dn D_law_bit hr (pa_cons (pe_ix (ixT (K := K) rfl) (pe_ix (ixL (K := K) rfl) (pv 0) (pv 3) (fun _ _ => rfl)) pe_int (fun _ _ => rfl)) (pa_cons (pv 1) pa_nil))))))))
      (pss_one (ps_set (i := 3) sc.nd rfl (Or.inl rfl) (pe_op op_sub (pv 3) pe_int))))
      (pss_one (ps_ret (pv 3))))), ?_⟩
  refine ⟨_, rfl, _, _, rfl, rfl, ?_⟩
  refine ⟨fun m σ H' => σ = [some (.ref l), some (.int d), some (.int n), some (.int ((m : Int) - 1))] ∧ H' = H ∧ lastD d ts m = lastD d ts n ∧ m ≤ ts.length, ⟨n, rfl, rfl, rfl, hn⟩, ?_⟩
  rintro m σ H' ⟨rfl, rfl, e, hm⟩
  refine ⟨_, rfl, _, _, rfl, rfl, _, rfl, ?_⟩
  cases m with
  | zero =>
    refine ite2 (fun c => ?_) (fun _ => ?_)
    · have := of_decide_eq_true c; omega
    refine iteF ?_
    refine ⟨_, rfl, ?_⟩
    rw [← e] at q; exact q
  | succ m =>
    have e1 : ((m + 1 : Nat) : Int) - 1 = m := by omega
    obtain ⟨t, h1, h2⟩ := tk_at pr (n := m) (by omega)
    refine ite2 (fun _ => ?_) (fun c => ?_)
    · refine ⟨_, rfl, _, rfl, l, _, _, _, rfl, rfl, SqL.of hl, (by rw [e1]; exact h1), t, _, _, _, rfl, rfl, SqT.of h2, atI_nat (j := 1) rfl, _, rfl, _, _, rfl, d0, _, rfl, ?_⟩
      replace e : (if bit (ts.getD m (0, 0)).2 d = true then m + 1 else lastD d ts m) = lastD d ts n := e
      refine ite2 (fun c => ?_) (fun c => ?_)
      · have c' : ¬ bit (ts.getD m (0, 0)).2 d = true := by simpa using c
        rw [if_neg c'] at e
        refine ⟨fun σ' H1 => σ' = [some (.ref l), some (.int d), some (.int n), some (.int (((m + 1 : Nat) : Int) - 1 - 1))] ∧ H1 = H', fun σ' H1 h => ?_, ⟨_, rfl, _, _, rfl, rfl, rfl, rfl⟩⟩
        obtain ⟨rfl, rfl⟩ := h
        exact ⟨m, Nat.lt_succ_self m, by rw [e1], rfl, e, by omega⟩
      · have c' : bit (ts.getD m (0, 0)).2 d = true := by simpa using c
        rw [if_pos c'] at e
        refine ⟨_, rfl, ?_⟩
        rw [← e] at q; exact q
    · exact absurd (decide_eq_true (show (0 : Int) ≤ ((m + 1 : Nat) : Int) - 1 by omega)) c
def nV (L : List Nat) : List V := L.map fun n : Nat => V.int (n : Int)
def spRaised : Sp := fun vs H Q _ => ∃ (l : Addr) (ts : List Tk) (us : List V) (a : Int) (n : Nat), vs = [.ref l, .int a, .int n] ∧ H l = some (.lst us) ∧ Paired (rTk H) ts us ∧ 0 ≤ a ∧ n ≤ ts.length ∧ ts.length ≤ 200 ∧ ∀ (p : Addr) (H' : Hp), Same H H' → H' p = some (.lst (nV (rsd a ts n))) → Q (.ref p) H'
theorem ok_raised (F : DefAt K mg "_law_raised" s_law_raised ["_law_ticks_here", "_law_a", "_law_start"]) (T : Txt mg) (D_law_bit : Dn P w K mg base "_law_bit" 1 ["_law_number", "_law_k"] spBit) : Dn P w K mg base "_law_raised" 2 ["_law_ticks_here", "_law_a", "_law_start"] spRaised := by
  have sc := sc_law_raised
  refine F.ok sc (fun vs H Q E h => ?_) (fun f cdv A outer s H vs Q E hr h => ?_)
  · obtain ⟨_, _, _, _, _, rfl, _⟩ := h; rfl
  obtain ⟨l, ts, us, a, n, rfl, hl, pr, a0, hn, h83, q⟩ := h
  have ul : us.length = ts.length := (pl_len pr).symm
  refine ⟨_, (pss_one (ps_ret (pe_lc (defScope s_law_raised) ["_law_ticks_here", "_law_a", "_law_start"] ["_law_t", "_law_ticks_here", "_law_a"] 1 [0, 1] (pi_range2 rfl T.b_range (pa_cons (pv 2) (pa_cons (pe_callB (clLen (K := K) rfl) rfl T.b_len PySem.boot_len (pa_cons (pv 0) pa_nil)) pa_nil))) (fun _ _ _ _ _ _ => (ptg_name (show List.Nodup (["_law_t", "_law_ticks_here", "_law_a"] : List Str) by decide +kernel) rfl rfl)) (fun _ _ _ _ _ _ => (pts_one (pt_val (pe_dn D_law_bit hr (pa_cons (pe_ix (ixT (K := K) rfl) (pe_ix (ixL (K := K) rfl) (pv 1) (pv 0) (fun _ _ => rfl)) pe_int (fun _ _ => rfl)) (pa_cons (pv 2) pa_nil)))))) (fun _ _ _ _ _ _ => (pv 0))))), ?_⟩
  have eN : (((us.length : Nat) : Int) - (n : Int)).toNat = ts.length - n := by rw [ul]; omega
  refine ⟨_, rfl, _, rfl, l, _, rfl, .inl (SqL.of hl), _, _, rfl, ⟨by omega, by omega, by omega, by omega⟩, comp_rangeD (lo := (n : Int)) (n := (((us.length : Nat) : Int) - (n : Int)).toNat) (fun i ys H1 => H1 = H ∧ ys = nV ((List.range' n i).filter fun t => bit (ts.getD t (0, 0)).1 a)) ⟨rfl, rfl⟩ (small (m := 1000) (by omega)) (fun i ys H1 _ h => ?_) (fun i ys H1 hi h => ?_) (fun ys H1 h la hla => ?_)⟩
  · obtain ⟨rfl, rfl⟩ := h
    unfold nV
    rw [List.length_map]
    exact Nat.le_trans (List.length_filter_le _ _) (by simp)
  · obtain ⟨rfl, rfl⟩ := h
    rw [eN] at hi
    obtain ⟨t, h1, h2⟩ := tk_at pr (n := n + i) (by omega)
    have e1 : ((n : Nat) : Int) + ((i : Nat) : Int) = ((n + i : Nat) : Int) := by omega
    have add : nV ((List.range' n (i + 1)).filter fun t => bit (ts.getD t (0, 0)).1 a) = nV ((List.range' n i).filter fun t => bit (ts.getD t (0, 0)).1 a) ++ if bit (ts.getD (n + i) (0, 0)).1 a = true then [V.int ((n + i : Nat) : Int)] else [] := by
      unfold nV
      rw [List.range'_concat, List.filter_append, List.map_append, Nat.one_mul, List.filter_cons]
      congr 1
      split <;> rfl
    refine ⟨_, rfl, _, rfl, l, _, _, _, rfl, rfl, SqL.of hl, (by rw [e1]; exact h1), t, _, _, _, rfl, rfl, SqT.of h2, atI_nat (j := 0) rfl, _, rfl, _, _, rfl, a0, _, rfl, ?_⟩
    refine ite2 (fun c => ?_) (fun c => ?_)
    · refine ⟨_, rfl, rfl, ?_⟩
      rw [add, if_pos c, e1]
    · refine ⟨rfl, ?_⟩
      rw [add, if_neg c, List.append_nil]
  obtain ⟨rfl, rfl⟩ := h
  rw [eN]
  exact q la _ (same_upd hla _) upd_same
theorem w_at {s : Str} {xs : List Int} {j : Nat} (h : j < xs.length) : atI (wv (s, xs)) ((j + 1 : Nat) : Int) = some (.int (xs.getD j 0)) := by
  refine atI_nat ?_
  show (xs.map V.int)[j]? = _
  rw [List.getElem?_map, List.getElem?_eq_getElem h, List.getD_eq_getElem?_getD, List.getElem?_eq_getElem h]; rfl
theorem nV_emp (L : List Nat) : (nV L).isEmpty = L.isEmpty := by cases L <;> rfl
structure Tks (H : Hp) (l : Addr) (ts : List Tk) (us : List V) : Prop where
  hl : H l = some (.lst us)
  pr : Paired (rTk H) ts us
  few : ts.length ≤ 200
theorem Tks.up {H H' : Hp} {l : Addr} {ts : List Tk} {us : List V} (t : Tks H l ts us) (s : Same H H') : Tks H' l ts us := ⟨s _ _ t.hl, paired_mono mono_tk s t.pr, t.few⟩
theorem Tks.len {H : Hp} {l : Addr} {ts : List Tk} {us : List V} (t : Tks H l ts us) : us.length = ts.length := (pl_len t.pr).symm
def spWithinL : Sp := fun vs H Q _ => ∃ (l wt : Addr) (ts : List Tk) (us : List V) (s : Str) (xs : List Int), vs = [.ref l, .ref wt] ∧ Tks H l ts us ∧ H wt = some (.tup (wv (s, xs))) ∧ xs.length = 3 ∧ (∀ y ∈ xs, 0 ≤ y) ∧ ∀ H', Same H H' → Q (oV (dueW xs ts)) H'
theorem ok_withinL (F : DefAt K mg "_law_within" s_law_within ["_law_ticks_here", "_law_wish"]) (T : Txt mg) (D_law_last_done : Dn P w K mg base "_law_last_done" 2 ["_law_ticks_here", "_law_d", "_law_end"] spLast) (D_law_raised : Dn P w K mg base "_law_raised" 2 ["_law_ticks_here", "_law_a", "_law_start"] spRaised) : Dn P w K mg base "_law_within" 3 ["_law_ticks_here", "_law_wish"] spWithinL := by
  have sc := sc_law_within
  refine F.ok sc (fun vs H Q E h => ?_) (fun f cdv A outer s H vs Q E hr h => ?_)
  · obtain ⟨_, _, _, _, _, _, rfl, _⟩ := h; rfl
  obtain ⟨l, wt, ts, us, sw, xs, rfl, tk, hw, hx, hn, q⟩ := h
  refine ⟨_, (pss_cons (ps_set (i := 2) sc.nd rfl (Or.inl rfl) (pe_dn D_law_raised hr (pa_cons (pv 0) (pa_cons (pe_ix (ixT (K := K) rfl) (pv 1) pe_int (fun _ _ => rfl)) (pa_cons (pe_op op_add (pe_dn D_law_last_done hr (pa_cons (pv 0) (pa_cons (pe_ix (ixT (K := K) rfl) (pv 1) pe_int (fun _ _ => rfl)) (pa_cons (pe_callB (clLen (K := K) rfl) rfl T.b_len PySem.boot_len (pa_cons (pv 0) pa_nil)) pa_nil)))) pe_int) pa_nil)))))
      (pss_cons (ps_if (pt_cmpR (op_eqE (K := K) rfl (hu_n hr 1)) (pv 2) (pe_lst pa_nil) (nomark _))
      (pss_one (ps_ret pe_int))
      pss_nil)
      (pss_cons (ps_set (i := 3) sc.nd rfl (Or.inl rfl) (pe_op op_sub (pe_ix (ixT (K := K) rfl) (pv 1) pe_int (fun _ _ => rfl)) (pe_op op_sub (pe_op op_sub (pe_callB (clLen (K := K) rfl) rfl T.b_len PySem.boot_len (pa_cons (pv 0) pa_nil)) pe_int) (pe_ix (ixL (K := K) rfl) (pv 2) pe_int (fun _ _ => rfl)))))
      (pss_cons (ps_if (pt_cmpR op_le (pv 3) pe_int (nomark _))
      (pss_one (ps_ret pe_non))
      pss_nil)
      (pss_one (ps_ret (pv 3))))))), ?_⟩
  refine ⟨_, rfl, _, rfl, wt, _, _, _, rfl, rfl, SqT.of hw, w_at (j := 0) (by omega), _, rfl, _, rfl, wt, _, _, _, rfl, rfl, SqT.of hw, w_at (j := 1) (by omega), _, rfl, l, _, rfl, .inl (SqL.of tk.hl), l, ts, us, xs.getD 1 0, ts.length, congrArg (fun z : Int => [V.ref l, V.int (xs.getD 1 0), V.int z]) (show ((us.length : Nat) : Int) = (ts.length : Int) by rw [tk.len]), tk.hl, tk.pr, xs_nn hn, Nat.le_refl _, _, _, rfl, rfl, l, ts, us, xs.getD 0 0, lastD (xs.getD 1 0) ts ts.length, congrArg (fun z : Int => [V.ref l, V.int (xs.getD 0 0), V.int z]) (Int.sub_add_cancel _ 1), tk.hl, tk.pr, xs_nn hn, lastD_le _ _ _, tk.few, fun p H1 s1 hp => ?_⟩
  replace hp : H1 p = some (.lst (nV (opn (xs.getD 0 0) (xs.getD 1 0) ts))) := hp
  unfold dueW at q
  refine ⟨_, rfl, (by show 0 ≤ sizeLine; decide), fun b hb => ?_⟩
  have s2 := same_upd hb (.lst [])
  refine ⟨p, b, _, rfl, rfl, SqL.of (s2 _ _ hp), SqL.of upd_same, _, rfl, ?_⟩
  replace s2 := s1.trans s2
  generalize hLe : opn (xs.getD 0 0) (xs.getD 1 0) ts = L at hp q ⊢
  replace hp := same_upd hb (.lst []) _ _ hp
  generalize upd H1 b (.lst []) = H2 at s2 hp ⊢
  cases L with
  | nil => exact iteT (q _ s2)
  | cons g r =>
    refine iteF ?_
    refine ⟨_, rfl, wt, _, _, _, rfl, rfl, SqT.of (s2 _ _ hw), w_at (j := 2) (by omega), _, rfl, l, _, rfl, .inl (SqL.of (tk.up s2).hl), _, _, rfl, rfl, _, rfl, p, _, _, _, rfl, rfl, SqL.of hp, atI_nat (j := 0) rfl, _, _, rfl, rfl, _, _, rfl, rfl, ?_⟩
    replace q : ∀ H', Same H H' → Q (oV (if xs.getD 2 0 - ((ts.length : Int) - 1 - (g : Int)) ≤ 0 then none else some (xs.getD 2 0 - ((ts.length : Int) - 1 - (g : Int))))) H' := q
    rw [tk.len]
    refine ⟨_, rfl, _, _, rfl, rfl, _, rfl, ?_⟩
    refine ite2 (fun c => ?_) (fun c => ?_)
    · rw [if_pos (of_decide_eq_true c)] at q; exact q _ s2
    · rw [if_neg (fun z => c (decide_eq_true z))] at q; exact ⟨_, rfl, q _ s2⟩
def spDueL (ok : Wd → Prop) : Sp := fun vs H Q _ => ∃ (l wt : Addr) (ts : List Tk) (p : Tk) (us : List V) (k : Wd) (xs : List Int), vs = [.ref l, .ref wt] ∧ Tks H l (ts ++ [p]) us ∧ H wt = some (.tup (wv (k.s, xs))) ∧ ok k ∧ xs.length = k.m ∧ (∀ y ∈ xs, 0 ≤ y) ∧ ∀ H', Same H H' → Q (oV (dueQ k xs ts p)) H'
theorem ok_onlyL (F : DefAt K mg "_law_only" s_law_only ["_law_ticks_here", "_law_wish"]) (T : Txt mg) (D_law_bit : Dn P w K mg base "_law_bit" 1 ["_law_number", "_law_k"] spBit) (D_law_last_done : Dn P w K mg base "_law_last_done" 2 ["_law_ticks_here", "_law_d", "_law_end"] spLast) (D_law_raised : Dn P w K mg base "_law_raised" 2 ["_law_ticks_here", "_law_a", "_law_start"] spRaised) : Dn P w K mg base "_law_only" 3 ["_law_ticks_here", "_law_wish"] (spDueL fun k => k = .only) := by
  have sc := sc_law_only
  refine F.ok sc (fun vs H Q E h => ?_) (fun f cdv A outer s H vs Q E hr h => ?_)
  · obtain ⟨_, _, _, _, _, _, _, rfl, _⟩ := h; rfl
  obtain ⟨l, wt, ts, p, us, k, xs, rfl, tk, hw, rfl, hx, hn, q⟩ := h
  replace hx : xs.length = 2 := hx
  have le1 : (ts ++ [p]).length = ts.length + 1 := by simp
  have el : ((us.length : Nat) : Int) - 1 = (ts.length : Int) := by rw [tk.len, le1]; omega
  refine ⟨_, (pss_cons (ps_set (i := 2) sc.nd rfl (Or.inl rfl) (pe_op op_sub (pe_callB (clLen (K := K) rfl) rfl T.b_len PySem.boot_len (pa_cons (pv 0) pa_nil)) pe_int))
      (pss_cons (ps_set (i := 3) sc.nd rfl (Or.inl rfl) (pe_dn D_law_last_done hr (pa_cons (pv 0) (pa_cons (pe_ix (ixT (K := K) rfl) (pv 1) pe_int (fun _ _ => rfl)) (pa_cons (pv 2) pa_nil)))))
      (pss_cons (ps_set (i := 4) sc.nd rfl (Or.inl rfl) (pe_dn D_law_raised hr (pa_cons (pv 0) (pa_cons (pe_ix (ixT (K := K) rfl) (pv 1) pe_int (fun _ _ => rfl)) (pa_cons (pe_op op_add (pv 3) pe_int) pa_nil)))))
      (pss_cons (ps_if (pt_not (pt_val (pe_dn D_law_bit hr (pa_cons (pe_ix (ixT (K := K) rfl) (pe_ix (ixL (K := K) rfl) (pv 0) (pv 2) (fun _ _ => rfl)) pe_int (fun _ _ => rfl)) (pa_cons (pe_ix (ixT (K := K) rfl) (pv 1) pe_int (fun _ _ => rfl)) pa_nil)))))
      (pss_one (ps_ret (pe_callTy call_int1 rfl T.b_int PyProof.Rows.boot_int (pa_cons (pe_cmpR (op_neE (K := K) rfl (hu_n hr 1)) (pv 4) (pe_lst pa_nil) (nomark _)) pa_nil))))
      pss_nil)
      (pss_cons (ps_if (pt_cmpR (op_eqE (K := K) rfl (hu_n hr 1)) (pv 4) (pe_lst pa_nil) (nomark _))
      (pss_one (ps_ret pe_non))
      pss_nil)
      (pss_one (ps_ret pe_int))))))), ?_⟩
  refine ⟨_, rfl, l, _, rfl, .inl (SqL.of tk.hl), _, _, rfl, rfl, ?_⟩
  refine ⟨_, rfl, _, rfl, wt, _, _, _, rfl, rfl, SqT.of hw, w_at (j := 1) (by omega), _, rfl, l, ts ++ [p], us, xs.getD 1 0, ts.length, congrArg (fun z : Int => [V.ref l, V.int (xs.getD 1 0), V.int z]) el, tk.hl, tk.pr, xs_nn hn, (by omega), ?_⟩
  refine ⟨_, rfl, _, rfl, wt, _, _, _, rfl, rfl, SqT.of hw, w_at (j := 0) (by omega), _, rfl, _, _, rfl, rfl, l, ts ++ [p], us, xs.getD 0 0, lastD (xs.getD 1 0) (ts ++ [p]) ts.length, congrArg (fun z : Int => [V.ref l, V.int (xs.getD 0 0), V.int z]) (Int.sub_add_cancel _ 1), tk.hl, tk.pr, xs_nn hn, Nat.le_trans (lastD_le _ _ _) (by omega), tk.few, fun rp H1 s1 hp => ?_⟩
  replace hp : H1 rp = some (.lst (nV (onlyR xs ts p))) := hp
  obtain ⟨t, h1, h2⟩ := tk_at (tk.up s1).pr (n := ts.length) (by omega)
  rw [getD_end] at h2
  replace q : ∀ H', Same H H' → Q (oV (if bit p.2 (xs.getD 1 0) = true then (if (onlyR xs ts p).isEmpty = true then none else some 0) else some (b01 (!(onlyR xs ts p).isEmpty)))) H' := q
  refine ⟨_, rfl, _, rfl, l, _, _, _, rfl, rfl, SqL.of (tk.up s1).hl, (by rw [el]; exact h1), t, _, _, _, rfl, rfl, SqT.of h2, atI_nat (j := 1) rfl, _, rfl, wt, _, _, _, rfl, rfl, SqT.of (s1 _ _ hw), w_at (j := 1) (by omega), _, _, rfl, xs_nn hn, _, rfl, ?_⟩
  refine ite2 (fun c => ?_) (fun c => ?_)
  · have c' : ¬ bit p.2 (xs.getD 1 0) = true := by simpa using c
    rw [if_neg c'] at q
    refine ⟨_, rfl, (by show 0 ≤ sizeLine; decide), fun b hb => ?_⟩
    have s2 := same_upd hb (.lst [])
    refine ⟨rp, b, _, rfl, rfl, SqL.of (s2 _ _ hp), SqL.of upd_same, .inr ⟨_, rfl, ?_⟩⟩
    rw [nV_emp]
    exact q _ (s1.trans s2)
  · have c' : bit p.2 (xs.getD 1 0) = true := by simpa using c
    rw [if_pos c'] at q
    refine ⟨_, rfl, (by show 0 ≤ sizeLine; decide), fun b hb => ?_⟩
    have s2 := same_upd hb (.lst [])
    refine ⟨rp, b, _, rfl, rfl, SqL.of (s2 _ _ hp), SqL.of upd_same, _, rfl, ?_⟩
    rw [nV_emp]
    refine ite2 (fun c => ?_) (fun c => ?_)
    · rw [if_pos c] at q; exact q _ (s1.trans s2)
    · rw [if_neg c] at q; exact q _ (s1.trans s2)
theorem tk_last {H : Hp} {ts : List Tk} {p : Tk} {us : List V} (pr : Paired (rTk H) (ts ++ [p]) us) : ∃ t, atI us (-1) = some (.ref t) ∧ H t = some (.tup [.int p.1, .int p.2]) := by
  obtain ⟨v, hv, t, rfl, ht⟩ := L2.Paired.at pr (i := ts.length) (x := p) (by rw [List.getElem?_append_right (Nat.le_refl _), Nat.sub_self]; rfl)
  have hl : us.length = ts.length + 1 := by rw [← pl_len pr]; simp
  have e : us = us.take ts.length ++ [.ref t] := by
    have := List.take_append_drop ts.length us
    rw [← this]
    congr 1
    · rw [List.take_append_of_le_length (by simp; omega), List.take_take, Nat.min_self]
    · have hd : (us.drop ts.length).length = 1 := by simp; omega
      obtain ⟨z, hz⟩ := List.length_eq_one_iff.mp hd
      rw [hz]
      have : (us.drop ts.length)[0]? = some z := by rw [hz]; rfl
      rw [List.getElem?_drop, Nat.add_zero, hv] at this
      injection this with this
      rw [this]
  exact ⟨t, by rw [e]; exact atI_last _ _, ht⟩
theorem ok_barred (F : DefAt K mg "_law_barred" s_law_barred ["_law_ticks_here", "_law_wish"]) (T : Txt mg) (D_law_bit : Dn P w K mg base "_law_bit" 1 ["_law_number", "_law_k"] spBit) : Dn P w K mg base "_law_barred" 2 ["_law_ticks_here", "_law_wish"] (spDueL fun k => k = .never ∨ k = .not_) := by
  have sc := sc_law_barred
  refine F.ok sc (fun vs H Q E h => ?_) (fun f cdv A outer s H vs Q E hr h => ?_)
  · obtain ⟨_, _, _, _, _, _, _, rfl, _⟩ := h; rfl
  obtain ⟨l, wt, ts, p, us, k, xs, rfl, tk, hw, hk, hx, hn, q⟩ := h
  have hx2 : xs.length = 2 := by rcases hk with rfl | rfl <;> exact hx
  obtain ⟨t, h1, h2⟩ := tk_last tk.pr
  refine ⟨_, (pss_cons (ps_set (i := 2) sc.nd rfl (Or.inl rfl) (pe_ix (ixT (K := K) rfl) (pe_ix (ixL (K := K) rfl) (pv 0) (pe_un un_neg pe_int) (fun _ _ => rfl)) pe_int (fun _ _ => rfl)))
      (pss_cut (ps_if (pt_cmpR op_eq (pe_ix (ixT (K := K) rfl) (pv 1) pe_int (fun _ _ => rfl)) pe_str (nomark _))
      (pss_one (ps_set (i := 2) sc.nd rfl (Or.inl rfl) (pe_ix (ixT (K := K) rfl) (pe_ix (ixL (K := K) rfl) (pv 0) (pe_un un_neg pe_int) (fun _ _ => rfl)) pe_int (fun _ _ => rfl))))
      pss_nil)
      (pss_cons (ps_if (PW.pt (pw_and (pt_val (pe_dn D_law_bit hr (pa_cons (pv 2) (pa_cons (pe_ix (ixT (K := K) rfl) (pv 1) pe_int (fun _ _ => rfl)) pa_nil)))) (pw_and1 (pt_val (pe_dn D_law_bit hr (pa_cons (pe_ix (ixT (K := K) rfl) (pe_ix (ixL (K := K) rfl) (pv 0) (pe_un un_neg pe_int) (fun _ _ => rfl)) pe_int (fun _ _ => rfl)) (pa_cons (pe_ix (ixT (K := K) rfl) (pv 1) pe_int (fun _ _ => rfl)) pa_nil)))))))
      (pss_one (ps_ret pe_non))
      pss_nil)
      (pss_one (ps_ret pe_int))))), ?_⟩
  refine ⟨_, rfl, _, rfl, l, _, _, _, rfl, rfl, SqL.of tk.hl, h1, t, _, _, _, rfl, rfl, SqT.of h2, atI_nat (j := 0) rfl, ?_⟩
  obtain ⟨z, hz⟩ : ∃ z : Int, z = (if k.s = "never" then p.2 else p.1) := ⟨_, rfl⟩
  have hq : oV (dueQ k xs ts p) = oV (if bit z (xs.getD 0 0) = true ∧ bit p.2 (xs.getD 1 0) = true then none else some 0) := by
    rcases hk with rfl | rfl
    · rw [if_pos (show Wd.never.s = ("never" : Str) from rfl)] at hz; rw [hz]; rfl
    · rw [if_neg (show ¬ Wd.not_.s = ("never" : Str) by decide +kernel)] at hz; rw [hz]; rfl
  rw [hq] at q
  refine ⟨fun σ' H1 => σ' = [some (.ref l), some (.ref wt), some (.int z)] ∧ H1 = H, ?_, ?_⟩
  · refine ⟨_, rfl, wt, _, _, _, rfl, rfl, SqT.of hw, atI_nat (j := 0) rfl, rfl, _, rfl, ?_⟩
    refine ite2 (fun c => ?_) (fun c => ?_)
    · have e : k.s = "never" := by have := of_decide_eq_true c; injection this
      rw [if_pos e] at hz
      refine ⟨_, rfl, _, rfl, l, _, _, _, rfl, rfl, SqL.of tk.hl, h1, t, _, _, _, rfl, rfl, SqT.of h2, atI_nat (j := 1) rfl, ?_⟩
      rw [hz]; exact ⟨rfl, rfl⟩
    · have e : ¬ k.s = "never" := fun e => c (decide_eq_true (by rw [e]))
      rw [if_neg e] at hz
      rw [hz]; exact ⟨rfl, rfl⟩
  rintro σ' H1 ⟨rfl, rfl⟩
  refine ⟨_, rfl, _, rfl, wt, _, _, _, rfl, rfl, SqT.of hw, w_at (j := 0) (by omega), _, _, rfl, xs_nn hn, _, rfl, ?_⟩
  refine ite2 (fun c => ?_) (fun c => ?_)
  · refine ⟨_, rfl, _, rfl, l, _, _, _, rfl, rfl, SqL.of tk.hl, h1, t, _, _, _, rfl, rfl, SqT.of h2, atI_nat (j := 1) rfl, _, rfl, wt, _, _, _, rfl, rfl, SqT.of hw, w_at (j := 1) (by omega), _, _, rfl, xs_nn hn, _, rfl, ?_⟩
    refine ite2 (fun c2 => ?_) (fun c2 => ?_)
    · rw [if_pos ⟨c, c2⟩] at q; exact q _ (Same.refl _)
    · rw [if_neg fun h => c2 h.2] at q; exact q _ (Same.refl _)
  · refine iteF ?_
    rw [if_neg fun h => c h.1] at q; exact q _ (Same.refl _)
theorem w_word {s : Str} {xs : List Int} : atI (wv (s, xs)) ((0 : Nat) : Int) = some (.str s) := atI_nat rfl
theorem ok_due (F : DefAt K mg "_law_due" s_law_due ["_law_ticks_here", "_law_wish"]) (T : Txt mg) (D_law_bit : Dn P w K mg base "_law_bit" 1 ["_law_number", "_law_k"] spBit) (D_law_last_done : Dn P w K mg base "_law_last_done" 2 ["_law_ticks_here", "_law_d", "_law_end"] spLast) (D_law_raised : Dn P w K mg base "_law_raised" 2 ["_law_ticks_here", "_law_a", "_law_start"] spRaised) (D_law_within : Dn P w K mg base "_law_within" 3 ["_law_ticks_here", "_law_wish"] spWithinL) (D_law_only : Dn P w K mg base "_law_only" 3 ["_law_ticks_here", "_law_wish"] (spDueL fun k => k = .only)) (D_law_barred : Dn P w K mg base "_law_barred" 2 ["_law_ticks_here", "_law_wish"] (spDueL fun k => k = .never ∨ k = .not_)) : Dn P w K mg base "_law_due" 4 ["_law_ticks_here", "_law_wish"] (spDueL fun _ => True) := by
  have sc := sc_law_due
  refine F.ok sc (fun vs H Q E h => ?_) (fun f cdv A outer s H vs Q E hr h => ?_)
  · obtain ⟨_, _, _, _, _, _, _, rfl, _⟩ := h; rfl
  obtain ⟨l, wt, ts, p, us, k, xs, rfl, tk, hw, _, hx, hn, q⟩ := h
  obtain ⟨t, h1, h2⟩ := tk_last tk.pr
  refine ⟨_, (pss_cons (ps_set (i := 2) sc.nd rfl (Or.inl rfl) (pe_ix (ixT (K := K) rfl) (pv 1) pe_int (fun _ _ => rfl)))
      (pss_cons (ps_if (pt_cmpR op_eq (pv 2) pe_str (nomark _))
      (pss_cons (ps_set (i := 3) sc.nd rfl (Or.inl rfl) (pe_dn D_law_last_done hr (pa_cons (pv 0) (pa_cons (pe_ix (ixT (K := K) rfl) (pv 1) pe_int (fun _ _ => rfl)) (pa_cons (pe_callB (clLen (K := K) rfl) rfl T.b_len PySem.boot_len (pa_cons (pv 0) pa_nil)) pa_nil)))))
      (pss_one (ps_ret (pe_callTy call_int1 rfl T.b_int PyProof.Rows.boot_int (pa_cons (pe_cmpR (op_neE (K := K) rfl (hu_n hr 1)) (pe_dn D_law_raised hr (pa_cons (pv 0) (pa_cons (pe_ix (ixT (K := K) rfl) (pv 1) pe_int (fun _ _ => rfl)) (pa_cons (pe_op op_add (pv 3) pe_int) pa_nil)))) (pe_lst pa_nil) (nomark _)) pa_nil)))))
      pss_nil)
      (pss_cons (ps_if (pt_cmpR op_eq (pv 2) pe_str (nomark _))
      (pss_one (ps_ret (pe_callTy call_int1 rfl T.b_int PyProof.Rows.boot_int (pa_cons (pe_dn D_law_bit hr (pa_cons (pe_ix (ixT (K := K) rfl) (pe_ix (ixL (K := K) rfl) (pv 0) (pe_un un_neg pe_int) (fun _ _ => rfl)) pe_int (fun _ _ => rfl)) (pa_cons (pe_ix (ixT (K := K) rfl) (pv 1) pe_int (fun _ _ => rfl)) pa_nil))) pa_nil))))
      pss_nil)
      (pss_cons (ps_if (pt_cmpR op_eq (pv 2) pe_str (nomark _))
      (pss_one (ps_ret (pe_dn D_law_within hr (pa_cons (pv 0) (pa_cons (pv 1) pa_nil)))))
      pss_nil)
      (pss_cons (ps_if (pt_cmpR op_eq (pv 2) pe_str (nomark _))
      (pss_one (ps_ret (pe_dn D_law_only hr (pa_cons (pv 0) (pa_cons (pv 1) pa_nil)))))
      pss_nil)
      (pss_cons (ps_if (pt_cmpR op_eq (pv 2) pe_str (nomark _))
      (pss_one (ps_ret (pe_callTy call_int1 rfl T.b_int PyProof.Rows.boot_int (pa_cons (pe_dn D_law_bit hr (pa_cons (pe_ix (ixT (K := K) rfl) (pe_ix (ixL (K := K) rfl) (pv 0) (pe_un un_neg pe_int) (fun _ _ => rfl)) pe_int (fun _ _ => rfl)) (pa_cons (pe_ix (ixT (K := K) rfl) (pv 1) pe_int (fun _ _ => rfl)) pa_nil))) pa_nil))))
      pss_nil)
      (pss_cons (ps_if (pt_cmpR op_eq (pv 2) pe_str (nomark _))
      (pss_one (ps_ret (pe_op op_sub pe_int (pe_callTy call_int1 rfl T.b_int PyProof.Rows.boot_int (pa_cons (pe_dn D_law_bit hr (pa_cons (pe_ix (ixT (K := K) rfl) (pe_ix (ixL (K := K) rfl) (pv 0) (pe_un un_neg pe_int) (fun _ _ => rfl)) pe_int (fun _ _ => rfl)) (pa_cons (pe_ix (ixT (K := K) rfl) (pv 1) pe_int (fun _ _ => rfl)) pa_nil))) pa_nil)))))
      pss_nil)
      (pss_one (ps_ret (pe_dn D_law_barred hr (pa_cons (pv 0) (pa_cons (pv 1) pa_nil)))))))))))), ?_⟩
  refine ⟨_, rfl, wt, _, _, _, rfl, rfl, SqT.of hw, w_word, ?_⟩
  refine ⟨_, rfl, rfl, _, rfl, ?_⟩
  cases k with
  | answer =>
    replace hx : xs.length = 2 := hx
    refine ite2 (fun _ => ?_) (fun c => absurd (by decide +kernel) c)
    refine ⟨_, rfl, _, rfl, wt, _, _, _, rfl, rfl, SqT.of hw, w_at (j := 1) (by omega), _, rfl, l, _, rfl, .inl (SqL.of tk.hl), l, ts ++ [p], us, xs.getD 1 0, (ts ++ [p]).length, congrArg (fun z : Int => [V.ref l, V.int (xs.getD 1 0), V.int z]) (show ((us.length : Nat) : Int) = ((ts ++ [p]).length : Int) by rw [tk.len]), tk.hl, tk.pr, xs_nn hn, Nat.le_refl _, ?_⟩
    refine ⟨_, rfl, _, rfl, wt, _, _, _, rfl, rfl, SqT.of hw, w_at (j := 0) (by omega), _, rfl, _, _, rfl, rfl, l, ts ++ [p], us, xs.getD 0 0, lastD (xs.getD 1 0) (ts ++ [p]) (ts ++ [p]).length, congrArg (fun z : Int => [V.ref l, V.int (xs.getD 0 0), V.int z]) (Int.sub_add_cancel _ 1), tk.hl, tk.pr, xs_nn hn, lastD_le _ _ _, tk.few, fun rp H1 s1 hp => ?_⟩
    replace hp : H1 rp = some (.lst (nV (opn (xs.getD 0 0) (xs.getD 1 0) (ts ++ [p])))) := hp
    refine ⟨(by show 0 ≤ sizeLine; decide), fun b hb => ?_⟩
    have s2 := same_upd hb (.lst [])
    refine ⟨rp, b, _, rfl, rfl, SqL.of (s2 _ _ hp), SqL.of upd_same, .inr ⟨_, rfl, ?_⟩⟩
    rw [nV_emp]
    exact q _ (s1.trans s2)
  | often =>
    replace hx : xs.length = 1 := hx
    refine ite2 (fun c => absurd c (by decide +kernel)) (fun _ => ?_)
    refine ⟨_, rfl, rfl, _, rfl, ?_⟩
    refine ite2 (fun _ => ?_) (fun c => absurd (by decide +kernel) c)
    exact ⟨_, rfl, _, rfl, l, _, _, _, rfl, rfl, SqL.of tk.hl, h1, t, _, _, _, rfl, rfl, SqT.of h2, atI_nat (j := 1) rfl, _, rfl, wt, _, _, _, rfl, rfl, SqT.of hw, w_at (j := 0) (by omega), _, _, rfl, xs_nn hn, .inr ⟨_, rfl, q _ (Same.refl _)⟩⟩
  | within =>
    refine ite2 (fun c => absurd c (by decide +kernel)) (fun _ => ?_)
    refine ⟨_, rfl, rfl, _, rfl, ?_⟩
    refine ite2 (fun c => absurd c (by decide +kernel)) (fun _ => ?_)
    refine ⟨_, rfl, rfl, _, rfl, ?_⟩
    refine ite2 (fun _ => ?_) (fun c => absurd (by decide +kernel) c)
    exact ⟨_, rfl, _, rfl, l, wt, ts ++ [p], us, _, xs, rfl, tk, hw, hx, hn, q⟩
  | only =>
    refine ite2 (fun c => absurd c (by decide +kernel)) (fun _ => ?_)
    refine ⟨_, rfl, rfl, _, rfl, ?_⟩
    refine ite2 (fun c => absurd c (by decide +kernel)) (fun _ => ?_)
    refine ⟨_, rfl, rfl, _, rfl, ?_⟩
    refine ite2 (fun c => absurd c (by decide +kernel)) (fun _ => ?_)
    refine ⟨_, rfl, rfl, _, rfl, ?_⟩
    refine ite2 (fun _ => ?_) (fun c => absurd (by decide +kernel) c)
    exact ⟨_, rfl, _, rfl, l, wt, ts, p, us, .only, xs, rfl, tk, hw, rfl, hx, hn, q⟩
  | hope =>
    replace hx : xs.length = 1 := hx
    refine ite2 (fun c => absurd c (by decide +kernel)) (fun _ => ?_)
    refine ⟨_, rfl, rfl, _, rfl, ?_⟩
    refine ite2 (fun c => absurd c (by decide +kernel)) (fun _ => ?_)
    refine ⟨_, rfl, rfl, _, rfl, ?_⟩
    refine ite2 (fun c => absurd c (by decide +kernel)) (fun _ => ?_)
    refine ⟨_, rfl, rfl, _, rfl, ?_⟩
    refine ite2 (fun c => absurd c (by decide +kernel)) (fun _ => ?_)
    refine ⟨_, rfl, rfl, _, rfl, ?_⟩
    refine ite2 (fun _ => ?_) (fun c => absurd (by decide +kernel) c)
    exact ⟨_, rfl, _, rfl, l, _, _, _, rfl, rfl, SqL.of tk.hl, h1, t, _, _, _, rfl, rfl, SqT.of h2, atI_nat (j := 0) rfl, _, rfl, wt, _, _, _, rfl, rfl, SqT.of hw, w_at (j := 0) (by omega), _, _, rfl, xs_nn hn, .inr ⟨_, rfl, q _ (Same.refl _)⟩⟩
  | calm =>
    replace hx : xs.length = 1 := hx
    refine ite2 (fun c => absurd c (by decide +kernel)) (fun _ => ?_)
    refine ⟨_, rfl, rfl, _, rfl, ?_⟩
    refine ite2 (fun c => absurd c (by decide +kernel)) (fun _ => ?_)
    refine ⟨_, rfl, rfl, _, rfl, ?_⟩
    refine ite2 (fun c => absurd c (by decide +kernel)) (fun _ => ?_)
    refine ⟨_, rfl, rfl, _, rfl, ?_⟩
    refine ite2 (fun c => absurd c (by decide +kernel)) (fun _ => ?_)
    refine ⟨_, rfl, rfl, _, rfl, ?_⟩
    refine ite2 (fun c => absurd c (by decide +kernel)) (fun _ => ?_)
    refine ⟨_, rfl, rfl, _, rfl, ?_⟩
    refine ite2 (fun _ => ?_) (fun c => absurd (by decide +kernel) c)
    exact ⟨_, rfl, _, rfl, l, _, _, _, rfl, rfl, SqL.of tk.hl, h1, t, _, _, _, rfl, rfl, SqT.of h2, atI_nat (j := 0) rfl, _, rfl, wt, _, _, _, rfl, rfl, SqT.of hw, w_at (j := 0) (by omega), _, _, rfl, xs_nn hn, .inr ⟨_, rfl, _, _, rfl, rfl, q _ (Same.refl _)⟩⟩
  | never =>
    refine ite2 (fun c => absurd c (by decide +kernel)) (fun _ => ?_)
    refine ⟨_, rfl, rfl, _, rfl, ?_⟩
    refine ite2 (fun c => absurd c (by decide +kernel)) (fun _ => ?_)
    refine ⟨_, rfl, rfl, _, rfl, ?_⟩
    refine ite2 (fun c => absurd c (by decide +kernel)) (fun _ => ?_)
    refine ⟨_, rfl, rfl, _, rfl, ?_⟩
    refine ite2 (fun c => absurd c (by decide +kernel)) (fun _ => ?_)
    refine ⟨_, rfl, rfl, _, rfl, ?_⟩
    refine ite2 (fun c => absurd c (by decide +kernel)) (fun _ => ?_)
    refine ⟨_, rfl, rfl, _, rfl, ?_⟩
    refine ite2 (fun c => absurd c (by decide +kernel)) (fun _ => ?_)
    exact ⟨_, rfl, _, rfl, l, wt, ts, p, us, .never, xs, rfl, tk, hw, .inl rfl, hx, hn, q⟩
  | not_ =>
    refine ite2 (fun c => absurd c (by decide +kernel)) (fun _ => ?_)
    refine ⟨_, rfl, rfl, _, rfl, ?_⟩
    refine ite2 (fun c => absurd c (by decide +kernel)) (fun _ => ?_)
    refine ⟨_, rfl, rfl, _, rfl, ?_⟩
    refine ite2 (fun c => absurd c (by decide +kernel)) (fun _ => ?_)
    refine ⟨_, rfl, rfl, _, rfl, ?_⟩
    refine ite2 (fun c => absurd c (by decide +kernel)) (fun _ => ?_)
    refine ⟨_, rfl, rfl, _, rfl, ?_⟩
    refine ite2 (fun c => absurd c (by decide +kernel)) (fun _ => ?_)
    refine ⟨_, rfl, rfl, _, rfl, ?_⟩
    refine ite2 (fun c => absurd c (by decide +kernel)) (fun _ => ?_)
    exact ⟨_, rfl, _, rfl, l, wt, ts, p, us, .not_, xs, rfl, tk, hw, .inr rfl, hx, hn, q⟩
def spAlike : Sp := fun vs H Q _ => ∃ o : Option Int, vs = [oV o, oV o] ∧ Q (.bl true) H
theorem ok_alike (F : DefAt K mg "_law_alike" s_law_alike ["_law_found", "_law_due_here"]) (T : Txt mg) : Dn P w K mg base "_law_alike" 1 ["_law_found", "_law_due_here"] spAlike := by
  have sc := sc_law_alike
  refine F.ok sc (fun vs H Q E h => ?_) (fun f cdv A outer s H vs Q E hr h => ?_)
  · obtain ⟨_, rfl, _⟩ := h; rfl
  obtain ⟨o, rfl, q⟩ := h
  refine ⟨_, (pss_cons (ps_if (PW.pt (pw_or (pt_cmp (pc_isN (pv 1))) (pw_or1 (pt_cmp (pc_isN (pv 0))))))
      (pss_one (ps_ret (pe_and (pe_cmp (pc_isN (pv 1))) (pe_one (pe_cmp (pc_isN (pv 0)))))))
      pss_nil)
      (pss_one (ps_ret (pe_and (pe_callB (clIsi (K := K) rfl (T := "int")) rfl T.b_isinstance PyProof.Rows.boot_isinstance (pa_cons (pv 0) (pa_cons (pe_bltn (v := .ty "int") rfl T.b_int PyProof.Rows.boot_int rfl) pa_nil))) (pe_and (pe_not (pe_callB (clIsi (K := K) rfl (T := "bool")) rfl T.b_isinstance PyProof.Rows.boot_isinstance (pa_cons (pv 0) (pa_cons (pe_bltn (v := .ty "bool") rfl T.b_bool PyProof.Rows.boot_bool rfl) pa_nil)))) (pe_one (pe_cmpR op_eq (pv 0) (pv 1) (nomark _)))))))), ?_⟩
  cases o with
  | none =>
    refine ⟨_, rfl, _, rfl, ?_⟩
    refine iteT ?_
    refine iteT ?_
    refine ⟨_, rfl, _, rfl, ?_⟩
    refine iteT ?_
    exact ⟨_, rfl, q⟩
  | some z =>
    refine ⟨_, rfl, _, rfl, ?_⟩
    refine iteF ?_
    refine ⟨_, rfl, _, rfl, ?_⟩
    refine iteF ?_
    refine ⟨_, rfl, _, "int", _, rfl, rfl, isi_same _, true, rfl, ?_⟩
    refine iteT ?_
    refine ⟨_, rfl, _, "int", _, rfl, rfl, isi_int_bool, false, rfl, true, rfl, ?_⟩
    refine iteT ?_
    refine ⟨_, rfl, _, rfl, rfl, ?_⟩
    rw [decide_eq_true rfl]; exact q
def Wlk (k : Wd) (xs : List Int) (n : Nat) (H : Hp) (v : V) : Prop := ∃ (wa sl : Addr) (st : Int) (ts : List Tk) (us : List V), v = .ref wa ∧ H wa = some (.tup [.int st, .ref sl]) ∧ H sl = some (.lst us) ∧ Paired (rTk H) ts us ∧ Stt k xs st ts ∧ ts.length ≤ n
theorem Wlk.up {k : Wd} {xs : List Int} {n : Nat} {H H' : Hp} {v : V} (h : Wlk k xs n H v) (s : Same H H') : Wlk k xs n H' v := by
  obtain ⟨wa, sl, st, ts, us, e, h1, h2, h3, h4, h5⟩ := h
  exact ⟨wa, sl, st, ts, us, e, s _ _ h1, s _ _ h2, paired_mono mono_tk s h3, h4, h5⟩
theorem Wlk.non {k : Wd} {xs : List Int} {n : Nat} {H : Hp} {v : V} (h : Wlk k xs n H v) : ¬ v = .non := by
  obtain ⟨wa, _, _, _, _, e, _⟩ := h
  rw [e]; intro z; cases z
theorem flW_no {s : Str} {sp : Addr} : (flW s sp).lookup ("after" : Str) = none := by
  rw [lookup_putF, if_neg (by decide +kernel), lookup_putF, if_neg (by decide +kernel)]; rfl
def spStepped (C : Addr) : Sp := fun vs H Q _ => ∃ (x wt t : Addr) (v : V) (k : Wd) (xs : List Int) (p : Tk) (n : Nat), vs = [.ref x, .ref wt, v, .ref t] ∧ ObjW C H x (k.s, xs) ∧ H wt = some (.tup (wv (k.s, xs))) ∧ xs.length = k.m ∧ (∀ y ∈ xs, 0 ≤ y) ∧ H t = some (.tup [.int p.1, .int p.2]) ∧ Wlk k xs n H v ∧ n < 200 ∧ ∀ v' H', Same H H' → Wlk k xs (n + 1) H' v' → Q v' H'
theorem ok_stepped (F : DefAt K mg "_law_stepped" s_law_stepped ["_law_heard", "_law_wish", "_law_walk", "_law_tick"]) (T : Txt mg) (CL_Wish : ClsAt K mg "Wish" C WishFs) (D_Wish_after : DnM P w K mg base C "after" 3 ["self", "state", "asks", "deeds"] (spAfter C)) (D_law_due : Dn P w K mg base "_law_due" 4 ["_law_ticks_here", "_law_wish"] (spDueL fun _ => True)) (D_law_alike : Dn P w K mg base "_law_alike" 1 ["_law_found", "_law_due_here"] spAlike) : Dn P w K mg base "_law_stepped" 5 ["_law_heard", "_law_wish", "_law_walk", "_law_tick"] (spStepped C) := by
  have sc := sc_law_stepped
  refine F.ok sc (fun vs H Q E h => ?_) (fun f cdv A outer s H vs Q E hr h => ?_)
  · obtain ⟨_, _, _, _, _, _, _, _, rfl, _⟩ := h; rfl
  obtain ⟨x, wt, t, v, k, xs, p, n, rfl, ob, hw, hx, hn, ht, ⟨wa, sl, st, ts, us, rfl, h1, h2, h3, h4, h5⟩, h82, q⟩ := h
  obtain ⟨g1, g2⟩ := stt_step hn h4 p
  refine ⟨_, (pss_cons (ps_if (pt_cmp (pc_isN (pv 2)))
      (pss_one (ps_ret pe_non))
      pss_nil)
      (pss_cons (ps_set (i := 4) sc.nd rfl (Or.inl rfl) (pe_op op_cat (pe_ix (ixT (K := K) rfl) (pv 2) pe_int (fun _ _ => rfl)) (pe_lst (pa_cons (pv 3) pa_nil))))
      (pss_cons (ps_set (i := 5) sc.nd rfl (Or.inl rfl) (pe_dn D_law_due hr (pa_cons (pv 4) (pa_cons (pv 1) pa_nil))))
      (pss_cons (ps_if (pt_not (pt_val (pe_dn D_law_alike hr (pa_cons (pe_dnM CL_Wish.cl D_Wish_after hr (pv 0) (pa_cons (pe_ix (ixT (K := K) rfl) (pv 2) pe_int (fun _ _ => rfl)) (pa_cons (pe_ix (ixT (K := K) rfl) (pv 3) pe_int (fun _ _ => rfl)) (pa_cons (pe_ix (ixT (K := K) rfl) (pv 3) pe_int (fun _ _ => rfl)) pa_nil)))) (pa_cons (pv 5) pa_nil)))))
      (pss_one (ps_ret pe_non))
      pss_nil)
      (pss_cons (ps_if (pt_cmp (pc_isN (pv 5)))
      (pss_one (ps_ret (pe_tup (pa_cons pe_int (pa_cons (pe_lst pa_nil) pa_nil)))))
      pss_nil)
      (pss_one (ps_ret (pe_tup (pa_cons (pv 5) (pa_cons (pv 4) pa_nil)))))))))), ?_⟩
  refine ⟨_, rfl, _, rfl, ?_⟩
  refine iteF ?_
  refine ⟨_, rfl, wa, _, _, _, rfl, rfl, SqT.of h1, atI_nat (j := 1) rfl, _, rfl, (by show 1 ≤ sizeLine; decide), fun b hb => ?_⟩
  have s1 := same_upd hb (.lst [.ref t])
  have ul : us.length = ts.length := (pl_len h3).symm
  refine ⟨sl, b, _, _, rfl, rfl, s1 _ _ h2, upd_same, small (m := 1000) (by rw [ul]; simp; omega), fun c hc => ?_⟩
  have s2 := s1.trans (same_upd hc (.lst (us ++ [.ref t])))
  have hc2 : upd (upd H b (.lst [.ref t])) c (.lst (us ++ [.ref t])) c = some (.lst (us ++ [.ref t])) := upd_same
  generalize upd (upd H b (.lst [.ref t])) c (.lst (us ++ [.ref t])) = H2 at s2 hc2 ⊢
  have tk : Tks H2 c (ts ++ [p]) (us ++ [.ref t]) := ⟨hc2, L2.Paired.app (paired_mono mono_tk s2 h3) (.cons ⟨t, rfl, s2 _ _ ht⟩ .nil), by simp; omega⟩
  refine ⟨_, rfl, _, rfl, c, wt, ts, p, _, k, xs, rfl, tk, s2 _ _ hw, trivial, hx, hn, fun H3 s3 => ?_⟩
  have s23 := s2.trans s3
  obtain ⟨dx, sp, o1, o2⟩ := ob.up s23
  refine ⟨_, rfl, x, dx, _, rfl, o1, flW_no, _, rfl, wa, _, _, _, rfl, rfl, SqT.of (s23 _ _ h1), atI_nat (j := 0) rfl, _, rfl, t, _, _, _, rfl, rfl, SqT.of (s23 _ _ ht), atI_nat (j := 0) rfl, _, rfl, t, _, _, _, rfl, rfl, SqT.of (s23 _ _ ht), atI_nat (j := 1) rfl, ?_⟩
  refine ⟨x, k, xs, st, p.1, p.2, rfl, ⟨dx, sp, o1, o2⟩, hx, hn, ?_⟩
  rw [g1]
  refine ⟨_, rfl, dueQ k xs ts p, rfl, _, rfl, ?_⟩
  refine iteF ?_
  cases e : dueQ k xs ts p with
  | none =>
    refine ⟨_, rfl, _, rfl, ?_⟩
    refine iteT ?_
    refine ⟨(by show 0 ≤ sizeLine; decide), fun m hm => ?_⟩
    have s4 := same_upd hm (.lst [])
    have km : upd H3 m (.lst []) m = some (.lst []) := upd_same
    generalize upd H3 m (.lst []) = H4 at s4 km ⊢
    refine ⟨(by show 2 ≤ sizeLine; decide), fun w2 hw2 => ?_⟩
    have s5 := same_upd hw2 (.tup [.int 0, .ref m])
    exact q _ _ ((s23.trans s4).trans s5) ⟨w2, m, 0, [], [], rfl, upd_same, s5 _ _ km, .nil, stt_nil _ _, Nat.zero_le _⟩
  | some z =>
    refine ⟨_, rfl, _, rfl, ?_⟩
    refine iteF ?_
    refine ⟨_, rfl, _, rfl, (by show 2 ≤ sizeLine; decide), fun w2 hw2 => ?_⟩
    have s5 := same_upd hw2 (.tup [.int z, .ref c])
    have tk' := tk.up (s3.trans s5)
    exact q _ _ (s23.trans s5) ⟨w2, c, z, ts ++ [p], _, rfl, upd_same, tk'.hl, tk'.pr, g2 z e, by simp; omega⟩
theorem Wlk.le {k : Wd} {xs : List Int} {n m : Nat} {H : Hp} {v : V} (h : Wlk k xs n H v) (l : n ≤ m) : Wlk k xs m H v := by
  obtain ⟨wa, sl, st, ts, us, e, h1, h2, h3, h4, h5⟩ := h
  exact ⟨wa, sl, st, ts, us, e, h1, h2, h3, h4, Nat.le_trans h5 l⟩
def spWalked (C : Addr) : Sp := fun vs H Q _ => ∃ (x wt l : Addr) (k : Wd) (xs : List Int) (ts : List Tk) (us : List V), vs = [.ref x, .ref wt, .ref l] ∧ ObjW C H x (k.s, xs) ∧ H wt = some (.tup (wv (k.s, xs))) ∧ xs.length = k.m ∧ (∀ y ∈ xs, 0 ≤ y) ∧ H l = some (.lst us) ∧ Paired (rTk H) ts us ∧ ts.length ≤ 83 ∧ ∀ H', Same H H' → Q (.bl true) H'
theorem ok_walked (F : DefAt K mg "_law_walked" s_law_walked ["_law_heard", "_law_wish", "_law_ticks_here"]) (T : Txt mg) (D_law_stepped : Dn P w K mg base "_law_stepped" 5 ["_law_heard", "_law_wish", "_law_walk", "_law_tick"] (spStepped C)) : Dn P w K mg base "_law_walked" 6 ["_law_heard", "_law_wish", "_law_ticks_here"] (spWalked C) := by
  have sc := sc_law_walked
  refine F.ok sc (fun vs H Q E h => ?_) (fun f cdv A outer s H vs Q E hr h => ?_)
  · obtain ⟨_, _, _, _, _, _, _, rfl, _⟩ := h; rfl
  obtain ⟨x, wt, l, k, xs, ts, us, rfl, ob, hw, hx, hn, hl, pr, h83, q⟩ := h
  have ul : us.length = ts.length := (pl_len pr).symm
  refine ⟨_, (pss_cons (ps_set (i := 3) sc.nd rfl (Or.inl rfl) (pe_tup (pa_cons pe_int (pa_cons (pe_lst pa_nil) pa_nil))))
      (pss_cons (ps_set (i := 4) sc.nd rfl (Or.inl rfl) (pe_tup (pa_cons pe_int (pa_cons (pe_lst pa_nil) pa_nil))))
      (pss_cons (ps_for PassesOwn.never rfl (pi_range1 rfl T.b_range (pa_cons (pe_callB (clLen (K := K) rfl) rfl T.b_len PySem.boot_len (pa_cons (pv 2) pa_nil)) pa_nil)) (pg_name (i := 5) sc.nd rfl (Or.inl rfl))
      (pss_cut (ps_if (pt_cmpR op_eq (pe_op op_mod (pe_ix (ixT (K := K) rfl) (pe_ix (ixL (K := K) rfl) (pv 2) (pv 5) (fun _ _ => rfl)) pe_int (fun _ _ => rfl)) pe_int) pe_int (nomark _))
      (pss_one (ps_set (i := 3) sc.nd rfl (Or.inl rfl) (pe_dn D_law_stepped hr (pa_cons (pv 0) (pa_cons (pv 1) (pa_cons (pv 3) (pa_cons (pe_ix (ixL (K := K) rfl) (pv 2) (pv 5) (fun _ _ => rfl)) pa_nil)))))))
      pss_nil)
      (pss_cut (ps_if (pt_cmpR op_lt (pv 5) pe_int (nomark _))
      (pss_one (ps_set (i := 4) sc.nd rfl (Or.inl rfl) (pe_dn D_law_stepped hr (pa_cons (pv 0) (pa_cons (pv 1) (pa_cons (pv 4) (pa_cons (pe_ix (ixL (K := K) rfl) (pv 2) (pe_op op_sub (pe_op op_sub (pe_callB (clLen (K := K) rfl) rfl T.b_len PySem.boot_len (pa_cons (pv 2) pa_nil)) pe_int) (pv 5)) (fun _ _ => rfl)) pa_nil)))))))
      pss_nil)
      (pss_cut (ps_if (pt_cmpR op_eq (pe_op op_mod (pe_ix (ixT (K := K) rfl) (pe_ix (ixL (K := K) rfl) (pv 2) (pv 5) (fun _ _ => rfl)) pe_int (fun _ _ => rfl)) pe_int) pe_int (nomark _))
      (pss_one (ps_set (i := 3) sc.nd rfl (Or.inl rfl) (pe_dn D_law_stepped hr (pa_cons (pv 0) (pa_cons (pv 1) (pa_cons (pv 3) (pa_cons (pe_ix (ixL (K := K) rfl) (pv 2) (pv 5) (fun _ _ => rfl)) pa_nil)))))))
      pss_nil)
      (pss_one (ps_if (PW.pt (pw_or (pt_cmp (pc_isN (pv 3))) (pw_or1 (pt_cmp (pc_isN (pv 4))))))
      (pss_one (ps_ret pe_bl))
      pss_nil))))))
      (pss_one (ps_ret pe_bl))))), ?_⟩
  refine ⟨(by show 0 ≤ sizeLine; decide), fun m1 hm1 => ?_⟩
  have s1 := same_upd hm1 (.lst [])
  have k1 : upd H m1 (.lst []) m1 = some (.lst []) := upd_same
  generalize upd H m1 (.lst []) = H1 at s1 k1 ⊢
  refine ⟨(by show 2 ≤ sizeLine; decide), fun w1 hw1 => ?_⟩
  have s2 := same_upd hw1 (.tup [.int 0, .ref m1])
  have W1 : Wlk k xs 0 (upd H1 w1 (.tup [.int 0, .ref m1])) (.ref w1) := ⟨w1, m1, 0, [], [], rfl, upd_same, s2 _ _ k1, .nil, stt_nil _ _, Nat.le_refl _⟩
  replace s2 := s1.trans s2
  generalize upd H1 w1 (.tup [.int 0, .ref m1]) = H2 at s2 W1 ⊢
  refine ⟨(by show 0 ≤ sizeLine; decide), fun m2 hm2 => ?_⟩
  have s3 := same_upd hm2 (.lst [])
  have k2 : upd H2 m2 (.lst []) m2 = some (.lst []) := upd_same
  replace W1 := W1.up s3
  replace s3 := s2.trans s3
  generalize upd H2 m2 (.lst []) = H3 at s3 k2 W1 ⊢
  refine ⟨(by show 2 ≤ sizeLine; decide), fun w2 hw2 => ?_⟩
  have s4 := same_upd hw2 (.tup [.int 0, .ref m2])
  have W2 : Wlk k xs 0 (upd H3 w2 (.tup [.int 0, .ref m2])) (.ref w2) := ⟨w2, m2, 0, [], [], rfl, upd_same, s4 _ _ k2, .nil, stt_nil _ _, Nat.le_refl _⟩
  replace W1 := W1.up s4
  replace s4 := s3.trans s4
  generalize upd H3 w2 (.tup [.int 0, .ref m2]) = H4 at s4 W1 W2 ⊢
  refine ⟨_, rfl, l, _, rfl, .inl (SqL.of (s4 _ _ hl)), _, rfl, by omega, by omega, for_range (lo := 0) (n := ((us.length : Nat) : Int).toNat) (fun i σ H5 => ∃ (v3 v4 : V) (z : Option V), σ = [some (.ref x), some (.ref wt), some (.ref l), some v3, some v4, z] ∧ Same H H5 ∧ Wlk k xs (2 * i) H5 v3 ∧ Wlk k xs (2 * i) H5 v4)
    ⟨_, _, _, rfl, s4, W1, W2⟩ (fun i σ H5 hi h => ?_) (fun σ H5 h => ?_)⟩
  · obtain ⟨v3, v4, z, rfl, s5, w3, w4⟩ := h
    rw [Int.toNat_natCast, ul] at hi
    obtain ⟨t, at1, _⟩ := tk_at pr (n := i) hi
    have hT : ∀ H', Same H H' → H' t = some (.tup [.int (ts.getD i (0, 0)).1, .int (ts.getD i (0, 0)).2]) := fun H' s' => by
      obtain ⟨t', a1, a2⟩ := tk_at (paired_mono mono_tk s' pr) (n := i) hi
      have e : t' = t := by
        have := a1.symm.trans at1
        injection this with this
        injection this
      rw [← e]; exact a2
    obtain ⟨t2, at2, _⟩ := tk_at pr (n := ts.length - 1 - i) (by omega)
    have hT2 : ∀ H', Same H H' → H' t2 = some (.tup [.int (ts.getD (ts.length - 1 - i) (0, 0)).1, .int (ts.getD (ts.length - 1 - i) (0, 0)).2]) := fun H' s' => by
      obtain ⟨t', a1, a2⟩ := tk_at (paired_mono mono_tk s' pr) (n := ts.length - 1 - i) (by omega)
      have e : t' = t2 := by
        have := a1.symm.trans at2
        injection this with this
        injection this
      rw [← e]; exact a2
    have e0 : (0 : Int) + (i : Int) = i := Int.zero_add _
    have e2 : ((us.length : Nat) : Int) - 1 - (0 + (i : Int)) = ((ts.length - 1 - i : Nat) : Int) := by rw [ul]; omega
    refine ⟨fun σ' H6 => ∃ v3' : V, σ' = [some (.ref x), some (.ref wt), some (.ref l), some v3', some v4, some (.int (0 + (i : Int)))] ∧ Same H H6 ∧ Wlk k xs (2 * i + 1) H6 v3' ∧ Wlk k xs (2 * i) H6 v4, ?_, ?_⟩
    · refine ⟨_, rfl, _, rfl, l, _, _, _, rfl, rfl, SqL.of (s5 _ _ hl), (by rw [e0]; exact at1), t, _, _, _, rfl, rfl, SqT.of (hT _ s5), atI_nat (j := 0) rfl, _, _, rfl, rfl, (show (0 : Int) < 2 by decide), rfl, _, rfl, ?_⟩
      refine ite2 (fun _ => ?_) (fun _ => ?_)
      · refine ⟨_, rfl, _, rfl, _, rfl, _, rfl, _, rfl, l, _, _, _, rfl, rfl, SqL.of (s5 _ _ hl), (by rw [e0]; exact at1), x, wt, t, v3, k, xs, _, 2 * i, rfl, ob.up s5, s5 _ _ hw, hx, hn, hT _ s5, w3, by omega, fun v' H6 s6 w' => ?_⟩
        exact ⟨_, rfl, s5.trans s6, w', w4.up s6⟩
      · exact ⟨_, rfl, s5, w3.le (by omega), w4⟩
    rintro σ' H6 ⟨v3', rfl, s6, w3', w4'⟩
    refine ⟨fun σ' H7 => ∃ v4' : V, σ' = [some (.ref x), some (.ref wt), some (.ref l), some v3', some v4', some (.int (0 + (i : Int)))] ∧ Same H H7 ∧ Wlk k xs (2 * i + 1) H7 v3' ∧ Wlk k xs (2 * i + 2) H7 v4', ?_, ?_⟩
    · refine ⟨_, rfl, _, _, rfl, rfl, _, rfl, ?_⟩
      refine ite2 (fun _ => ?_) (fun _ => ?_)
      · refine ⟨_, rfl, _, rfl, _, rfl, _, rfl, _, rfl, l, _, rfl, .inl (SqL.of (s6 _ _ hl)), _, _, rfl, rfl, _, rfl, _, _, rfl, rfl, l, _, _, _, rfl, rfl, SqL.of (s6 _ _ hl), (by rw [e2]; exact at2), x, wt, t2, v4, k, xs, _, 2 * i, rfl, ob.up s6, s6 _ _ hw, hx, hn, hT2 _ s6, w4', by omega, fun v' H7 s7 w' => ?_⟩
        exact ⟨_, rfl, s6.trans s7, w3'.up s7, w'.le (by omega)⟩
      · exact ⟨_, rfl, s6, w3', w4'.le (by omega)⟩
    rintro σ' H7 ⟨v4', rfl, s7, w3'', w4''⟩
    refine ⟨fun σ' H8 => ∃ v5 : V, σ' = [some (.ref x), some (.ref wt), some (.ref l), some v5, some v4', some (.int (0 + (i : Int)))] ∧ Same H H8 ∧ Wlk k xs (2 * i + 2) H8 v5 ∧ Wlk k xs (2 * i + 2) H8 v4', ?_, ?_⟩
    · refine ⟨_, rfl, _, rfl, l, _, _, _, rfl, rfl, SqL.of (s7 _ _ hl), (by rw [e0]; exact at1), t, _, _, _, rfl, rfl, SqT.of (hT _ s7), atI_nat (j := 0) rfl, _, _, rfl, rfl, (show (0 : Int) < 2 by decide), rfl, _, rfl, ?_⟩
      refine ite2 (fun _ => ?_) (fun _ => ?_)
      · refine ⟨_, rfl, _, rfl, _, rfl, _, rfl, _, rfl, l, _, _, _, rfl, rfl, SqL.of (s7 _ _ hl), (by rw [e0]; exact at1), x, wt, t, v3', k, xs, _, 2 * i + 1, rfl, ob.up s7, s7 _ _ hw, hx, hn, hT _ s7, w3'', by omega, fun v' H8 s8 w' => ?_⟩
        exact ⟨_, rfl, s7.trans s8, w', w4''.up s8⟩
      · exact ⟨_, rfl, s7, w3''.le (by omega), w4''⟩
    rintro σ' H8 ⟨v5, rfl, s8, w5, w6⟩
    refine ⟨_, rfl, _, rfl, ?_⟩
    refine ite2 (fun c => absurd (of_decide_eq_true c) w5.non) (fun _ => ?_)
    refine ⟨_, rfl, _, rfl, ?_⟩
    refine ite2 (fun c => absurd (of_decide_eq_true c) w6.non) (fun _ => ?_)
    exact ⟨_, _, _, rfl, s8, w5, w6⟩
  obtain ⟨v3, v4, z, rfl, s5, _, _⟩ := h
  exact q _ s5
theorem wok_nn {a d : Int} {r : WR} (h : WOk a d r) : ∀ y ∈ r.2, 0 ≤ y := fun y hy => by
  obtain ⟨ks, _, hl, hk⟩ := h.k
  obtain ⟨i, hi, rfl⟩ := List.getElem_of_mem hy
  exact (hk i _ (ks[i]'(by omega)) (List.getElem?_eq_getElem hi) (List.getElem?_eq_getElem _)).2.1
def spLaw (K : PySem.W.Frag) : Sp := fun vs H Q _ => ∃ (a : Addr) (ns : List Int), vs = [.ref a] ∧ SqL K H a (ns.map V.int) ∧ ns.length ≤ 63 ∧ ∀ H', Q (.bl true) H'
theorem ok_law {f : Addr} {fd : FuncData} (F : Fun K "law" "law" s_law f fd) (T : Txt mg) (D_law_cell_at : Dn P w K mg base "_law_cell_at" 1 ["_law_script", "_law_k"] (spCell K)) (D_law_ticks : Dn P w K mg base "_law_ticks" 2 ["_law_script", "_law_asks", "_law_deeds"] (spTicks K)) (D_law_wishes : Dn P w K mg base "_law_wishes" 2 ["_law_script", "_law_asks", "_law_deeds"] (spWishes K)) (D_wish_of : Dn P w K mg base "wish_of" 4 ["row", "asks", "deeds"] (spWishOf C)) (D_law_walked : Dn P w K mg base "_law_walked" 6 ["_law_heard", "_law_wish", "_law_ticks_here"] (spWalked C)) : FnOk P w K mg base CX0 7 f fd ["_law_script"] (spLaw K) := by
  have sc := sc_law
  refine F.ok sc (fun vs H Q E h => ?_) (fun cdv A outer s H vs Q E hr h => ?_)
  · obtain ⟨_, _, rfl, _⟩ := h; rfl
  obtain ⟨sa, ns, rfl, hS, h63, q⟩ := h
  refine ⟨_, (pss_cons (ps_set (i := 1) sc.nd rfl (Or.inl rfl) (pe_op op_add pe_int (pe_op op_mod (pe_dn D_law_cell_at hr (pa_cons (pv 0) (pa_cons pe_int pa_nil))) pe_int)))
      (pss_cons (ps_set (i := 2) sc.nd rfl (Or.inl rfl) (pe_op op_add pe_int (pe_op op_mod (pe_op op_fdiv (pe_dn D_law_cell_at hr (pa_cons (pv 0) (pa_cons pe_int pa_nil))) pe_int) pe_int)))
      (pss_cons (ps_set (i := 3) sc.nd rfl (Or.inl rfl) (pe_dn D_law_ticks hr (pa_cons (pv 0) (pa_cons (pv 1) (pa_cons (pv 2) pa_nil)))))
      (pss_cons (ps_for PassesOwn.never rfl (pi_list (pe_dn D_law_wishes hr (pa_cons (pv 0) (pa_cons (pv 1) (pa_cons (pv 2) pa_nil))))) (pg_name (i := 4) sc.nd rfl (Or.inl rfl))
      (pss_one (ps_if (pt_not (pt_val (pe_dn D_law_walked hr (pa_cons (pe_dn D_wish_of hr (pa_cons (pv 4) (pa_cons (pv 1) (pa_cons (pv 2) pa_nil)))) (pa_cons (pv 4) (pa_cons (pv 3) pa_nil))))))
      (pss_one (ps_ret pe_bl))
      pss_nil)))
      (pss_one (ps_ret pe_bl)))))), ?_⟩
  refine ⟨_, rfl, sa, ns, 0, rfl, hS, h63, by decide, by decide, fun c1 _ _ => ?_⟩
  refine ⟨_, _, rfl, rfl, (show (0 : Int) < 3 by decide), _, _, rfl, rfl, ?_⟩
  refine ⟨_, rfl, sa, ns, 0, rfl, hS, h63, by decide, by decide, fun c2 _ _ => ?_⟩
  refine ⟨_, _, rfl, rfl, ⟨by decide, by decide⟩, _, _, rfl, rfl, (show (0 : Int) < 3 by decide), _, _, rfl, rfl, ?_⟩
  obtain ⟨a, ha'⟩ : ∃ a, a = 1 + c1 % 3 := ⟨_, rfl⟩
  obtain ⟨d, hd'⟩ : ∃ d, d = 1 + c2 / 3 % 3 := ⟨_, rfl⟩
  have ha : CntOk a := ⟨by omega, by omega⟩
  have hd : CntOk d := ⟨by omega, by omega⟩
  refine ⟨_, rfl, _, rfl, _, rfl, sa, ns, a, d, by rw [ha', hd']; rfl, hS, h63, ha, hd, fun l us ts H1 s1 hl pr h83 => ?_⟩
  refine ⟨_, rfl, _, rfl, _, rfl, sa, ns, a, d, by rw [ha', hd']; rfl, s1.seq hS, h63, ha, hd, fun wl ws rs H2 s2 hwl pw hok => ?_⟩
  have s12 := s1.trans s2
  refine ⟨wl, rfl, ⟨_, SqL.of hwl⟩, for_list (K := K) (a := wl) (xs := ws) (fun i σ H3 => ∃ z : Option V, σ = [some (.ref sa), some (.int a), some (.int d), some (.ref l), z] ∧ Same H2 H3)
    ⟨_, by rw [ha', hd']; rfl, Same.refl _⟩ (fun i σ H3 _ h => SqL.of (h.choose_spec.2 _ _ hwl)) (fun i v σ H3 hi h => ?_) (fun σ H3 h => ?_)⟩
  · obtain ⟨z, rfl, s3⟩ := h
    obtain ⟨r, hr', wt, rfl, hwt⟩ := L2.Paired.ta pw hi
    obtain ⟨wok, k, hk1, hk2⟩ := hok r (List.mem_of_getElem? hr')
    obtain ⟨rw', rx⟩ := r
    obtain rfl : rw' = k.s := hk1
    refine ⟨_, rfl, _, rfl, _, rfl, wt, a, d, (k.s, rx), rfl, s3 _ _ hwt, wok, fun x H4 s4 ob => ?_⟩
    have s24 := s3.trans s4
    refine ⟨_, rfl, _, rfl, x, wt, l, k, rx, ts, us, rfl, ob, s24 _ _ hwt, hk2, wok_nn wok, (s2.trans s24) _ _ hl, paired_mono mono_tk (s2.trans s24) pr, h83, fun H5 s5 => ?_⟩
    refine ⟨_, rfl, ?_⟩
    refine iteF ?_
    exact ⟨_, rfl, s24.trans s5⟩
  · exact q _
theorem main {f : Addr} {fd : FuncData} {C : Addr} (T : Txt mg) (KT_NUMBER_KINDS : KTabAt w K mg "NUMBER_KINDS" tabNK) (KF_STEPS : KFunAt P w K mg "STEPS" tabST) (CL_Wish : ClsAt K mg "Wish" C WishFs) (A1 : DefAt K mg "is_whole" s_is_whole ["value"]) (A2 : DefAt K mg "is_place" s_is_place ["value", "count"]) (A3 : DefAt K mg "has_bit" s_has_bit ["number", "bit"])
    (A4 : DefAt K mg "after_answer" s_after_answer ["numbers", "state", "asks", "deeds"]) (A5 : DefAt K mg "after_often" s_after_often ["numbers", "state", "asks", "deeds"]) (A6 : DefAt K mg "after_within" s_after_within ["numbers", "state", "asks", "deeds"]) (A7 : DefAt K mg "after_never" s_after_never ["numbers", "state", "asks", "deeds"]) (A8 : DefAt K mg "after_not" s_after_not ["numbers", "state", "asks", "deeds"]) (A9 : DefAt K mg "after_only" s_after_only ["numbers", "state", "asks", "deeds"]) (A10 : DefAt K mg "after_hope" s_after_hope ["numbers", "state", "asks", "deeds"]) (A11 : DefAt K mg "after_calm" s_after_calm ["numbers", "state", "asks", "deeds"])
    (A12 : MkAt K C "Wish.__init__" s_Wish___init__ ["self", "word", "numbers"]) (A13 : MeAt K C "after" "Wish.after" s_Wish_after ["self", "state", "asks", "deeds"]) (A14 : DefAt K mg "check_wish" s_check_wish ["row", "asks", "deeds"]) (A15 : DefAt K mg "wish_of" s_wish_of ["row", "asks", "deeds"]) (A16 : DefAt K mg "_law_cell_at" s_law_cell_at ["_law_script", "_law_k"]) (A17 : DefAt K mg "_law_wishes" s_law_wishes ["_law_script", "_law_asks", "_law_deeds"]) (A18 : DefAt K mg "_law_ticks" s_law_ticks ["_law_script", "_law_asks", "_law_deeds"]) (A19 : DefAt K mg "_law_bit" s_law_bit ["_law_number", "_law_k"])
    (A20 : DefAt K mg "_law_last_done" s_law_last_done ["_law_ticks_here", "_law_d", "_law_end"]) (A21 : DefAt K mg "_law_raised" s_law_raised ["_law_ticks_here", "_law_a", "_law_start"]) (A22 : DefAt K mg "_law_within" s_law_within ["_law_ticks_here", "_law_wish"]) (A23 : DefAt K mg "_law_only" s_law_only ["_law_ticks_here", "_law_wish"]) (A24 : DefAt K mg "_law_barred" s_law_barred ["_law_ticks_here", "_law_wish"]) (A25 : DefAt K mg "_law_due" s_law_due ["_law_ticks_here", "_law_wish"]) (A26 : DefAt K mg "_law_alike" s_law_alike ["_law_found", "_law_due_here"]) (A27 : DefAt K mg "_law_stepped" s_law_stepped ["_law_heard", "_law_wish", "_law_walk", "_law_tick"]) (A28 : DefAt K mg "_law_walked" s_law_walked ["_law_heard", "_law_wish", "_law_ticks_here"])
    (F : Fun K "law" "law" s_law f fd) : FnOk P w K mg base CX0 7 f fd ["_law_script"] (spLaw K) := by
  have hb := ok_bit (P := P) (w := w) (base := base) A3 T
  have lb := ok_bitL (P := P) (w := w) (base := base) A19 T
  have af := ok_after A13 T CL_Wish KF_STEPS (ok_answer A4 T hb) (ok_often A5 T hb) (ok_within A6 T hb) (ok_never A7 T hb) (ok_not A8 T hb) (ok_only A9 T hb) (ok_hope A10 T hb) (ok_calm A11 T hb)
  have wo := ok_wish_of A15 T CL_Wish (ok_cw A14 T KT_NUMBER_KINDS (ok_is_place A2 T (ok_is_whole (P := P) (w := w) (base := base) A1 T))) (ok_initW A12 T CL_Wish)
  have ld := ok_last A20 T lb
  have rd := ok_raised A21 T lb
  have du := ok_due A25 T lb ld rd (ok_withinL A22 T ld rd) (ok_onlyL A23 T lb ld rd) (ok_barred A24 T lb)
  have ce := ok_cell (P := P) (w := w) (base := base) A16 T
  exact ok_law F T ce (ok_ticks A18 T ce) (ok_wishes A17 T ce) wo (ok_walked A28 T (ok_stepped A27 T CL_Wish af du (ok_alike A26 T)))
end
theorem all_mk {l : PySem.W.OpenLaw} {w : World} {K : PySem.W.Frag} {h : Heap} {mg : Str → Option Value} {fa f1 f2 f3 f4 f5 f6 f7 f8 f9 f10 f11 f12 f13 f14 f15 f16 f17 f18 f19 f20 f21 f22 f23 f24 f25 f26 f27 f28 f29 : Addr} (X : K.In h) (G : h.Ns mainGlobals mg) (hfa : mg "law" = some (.ref fa))
    {od1 an1 od2 an2 od3 an3 od4 an4 od5 an5 od6 an6 od7 an7 od8 an8 od9 an9 od10 an10 od11 an11 od12 an12 od13 an13 od14 an14 od15 an15 od16 an16 od17 an17 od18 an18 od19 an19 od20 an20 od21 an21 od22 an22 od23 an23 od24 an24 od25 an25 od26 an26 od27 an27 od28 an28 od29 an29 : Option Addr} {sl1 sl2 sl3 sl4 sl5 sl6 sl7 sl8 sl9 sl10 sl11 sl12 sl13 sl14 sl15 sl16 sl17 sl18 sl19 sl20 sl21 sl22 sl23 sl24 sl25 sl26 sl27 sl28 sl29 : Array (Option Value)} {oc1 kV1 dc1 pm1 cd1 ct1 oc2 kV2 dc2 pm2 cd2 ct2 oc3 kV3 dc3 pm3 cd3 ct3 oc4 kV4 dc4 pm4 cd4 ct4 oc5 kV5 dc5 pm5 cd5 ct5 oc6 kV6 dc6 pm6 cd6 ct6 oc7 kV7 dc7 pm7 cd7 ct7 oc8 kV8 dc8 pm8 cd8 ct8 oc9 kV9 dc9 pm9 cd9 ct9 oc10 kV10 dc10 pm10 cd10 ct10 oc11 kV11 dc11 pm11 cd11 ct11 oc12 kV12 dc12 pm12 cd12 ct12 oc13 kV13 dc13 pm13 cd13 ct13 oc14 kV14 dc14 pm14 cd14 ct14 oc15 kV15 dc15 pm15 cd15 ct15 oc16 kV16 dc16 pm16 cd16 ct16 oc17 kV17 dc17 pm17 cd17 ct17 oc18 kV18 dc18 pm18 cd18 ct18 oc19 kV19 dc19 pm19 cd19 ct19 oc20 kV20 dc20 pm20 cd20 ct20 oc21 kV21 dc21 pm21 cd21 ct21 oc22 kV22 dc22 pm22 cd22 ct22 oc23 kV23 dc23 pm23 cd23 ct23 oc24 kV24 dc24 pm24 cd24 ct24 oc25 kV25 dc25 pm25 cd25 ct25 oc26 kV26 dc26 pm26 cd26 ct26 oc27 kV27 dc27 pm27 cd27 ct27 oc28 kV28 dc28 pm28 cd28 ct28 oc29 kV29 dc29 pm29 cd29 ct29 : Value}
    {C_Wish : Addr} (cA_Wish : PySem.W.nsIn K mainGlobals "Wish" = some (some (.ref C_Wish))) (cG_Wish : PySem.W.plainGet K C_Wish Str.empty = true) (cD_Wish : PySem.W.hasDictIn K C_Wish = true) (cO_Wish : PySem.W.plainOver K C_Wish = true) (cS_Wish : PySem.W.findIn K (.ref C_Wish) "__setattr__" = some (some (.builtin "object.__setattr__"))) (cM_Wish : PySem.W.makesIn K C_Wish = true) (cK_Wish : PySem.W.keepIn K (.ref C_Wish) = true)
    (cN_Wish_word : PySem.W.findIn K (.ref C_Wish) "word" = some none) (cN_Wish_numbers : PySem.W.findIn K (.ref C_Wish) "numbers" = some none)
    (a1 : PySem.W.nsIn K mainGlobals "is_whole" = some (some (.ref f1))) (l1 : K.lookup f1 = some ⟨oc1, od1, .func (PySem.W.fnOf "is_whole" "is_whole" (defArgs s_is_whole) (defBody s_is_whole) (defScope s_is_whole) .none kV1 dc1 pm1 an1 cd1 ct1), sl1⟩) (c1 : PySem.W.codeIn K cd1 "is_whole" = true) (k1 : PySem.W.keepIn K (.ref f1) = true)
    (a2 : PySem.W.nsIn K mainGlobals "is_place" = some (some (.ref f2))) (l2 : K.lookup f2 = some ⟨oc2, od2, .func (PySem.W.fnOf "is_place" "is_place" (defArgs s_is_place) (defBody s_is_place) (defScope s_is_place) .none kV2 dc2 pm2 an2 cd2 ct2), sl2⟩) (c2 : PySem.W.codeIn K cd2 "is_place" = true) (k2 : PySem.W.keepIn K (.ref f2) = true)
    (a3 : PySem.W.nsIn K mainGlobals "has_bit" = some (some (.ref f3))) (l3 : K.lookup f3 = some ⟨oc3, od3, .func (PySem.W.fnOf "has_bit" "has_bit" (defArgs s_has_bit) (defBody s_has_bit) (defScope s_has_bit) .none kV3 dc3 pm3 an3 cd3 ct3), sl3⟩) (c3 : PySem.W.codeIn K cd3 "has_bit" = true) (k3 : PySem.W.keepIn K (.ref f3) = true)
    (a4 : PySem.W.nsIn K mainGlobals "after_answer" = some (some (.ref f4))) (l4 : K.lookup f4 = some ⟨oc4, od4, .func (PySem.W.fnOf "after_answer" "after_answer" (defArgs s_after_answer) (defBody s_after_answer) (defScope s_after_answer) .none kV4 dc4 pm4 an4 cd4 ct4), sl4⟩) (c4 : PySem.W.codeIn K cd4 "after_answer" = true) (k4 : PySem.W.keepIn K (.ref f4) = true)
    (a5 : PySem.W.nsIn K mainGlobals "after_often" = some (some (.ref f5))) (l5 : K.lookup f5 = some ⟨oc5, od5, .func (PySem.W.fnOf "after_often" "after_often" (defArgs s_after_often) (defBody s_after_often) (defScope s_after_often) .none kV5 dc5 pm5 an5 cd5 ct5), sl5⟩) (c5 : PySem.W.codeIn K cd5 "after_often" = true) (k5 : PySem.W.keepIn K (.ref f5) = true)
    (a6 : PySem.W.nsIn K mainGlobals "after_within" = some (some (.ref f6))) (l6 : K.lookup f6 = some ⟨oc6, od6, .func (PySem.W.fnOf "after_within" "after_within" (defArgs s_after_within) (defBody s_after_within) (defScope s_after_within) .none kV6 dc6 pm6 an6 cd6 ct6), sl6⟩) (c6 : PySem.W.codeIn K cd6 "after_within" = true) (k6 : PySem.W.keepIn K (.ref f6) = true)
    (a7 : PySem.W.nsIn K mainGlobals "after_never" = some (some (.ref f7))) (l7 : K.lookup f7 = some ⟨oc7, od7, .func (PySem.W.fnOf "after_never" "after_never" (defArgs s_after_never) (defBody s_after_never) (defScope s_after_never) .none kV7 dc7 pm7 an7 cd7 ct7), sl7⟩) (c7 : PySem.W.codeIn K cd7 "after_never" = true) (k7 : PySem.W.keepIn K (.ref f7) = true)
    (a8 : PySem.W.nsIn K mainGlobals "after_not" = some (some (.ref f8))) (l8 : K.lookup f8 = some ⟨oc8, od8, .func (PySem.W.fnOf "after_not" "after_not" (defArgs s_after_not) (defBody s_after_not) (defScope s_after_not) .none kV8 dc8 pm8 an8 cd8 ct8), sl8⟩) (c8 : PySem.W.codeIn K cd8 "after_not" = true) (k8 : PySem.W.keepIn K (.ref f8) = true)
    (a9 : PySem.W.nsIn K mainGlobals "after_only" = some (some (.ref f9))) (l9 : K.lookup f9 = some ⟨oc9, od9, .func (PySem.W.fnOf "after_only" "after_only" (defArgs s_after_only) (defBody s_after_only) (defScope s_after_only) .none kV9 dc9 pm9 an9 cd9 ct9), sl9⟩) (c9 : PySem.W.codeIn K cd9 "after_only" = true) (k9 : PySem.W.keepIn K (.ref f9) = true)
    (a10 : PySem.W.nsIn K mainGlobals "after_hope" = some (some (.ref f10))) (l10 : K.lookup f10 = some ⟨oc10, od10, .func (PySem.W.fnOf "after_hope" "after_hope" (defArgs s_after_hope) (defBody s_after_hope) (defScope s_after_hope) .none kV10 dc10 pm10 an10 cd10 ct10), sl10⟩) (c10 : PySem.W.codeIn K cd10 "after_hope" = true) (k10 : PySem.W.keepIn K (.ref f10) = true)
    (a11 : PySem.W.nsIn K mainGlobals "after_calm" = some (some (.ref f11))) (l11 : K.lookup f11 = some ⟨oc11, od11, .func (PySem.W.fnOf "after_calm" "after_calm" (defArgs s_after_calm) (defBody s_after_calm) (defScope s_after_calm) .none kV11 dc11 pm11 an11 cd11 ct11), sl11⟩) (c11 : PySem.W.codeIn K cd11 "after_calm" = true) (k11 : PySem.W.keepIn K (.ref f11) = true)
    (a12 : PySem.W.findIn K (.ref C_Wish) "__init__" = some (some (.ref f12))) (i12 : PySem.W.isFn K (.ref f12) = true) (l12 : K.lookup f12 = some ⟨oc12, od12, .func (PySem.W.fnOf "__init__" "Wish.__init__" (defArgs s_Wish___init__) (defBody s_Wish___init__) (defScope s_Wish___init__) .none kV12 dc12 pm12 an12 cd12 ct12), sl12⟩) (c12 : PySem.W.codeIn K cd12 "Wish.__init__" = true) (k12 : PySem.W.keepIn K (.ref f12) = true)
    (a13 : PySem.W.findIn K (.ref C_Wish) "after" = some (some (.ref f13))) (i13 : PySem.W.isFn K (.ref f13) = true) (l13 : K.lookup f13 = some ⟨oc13, od13, .func (PySem.W.fnOf "after" "Wish.after" (defArgs s_Wish_after) (defBody s_Wish_after) (defScope s_Wish_after) .none kV13 dc13 pm13 an13 cd13 ct13), sl13⟩) (c13 : PySem.W.codeIn K cd13 "Wish.after" = true) (k13 : PySem.W.keepIn K (.ref f13) = true)
    (a14 : PySem.W.nsIn K mainGlobals "check_wish" = some (some (.ref f14))) (l14 : K.lookup f14 = some ⟨oc14, od14, .func (PySem.W.fnOf "check_wish" "check_wish" (defArgs s_check_wish) (defBody s_check_wish) (defScope s_check_wish) .none kV14 dc14 pm14 an14 cd14 ct14), sl14⟩) (c14 : PySem.W.codeIn K cd14 "check_wish" = true) (k14 : PySem.W.keepIn K (.ref f14) = true)
    (a15 : PySem.W.nsIn K mainGlobals "wish_of" = some (some (.ref f15))) (l15 : K.lookup f15 = some ⟨oc15, od15, .func (PySem.W.fnOf "wish_of" "wish_of" (defArgs s_wish_of) (defBody s_wish_of) (defScope s_wish_of) .none kV15 dc15 pm15 an15 cd15 ct15), sl15⟩) (c15 : PySem.W.codeIn K cd15 "wish_of" = true) (k15 : PySem.W.keepIn K (.ref f15) = true)
    (a16 : PySem.W.nsIn K mainGlobals "_law_cell_at" = some (some (.ref f16))) (l16 : K.lookup f16 = some ⟨oc16, od16, .func (PySem.W.fnOf "_law_cell_at" "_law_cell_at" (defArgs s_law_cell_at) (defBody s_law_cell_at) (defScope s_law_cell_at) .none kV16 dc16 pm16 an16 cd16 ct16), sl16⟩) (c16 : PySem.W.codeIn K cd16 "_law_cell_at" = true) (k16 : PySem.W.keepIn K (.ref f16) = true)
    (a17 : PySem.W.nsIn K mainGlobals "_law_wishes" = some (some (.ref f17))) (l17 : K.lookup f17 = some ⟨oc17, od17, .func (PySem.W.fnOf "_law_wishes" "_law_wishes" (defArgs s_law_wishes) (defBody s_law_wishes) (defScope s_law_wishes) .none kV17 dc17 pm17 an17 cd17 ct17), sl17⟩) (c17 : PySem.W.codeIn K cd17 "_law_wishes" = true) (k17 : PySem.W.keepIn K (.ref f17) = true)
    (a18 : PySem.W.nsIn K mainGlobals "_law_ticks" = some (some (.ref f18))) (l18 : K.lookup f18 = some ⟨oc18, od18, .func (PySem.W.fnOf "_law_ticks" "_law_ticks" (defArgs s_law_ticks) (defBody s_law_ticks) (defScope s_law_ticks) .none kV18 dc18 pm18 an18 cd18 ct18), sl18⟩) (c18 : PySem.W.codeIn K cd18 "_law_ticks" = true) (k18 : PySem.W.keepIn K (.ref f18) = true)
    (a19 : PySem.W.nsIn K mainGlobals "_law_bit" = some (some (.ref f19))) (l19 : K.lookup f19 = some ⟨oc19, od19, .func (PySem.W.fnOf "_law_bit" "_law_bit" (defArgs s_law_bit) (defBody s_law_bit) (defScope s_law_bit) .none kV19 dc19 pm19 an19 cd19 ct19), sl19⟩) (c19 : PySem.W.codeIn K cd19 "_law_bit" = true) (k19 : PySem.W.keepIn K (.ref f19) = true)
    (a20 : PySem.W.nsIn K mainGlobals "_law_last_done" = some (some (.ref f20))) (l20 : K.lookup f20 = some ⟨oc20, od20, .func (PySem.W.fnOf "_law_last_done" "_law_last_done" (defArgs s_law_last_done) (defBody s_law_last_done) (defScope s_law_last_done) .none kV20 dc20 pm20 an20 cd20 ct20), sl20⟩) (c20 : PySem.W.codeIn K cd20 "_law_last_done" = true) (k20 : PySem.W.keepIn K (.ref f20) = true)
    (a21 : PySem.W.nsIn K mainGlobals "_law_raised" = some (some (.ref f21))) (l21 : K.lookup f21 = some ⟨oc21, od21, .func (PySem.W.fnOf "_law_raised" "_law_raised" (defArgs s_law_raised) (defBody s_law_raised) (defScope s_law_raised) .none kV21 dc21 pm21 an21 cd21 ct21), sl21⟩) (c21 : PySem.W.codeIn K cd21 "_law_raised" = true) (k21 : PySem.W.keepIn K (.ref f21) = true)
    (a22 : PySem.W.nsIn K mainGlobals "_law_within" = some (some (.ref f22))) (l22 : K.lookup f22 = some ⟨oc22, od22, .func (PySem.W.fnOf "_law_within" "_law_within" (defArgs s_law_within) (defBody s_law_within) (defScope s_law_within) .none kV22 dc22 pm22 an22 cd22 ct22), sl22⟩) (c22 : PySem.W.codeIn K cd22 "_law_within" = true) (k22 : PySem.W.keepIn K (.ref f22) = true)
    (a23 : PySem.W.nsIn K mainGlobals "_law_only" = some (some (.ref f23))) (l23 : K.lookup f23 = some ⟨oc23, od23, .func (PySem.W.fnOf "_law_only" "_law_only" (defArgs s_law_only) (defBody s_law_only) (defScope s_law_only) .none kV23 dc23 pm23 an23 cd23 ct23), sl23⟩) (c23 : PySem.W.codeIn K cd23 "_law_only" = true) (k23 : PySem.W.keepIn K (.ref f23) = true)
    (a24 : PySem.W.nsIn K mainGlobals "_law_barred" = some (some (.ref f24))) (l24 : K.lookup f24 = some ⟨oc24, od24, .func (PySem.W.fnOf "_law_barred" "_law_barred" (defArgs s_law_barred) (defBody s_law_barred) (defScope s_law_barred) .none kV24 dc24 pm24 an24 cd24 ct24), sl24⟩) (c24 : PySem.W.codeIn K cd24 "_law_barred" = true) (k24 : PySem.W.keepIn K (.ref f24) = true)
    (a25 : PySem.W.nsIn K mainGlobals "_law_due" = some (some (.ref f25))) (l25 : K.lookup f25 = some ⟨oc25, od25, .func (PySem.W.fnOf "_law_due" "_law_due" (defArgs s_law_due) (defBody s_law_due) (defScope s_law_due) .none kV25 dc25 pm25 an25 cd25 ct25), sl25⟩) (c25 : PySem.W.codeIn K cd25 "_law_due" = true) (k25 : PySem.W.keepIn K (.ref f25) = true)
    (a26 : PySem.W.nsIn K mainGlobals "_law_alike" = some (some (.ref f26))) (l26 : K.lookup f26 = some ⟨oc26, od26, .func (PySem.W.fnOf "_law_alike" "_law_alike" (defArgs s_law_alike) (defBody s_law_alike) (defScope s_law_alike) .none kV26 dc26 pm26 an26 cd26 ct26), sl26⟩) (c26 : PySem.W.codeIn K cd26 "_law_alike" = true) (k26 : PySem.W.keepIn K (.ref f26) = true)
    (a27 : PySem.W.nsIn K mainGlobals "_law_stepped" = some (some (.ref f27))) (l27 : K.lookup f27 = some ⟨oc27, od27, .func (PySem.W.fnOf "_law_stepped" "_law_stepped" (defArgs s_law_stepped) (defBody s_law_stepped) (defScope s_law_stepped) .none kV27 dc27 pm27 an27 cd27 ct27), sl27⟩) (c27 : PySem.W.codeIn K cd27 "_law_stepped" = true) (k27 : PySem.W.keepIn K (.ref f27) = true)
    (a28 : PySem.W.nsIn K mainGlobals "_law_walked" = some (some (.ref f28))) (l28 : K.lookup f28 = some ⟨oc28, od28, .func (PySem.W.fnOf "_law_walked" "_law_walked" (defArgs s_law_walked) (defBody s_law_walked) (defScope s_law_walked) .none kV28 dc28 pm28 an28 cd28 ct28), sl28⟩) (c28 : PySem.W.codeIn K cd28 "_law_walked" = true) (k28 : PySem.W.keepIn K (.ref f28) = true)
    (a29 : PySem.W.nsIn K mainGlobals "law" = some (some (.ref f29))) (l29 : K.lookup f29 = some ⟨oc29, od29, .func (PySem.W.fnOf "law" "law" (defArgs s_law) (defBody s_law) (defScope s_law) .none kV29 dc29 pm29 an29 cd29 ct29), sl29⟩) (c29 : PySem.W.codeIn K cd29 "law" = true) (k29 : PySem.W.keepIn K (.ref f29) = true)
    {tk_MOST_WITHIN : Tok} (g_MOST_WITHIN : PySem.W.nsIn K mainGlobals "MOST_WITHIN" = some (some (.int 6 tk_MOST_WITHIN)))
    {dt_STEPS : Addr} (ta_STEPS : PySem.W.nsIn K mainGlobals "STEPS" = some (some (.ref dt_STEPS))) (ts_STEPS : (dt_STEPS == sysModules) = false) (tb_STEPS : ftabOf K dt_STEPS = some [(hashStr w "answer", ("answer" : Str), f4), (hashStr w "often", ("often" : Str), f5), (hashStr w "within", ("within" : Str), f6), (hashStr w "never", ("never" : Str), f7), (hashStr w "not", ("not" : Str), f8), (hashStr w "only", ("only" : Str), f9), (hashStr w "hope", ("hope" : Str), f10), (hashStr w "calm", ("calm" : Str), f11)])
    {dt_NUMBER_KINDS : Addr} (ta_NUMBER_KINDS : PySem.W.nsIn K mainGlobals "NUMBER_KINDS" = some (some (.ref dt_NUMBER_KINDS))) (ts_NUMBER_KINDS : (dt_NUMBER_KINDS == sysModules) = false) (tb_NUMBER_KINDS : tabOf K dt_NUMBER_KINDS = some (tabNK.map fun p => (hashStr w p.1, p.1, p.2)))
    (z_bool : PySem.W.nsIn K mainGlobals "bool" = some none) (z_int : PySem.W.nsIn K mainGlobals "int" = some none) (z_isinstance : PySem.W.nsIn K mainGlobals "isinstance" = some none) (z_len : PySem.W.nsIn K mainGlobals "len" = some none) (z_range : PySem.W.nsIn K mainGlobals "range" = some none) (z_str : PySem.W.nsIn K mainGlobals "str" = some none) (z_tuple : PySem.W.nsIn K mainGlobals "tuple" = some none) (z_zip : PySem.W.nsIn K mainGlobals "zip" = some none) :
    ∃ fd : FuncData, (∀ (s : Shared) (v : Value), BindsTo s fd ⟨[v], []⟩ [("_law_script", v)]) ∧ ∀ base : Heap, K.In base → base.Ns mainGlobals mg → FnOk l.prog w K mg base CX0 7 fa fd ["_law_script"] (spLaw K) := by
  have e := hfa.symm.trans (PySem.W.mg_of X G a29)
  cases e
  have T : Txt mg := ⟨PySem.W.mg_none_of X G z_bool, PySem.W.mg_none_of X G z_int, PySem.W.mg_none_of X G z_isinstance, PySem.W.mg_none_of X G z_len, PySem.W.mg_none_of X G z_range, PySem.W.mg_none_of X G z_str, PySem.W.mg_none_of X G z_tuple, PySem.W.mg_none_of X G z_zip, ⟨_, PySem.W.mg_of X G g_MOST_WITHIN⟩⟩
  have KF_STEPS : KFunAt l.prog w K mg "STEPS" [("answer", "after_answer"), ("often", "after_often"), ("within", "after_within"), ("never", "after_never"), ("not", "after_not"), ("only", "after_only"), ("hope", "after_hope"), ("calm", "after_calm")] := by
    refine ftab_at (PySem.W.mg_of X G ta_STEPS) ts_STEPS tb_STEPS (fun p hp => ?_) (show List.Nodup (["answer", "often", "within", "never", "not", "only", "hope", "calm"] : List Str) by decide +kernel) (fun p hp => ?_)
    · simp only [List.mem_cons, List.not_mem_nil, or_false] at hp
      rcases hp with rfl | rfl | rfl | rfl | rfl | rfl | rfl | rfl <;> rfl
    · simp only [List.mem_cons, List.not_mem_nil, or_false] at hp
      rcases hp with rfl | rfl | rfl | rfl | rfl | rfl | rfl | rfl
      · exact ⟨(hashStr w "answer", ("answer" : Str), f4), List.mem_of_getElem? (i := 0) rfl, rfl, PySem.W.mg_of X G a4⟩
      · exact ⟨(hashStr w "often", ("often" : Str), f5), List.mem_of_getElem? (i := 1) rfl, rfl, PySem.W.mg_of X G a5⟩
      · exact ⟨(hashStr w "within", ("within" : Str), f6), List.mem_of_getElem? (i := 2) rfl, rfl, PySem.W.mg_of X G a6⟩
      · exact ⟨(hashStr w "never", ("never" : Str), f7), List.mem_of_getElem? (i := 3) rfl, rfl, PySem.W.mg_of X G a7⟩
      · exact ⟨(hashStr w "not", ("not" : Str), f8), List.mem_of_getElem? (i := 4) rfl, rfl, PySem.W.mg_of X G a8⟩
      · exact ⟨(hashStr w "only", ("only" : Str), f9), List.mem_of_getElem? (i := 5) rfl, rfl, PySem.W.mg_of X G a9⟩
      · exact ⟨(hashStr w "hope", ("hope" : Str), f10), List.mem_of_getElem? (i := 6) rfl, rfl, PySem.W.mg_of X G a10⟩
      · exact ⟨(hashStr w "calm", ("calm" : Str), f11), List.mem_of_getElem? (i := 7) rfl, rfl, PySem.W.mg_of X G a11⟩
  have KT_NUMBER_KINDS : KTabAt w K mg "NUMBER_KINDS" tabNK := ⟨dt_NUMBER_KINDS, PySem.W.mg_of X G ta_NUMBER_KINDS, ts_NUMBER_KINDS, tb_NUMBER_KINDS⟩
  have CL_Wish : ClsAt K mg "Wish" C_Wish ["word", "numbers"] := ⟨⟨cG_Wish, cD_Wish, cO_Wish, cS_Wish⟩, PySem.W.mg_of X G cA_Wish, fun f hf => by
    simp only [List.mem_cons, List.not_mem_nil, or_false] at hf
    rcases hf with rfl | rfl
    · exact cN_Wish_word
    · exact cN_Wish_numbers⟩
  have F1 := fun_mk (st := s_is_whole) l1 c1 k1
  have B1 := F1.binds (ps := ["value"]) fun _ _ _ _ _ _ => L2.arg1 fun _ => rfl
  have A1 : DefAt K mg "is_whole" s_is_whole ["value"] := ⟨f1, _, F1, PySem.W.mg_of X G a1, B1⟩
  have F2 := fun_mk (st := s_is_place) l2 c2 k2
  have B2 := F2.binds (ps := ["value", "count"]) fun _ _ _ _ _ _ => L2.arg2 fun _ _ => rfl
  have A2 : DefAt K mg "is_place" s_is_place ["value", "count"] := ⟨f2, _, F2, PySem.W.mg_of X G a2, B2⟩
  have F3 := fun_mk (st := s_has_bit) l3 c3 k3
  have B3 := F3.binds (ps := ["number", "bit"]) fun _ _ _ _ _ _ => L2.arg2 fun _ _ => rfl
  have A3 : DefAt K mg "has_bit" s_has_bit ["number", "bit"] := ⟨f3, _, F3, PySem.W.mg_of X G a3, B3⟩
  have F4 := fun_mk (st := s_after_answer) l4 c4 k4
  have B4 := F4.binds (ps := ["numbers", "state", "asks", "deeds"]) fun _ _ _ _ _ _ => L2.arg4 fun _ _ _ _ => rfl
  have A4 : DefAt K mg "after_answer" s_after_answer ["numbers", "state", "asks", "deeds"] := ⟨f4, _, F4, PySem.W.mg_of X G a4, B4⟩
  have F5 := fun_mk (st := s_after_often) l5 c5 k5
  have B5 := F5.binds (ps := ["numbers", "state", "asks", "deeds"]) fun _ _ _ _ _ _ => L2.arg4 fun _ _ _ _ => rfl
  have A5 : DefAt K mg "after_often" s_after_often ["numbers", "state", "asks", "deeds"] := ⟨f5, _, F5, PySem.W.mg_of X G a5, B5⟩
  have F6 := fun_mk (st := s_after_within) l6 c6 k6
  have B6 := F6.binds (ps := ["numbers", "state", "asks", "deeds"]) fun _ _ _ _ _ _ => L2.arg4 fun _ _ _ _ => rfl
  have A6 : DefAt K mg "after_within" s_after_within ["numbers", "state", "asks", "deeds"] := ⟨f6, _, F6, PySem.W.mg_of X G a6, B6⟩
  have F7 := fun_mk (st := s_after_never) l7 c7 k7
  have B7 := F7.binds (ps := ["numbers", "state", "asks", "deeds"]) fun _ _ _ _ _ _ => L2.arg4 fun _ _ _ _ => rfl
  have A7 : DefAt K mg "after_never" s_after_never ["numbers", "state", "asks", "deeds"] := ⟨f7, _, F7, PySem.W.mg_of X G a7, B7⟩
  have F8 := fun_mk (st := s_after_not) l8 c8 k8
  have B8 := F8.binds (ps := ["numbers", "state", "asks", "deeds"]) fun _ _ _ _ _ _ => L2.arg4 fun _ _ _ _ => rfl
  have A8 : DefAt K mg "after_not" s_after_not ["numbers", "state", "asks", "deeds"] := ⟨f8, _, F8, PySem.W.mg_of X G a8, B8⟩
  have F9 := fun_mk (st := s_after_only) l9 c9 k9
  have B9 := F9.binds (ps := ["numbers", "state", "asks", "deeds"]) fun _ _ _ _ _ _ => L2.arg4 fun _ _ _ _ => rfl
  have A9 : DefAt K mg "after_only" s_after_only ["numbers", "state", "asks", "deeds"] := ⟨f9, _, F9, PySem.W.mg_of X G a9, B9⟩
  have F10 := fun_mk (st := s_after_hope) l10 c10 k10
  have B10 := F10.binds (ps := ["numbers", "state", "asks", "deeds"]) fun _ _ _ _ _ _ => L2.arg4 fun _ _ _ _ => rfl
  have A10 : DefAt K mg "after_hope" s_after_hope ["numbers", "state", "asks", "deeds"] := ⟨f10, _, F10, PySem.W.mg_of X G a10, B10⟩
  have F11 := fun_mk (st := s_after_calm) l11 c11 k11
  have B11 := F11.binds (ps := ["numbers", "state", "asks", "deeds"]) fun _ _ _ _ _ _ => L2.arg4 fun _ _ _ _ => rfl
  have A11 : DefAt K mg "after_calm" s_after_calm ["numbers", "state", "asks", "deeds"] := ⟨f11, _, F11, PySem.W.mg_of X G a11, B11⟩
  have F12 := fun_mk (st := s_Wish___init__) l12 c12 k12
  have B12 := F12.binds (ps := ["self", "word", "numbers"]) fun _ _ _ _ _ _ => L2.arg3 fun _ _ _ => rfl
  have A12 : MkAt K C_Wish "Wish.__init__" s_Wish___init__ ["self", "word", "numbers"] := ⟨f12, _, F12, ⟨cM_Wish, a12, i12, cK_Wish⟩, B12⟩
  have F13 := fun_mk (st := s_Wish_after) l13 c13 k13
  have B13 := F13.binds (ps := ["self", "state", "asks", "deeds"]) fun _ _ _ _ _ _ => L2.arg4 fun _ _ _ _ => rfl
  have A13 : MeAt K C_Wish "after" "Wish.after" s_Wish_after ["self", "state", "asks", "deeds"] := ⟨f13, _, F13, ⟨a13, i13, k13⟩, B13⟩
  have F14 := fun_mk (st := s_check_wish) l14 c14 k14
  have B14 := F14.binds (ps := ["row", "asks", "deeds"]) fun _ _ _ _ _ _ => L2.arg3 fun _ _ _ => rfl
  have A14 : DefAt K mg "check_wish" s_check_wish ["row", "asks", "deeds"] := ⟨f14, _, F14, PySem.W.mg_of X G a14, B14⟩
  have F15 := fun_mk (st := s_wish_of) l15 c15 k15
  have B15 := F15.binds (ps := ["row", "asks", "deeds"]) fun _ _ _ _ _ _ => L2.arg3 fun _ _ _ => rfl
  have A15 : DefAt K mg "wish_of" s_wish_of ["row", "asks", "deeds"] := ⟨f15, _, F15, PySem.W.mg_of X G a15, B15⟩
  have F16 := fun_mk (st := s_law_cell_at) l16 c16 k16
  have B16 := F16.binds (ps := ["_law_script", "_law_k"]) fun _ _ _ _ _ _ => L2.arg2 fun _ _ => rfl
  have A16 : DefAt K mg "_law_cell_at" s_law_cell_at ["_law_script", "_law_k"] := ⟨f16, _, F16, PySem.W.mg_of X G a16, B16⟩
  have F17 := fun_mk (st := s_law_wishes) l17 c17 k17
  have B17 := F17.binds (ps := ["_law_script", "_law_asks", "_law_deeds"]) fun _ _ _ _ _ _ => L2.arg3 fun _ _ _ => rfl
  have A17 : DefAt K mg "_law_wishes" s_law_wishes ["_law_script", "_law_asks", "_law_deeds"] := ⟨f17, _, F17, PySem.W.mg_of X G a17, B17⟩
  have F18 := fun_mk (st := s_law_ticks) l18 c18 k18
  have B18 := F18.binds (ps := ["_law_script", "_law_asks", "_law_deeds"]) fun _ _ _ _ _ _ => L2.arg3 fun _ _ _ => rfl
  have A18 : DefAt K mg "_law_ticks" s_law_ticks ["_law_script", "_law_asks", "_law_deeds"] := ⟨f18, _, F18, PySem.W.mg_of X G a18, B18⟩
  have F19 := fun_mk (st := s_law_bit) l19 c19 k19
  have B19 := F19.binds (ps := ["_law_number", "_law_k"]) fun _ _ _ _ _ _ => L2.arg2 fun _ _ => rfl
  have A19 : DefAt K mg "_law_bit" s_law_bit ["_law_number", "_law_k"] := ⟨f19, _, F19, PySem.W.mg_of X G a19, B19⟩
  have F20 := fun_mk (st := s_law_last_done) l20 c20 k20
  have B20 := F20.binds (ps := ["_law_ticks_here", "_law_d", "_law_end"]) fun _ _ _ _ _ _ => L2.arg3 fun _ _ _ => rfl
  have A20 : DefAt K mg "_law_last_done" s_law_last_done ["_law_ticks_here", "_law_d", "_law_end"] := ⟨f20, _, F20, PySem.W.mg_of X G a20, B20⟩
  have F21 := fun_mk (st := s_law_raised) l21 c21 k21
  have B21 := F21.binds (ps := ["_law_ticks_here", "_law_a", "_law_start"]) fun _ _ _ _ _ _ => L2.arg3 fun _ _ _ => rfl
  have A21 : DefAt K mg "_law_raised" s_law_raised ["_law_ticks_here", "_law_a", "_law_start"] := ⟨f21, _, F21, PySem.W.mg_of X G a21, B21⟩
  have F22 := fun_mk (st := s_law_within) l22 c22 k22
  have B22 := F22.binds (ps := ["_law_ticks_here", "_law_wish"]) fun _ _ _ _ _ _ => L2.arg2 fun _ _ => rfl
  have A22 : DefAt K mg "_law_within" s_law_within ["_law_ticks_here", "_law_wish"] := ⟨f22, _, F22, PySem.W.mg_of X G a22, B22⟩
  have F23 := fun_mk (st := s_law_only) l23 c23 k23
  have B23 := F23.binds (ps := ["_law_ticks_here", "_law_wish"]) fun _ _ _ _ _ _ => L2.arg2 fun _ _ => rfl
  have A23 : DefAt K mg "_law_only" s_law_only ["_law_ticks_here", "_law_wish"] := ⟨f23, _, F23, PySem.W.mg_of X G a23, B23⟩
  have F24 := fun_mk (st := s_law_barred) l24 c24 k24
  have B24 := F24.binds (ps := ["_law_ticks_here", "_law_wish"]) fun _ _ _ _ _ _ => L2.arg2 fun _ _ => rfl
  have A24 : DefAt K mg "_law_barred" s_law_barred ["_law_ticks_here", "_law_wish"] := ⟨f24, _, F24, PySem.W.mg_of X G a24, B24⟩
  have F25 := fun_mk (st := s_law_due) l25 c25 k25
  have B25 := F25.binds (ps := ["_law_ticks_here", "_law_wish"]) fun _ _ _ _ _ _ => L2.arg2 fun _ _ => rfl
  have A25 : DefAt K mg "_law_due" s_law_due ["_law_ticks_here", "_law_wish"] := ⟨f25, _, F25, PySem.W.mg_of X G a25, B25⟩
  have F26 := fun_mk (st := s_law_alike) l26 c26 k26
  have B26 := F26.binds (ps := ["_law_found", "_law_due_here"]) fun _ _ _ _ _ _ => L2.arg2 fun _ _ => rfl
  have A26 : DefAt K mg "_law_alike" s_law_alike ["_law_found", "_law_due_here"] := ⟨f26, _, F26, PySem.W.mg_of X G a26, B26⟩
  have F27 := fun_mk (st := s_law_stepped) l27 c27 k27
  have B27 := F27.binds (ps := ["_law_heard", "_law_wish", "_law_walk", "_law_tick"]) fun _ _ _ _ _ _ => L2.arg4 fun _ _ _ _ => rfl
  have A27 : DefAt K mg "_law_stepped" s_law_stepped ["_law_heard", "_law_wish", "_law_walk", "_law_tick"] := ⟨f27, _, F27, PySem.W.mg_of X G a27, B27⟩
  have F28 := fun_mk (st := s_law_walked) l28 c28 k28
  have B28 := F28.binds (ps := ["_law_heard", "_law_wish", "_law_ticks_here"]) fun _ _ _ _ _ _ => L2.arg3 fun _ _ _ => rfl
  have A28 : DefAt K mg "_law_walked" s_law_walked ["_law_heard", "_law_wish", "_law_ticks_here"] := ⟨f28, _, F28, PySem.W.mg_of X G a28, B28⟩
  have F29 := fun_mk (st := s_law) l29 c29 k29
  refine ⟨PySem.W.fnOf "law" "law" (defArgs s_law) (defBody s_law) (defScope s_law) .none kV29 dc29 pm29 an29 cd29 ct29, fun s v => .of_eq rfl, fun base _ _ => ?_⟩
  exact main (P := l.prog) (w := w) (base := base) T KT_NUMBER_KINDS KF_STEPS CL_Wish A1 A2 A3 A4 A5 A6 A7 A8 A9 A10 A11 A12 A13 A14 A15 A16 A17 A18 A19 A20 A21 A22 A23 A24 A25 A26 A27 A28 F29
theorem walk {l : PySem.W.OpenLaw} {q : Program} {loose : List Str} {XP : (Str → Option Value) → Heap → Prop} {YP : World → Heap → Prop} {d : DefRec} {K : Params → PySem.W.Frag} (hn : l.most = some 63) (hdf : d.params.defaults = [])
    (hY : ∀ (w : World) (h : Heap), YP w h → (K w.params).In h)
    (F : ∀ (w : World) (mg : Str → Option Value) (fa : Addr) (h : Heap), (K w.params).In h → h.Ns mainGlobals mg → mg d.name = some (.ref fa) →
      ∃ fd : FuncData, (∀ (s : Shared) (u : Value), BindsTo s fd ⟨[u], []⟩ [("_law_script", u)]) ∧ ∀ base : Heap, (K w.params).In base → base.Ns mainGlobals mg → FnOk l.prog w (K w.params) mg base CX0 7 fa fd ["_law_script"] (spLaw (K w.params))) :
    PySem.W.WalkO q loose XP YP l.row.toRowW d [] (fun f vs => PySem.call f vs) :=
  L2.walk_of (n := 63) (k := 7) (x := "_law_script") (CX := fun _ => CX0) (sp := fun w => spLaw (K w.params)) hn (by decide) hdf ⟨rfl, by decide, by decide⟩ hY F (fun _ _ a ns hl _ hS => ⟨a, ns, rfl, hS, hl, fun _ => rfl⟩) fun _ _ _ _ _ z => z
theorem walkZ {l : PySem.W.OpenLaw} {q : Program} {loose : List Str} {XP : (Str → Option Value) → Heap → Prop} {d : DefRec} {K : Params → PySem.W.Frag} (hn : l.most = some 63) (hdf : d.params.defaults = [])
    (F : ∀ (w : World) (mg : Str → Option Value) (fa : Addr) (h : Heap), (K w.params).In h → h.Ns mainGlobals mg → mg d.name = some (.ref fa) →
      ∃ fd : FuncData, (∀ (s : Shared) (u : Value), BindsTo s fd ⟨[u], []⟩ [("_law_script", u)]) ∧ ∀ base : Heap, (K w.params).In base → base.Ns mainGlobals mg → FnOk l.prog w (K w.params) mg base CX0 7 fa fd ["_law_script"] (spLaw (K w.params))) :
    PySem.W.WalkO q loose XP (fun w h => (K w.params).In h) l.row.toRowW d [] (fun f vs => PySem.call f vs) := walk hn hdf (fun _ _ Y => Y) F
end Law
open PySem PySem.W PyProof.Rows PySem.W.X PySem.W.ZRun
set_option maxRecDepth 100000 in
set_option maxHeartbeats 0 in
theorem PySem.Challenge.cw_rankgarth_k54_wishes_by_their_ticks_holds : PySem.Challenge.rw_rankgarth_k54_wishes_by_their_ticks.Holds := by
  w_on; o_law; z_head; (case hw => w_witness2)
  k_fill
  intro w s₀ s₁ mg mb G y fa o pm cd doc dV kV ho hd hcd hD hmg hg args vals as L hpre hlay hrd hwl hlo
  z_open y L KX ZH ZN ZT
  refine Law.walkZ (l := PySem.Challenge.rw_rankgarth_k54_wishes_by_their_ticks) rfl rfl ?F w s₀ s₁ mg mb G KX fa o pm cd doc dV kV ho hd hcd hD hmg hg args vals as hpre hlay hrd hwl hlo
  case F =>
    intro w mg fa h KX G hmg
    refine' Law.all_mk KX G hmg ?cA_Wish ?cG_Wish ?cD_Wish ?cO_Wish ?cS_Wish ?cM_Wish ?cK_Wish ?cN_Wish_word ?cN_Wish_numbers  ?a1 ?l1 ?c1 ?k1 ?a2 ?l2 ?c2 ?k2 ?a3 ?l3 ?c3 ?k3 ?a4 ?l4 ?c4 ?k4 ?a5 ?l5 ?c5 ?k5 ?a6 ?l6 ?c6 ?k6 ?a7 ?l7 ?c7 ?k7 ?a8 ?l8 ?c8 ?k8 ?a9 ?l9 ?c9 ?k9 ?a10 ?l10 ?c10 ?k10 ?a11 ?l11 ?c11 ?k11 ?a12 ?i12 ?l12 ?c12 ?k12 ?a13 ?i13 ?l13 ?c13 ?k13 ?a14 ?l14 ?c14 ?k14 ?a15 ?l15 ?c15 ?k15 ?a16 ?l16 ?c16 ?k16 ?a17 ?l17 ?c17 ?k17 ?a18 ?l18 ?c18 ?k18 ?a19 ?l19 ?c19 ?k19 ?a20 ?l20 ?c20 ?k20 ?a21 ?l21 ?c21 ?k21 ?a22 ?l22 ?c22 ?k22 ?a23 ?l23 ?c23 ?k23 ?a24 ?l24 ?c24 ?k24 ?a25 ?l25 ?c25 ?k25 ?a26 ?l26 ?c26 ?k26 ?a27 ?l27 ?c27 ?k27 ?a28 ?l28 ?c28 ?k28 ?a29 ?l29 ?c29 ?k29 ?g_MOST_WITHIN ?ta_STEPS ?ts_STEPS ?tb_STEPS ?ta_NUMBER_KINDS ?ts_NUMBER_KINDS ?tb_NUMBER_KINDS ?z_bool ?z_int ?z_isinstance ?z_len ?z_range ?z_str ?z_tuple ?z_zip
    (case cA_Wish => k_is)
    (case cG_Wish => k_is)
    (case cD_Wish => k_is)
    (case cO_Wish => k_is)
    (case cS_Wish => k_is)
    (case cM_Wish => k_is)
    (case cK_Wish => k_is)
    (case cN_Wish_word => k_is)
    (case cN_Wish_numbers => k_is)
    (case a1 => k_is); (case l1 => k_is); (case c1 => k_is); (case k1 => k_is)
    (case a2 => k_is); (case l2 => k_is); (case c2 => k_is); (case k2 => k_is)
    (case a3 => k_is); (case l3 => k_is); (case c3 => k_is); (case k3 => k_is)
    (case a4 => k_is); (case l4 => k_is); (case c4 => k_is); (case k4 => k_is)
    (case a5 => k_is); (case l5 => k_is); (case c5 => k_is); (case k5 => k_is)
    (case a6 => k_is); (case l6 => k_is); (case c6 => k_is); (case k6 => k_is)
    (case a7 => k_is); (case l7 => k_is); (case c7 => k_is); (case k7 => k_is)
    (case a8 => k_is); (case l8 => k_is); (case c8 => k_is); (case k8 => k_is)
    (case a9 => k_is); (case l9 => k_is); (case c9 => k_is); (case k9 => k_is)
    (case a10 => k_is); (case l10 => k_is); (case c10 => k_is); (case k10 => k_is)
    (case a11 => k_is); (case l11 => k_is); (case c11 => k_is); (case k11 => k_is)
    (case a12 => k_is); (case i12 => k_is); (case l12 => k_is); (case c12 => k_is); (case k12 => k_is)
    (case a13 => k_is); (case i13 => k_is); (case l13 => k_is); (case c13 => k_is); (case k13 => k_is)
    (case a14 => k_is); (case l14 => k_is); (case c14 => k_is); (case k14 => k_is)
    (case a15 => k_is); (case l15 => k_is); (case c15 => k_is); (case k15 => k_is)
    (case a16 => k_is); (case l16 => k_is); (case c16 => k_is); (case k16 => k_is)
    (case a17 => k_is); (case l17 => k_is); (case c17 => k_is); (case k17 => k_is)
    (case a18 => k_is); (case l18 => k_is); (case c18 => k_is); (case k18 => k_is)
    (case a19 => k_is); (case l19 => k_is); (case c19 => k_is); (case k19 => k_is)
    (case a20 => k_is); (case l20 => k_is); (case c20 => k_is); (case k20 => k_is)
    (case a21 => k_is); (case l21 => k_is); (case c21 => k_is); (case k21 => k_is)
    (case a22 => k_is); (case l22 => k_is); (case c22 => k_is); (case k22 => k_is)
    (case a23 => k_is); (case l23 => k_is); (case c23 => k_is); (case k23 => k_is)
    (case a24 => k_is); (case l24 => k_is); (case c24 => k_is); (case k24 => k_is)
    (case a25 => k_is); (case l25 => k_is); (case c25 => k_is); (case k25 => k_is)
    (case a26 => k_is); (case l26 => k_is); (case c26 => k_is); (case k26 => k_is)
    (case a27 => k_is); (case l27 => k_is); (case c27 => k_is); (case k27 => k_is)
    (case a28 => k_is); (case l28 => k_is); (case c28 => k_is); (case k28 => k_is)
    (case a29 => k_is); (case l29 => k_is); (case c29 => k_is); (case k29 => k_is)
    (case g_MOST_WITHIN => k_is)
    (case ta_STEPS => k_is); (case ts_STEPS => decide); (case tb_STEPS => kernel_rfl)
    (case ta_NUMBER_KINDS => k_is); (case ts_NUMBER_KINDS => decide); (case tb_NUMBER_KINDS => kernel_rfl)
    (case z_bool => k_is)
    (case z_int => k_is)
    (case z_isinstance => k_is)
    (case z_len => k_is)
    (case z_range => k_is)
    (case z_str => k_is)
    (case z_tuple => k_is)
    (case z_zip => k_is)
