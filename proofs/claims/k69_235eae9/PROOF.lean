import PyProof.Rows.All
import Wide.All
import OpenK.AllK
import Wide.FinOn
import Lean
import PyProof.EqAt
import PyProof.EqKinds
import PyProof.TupleCall
import PyProof.NeKinds
import KE.KDictSum
import PyProof.Rows.SetFrom
import KE.KSortTup
import PyProof.StrReplace2
import PyProof.StrOps2
import PySem.Challenge.RW_rankgarth_k69_texts_of_games_refused
set_option Elab.async false
set_option linter.all false
set_option maxRecDepth 100000
namespace L2
open PySem PySem.Spec PyProof.Rows
abbrev Key := Sum Int Str
def keyIs : Key → Value → Bool
  | .inl k, v => Value.isInt k v
  | .inr x, v => Value.isStrOf x v
def keyH (w : World) : Key → Int
  | .inl k => hashInt k
  | .inr x => hashStr w x
theorem keyIs_shape : ∀ {k : Key} {v : Value}, keyIs k v = true → (∃ i t, k = Sum.inl i ∧ v = Value.int i t) ∨ (∃ x t, k = Sum.inr x ∧ v = Value.str x t)
  | .inl i, v, h => by
    obtain ⟨t, e⟩ := Value.isInt_shape (k := i) (v := v) h
    exact .inl ⟨i, t, rfl, e⟩
  | .inr x, v, h => by
    obtain ⟨t, e⟩ := Value.isStrOf_shape (x := x) (v := v) h
    exact .inr ⟨x, t, rfl, e⟩
theorem keyIs_int (i : Int) (t : Tok) : keyIs (.inl i) (.int i t) = true := by simp [keyIs, Value.isInt]
theorem keyIs_str (x : Str) (t : Tok) : keyIs (.inr x) (.str x t) = true := by simp [keyIs, Value.isStrOf]
theorem key_ll (a b : Int) : decide ((Sum.inl a : Key) = Sum.inl b) = (a == b) := by
  by_cases e : a = b
  · subst e; simp
  · have h : ¬ (Sum.inl a : Key) = Sum.inl b := fun q => e (Sum.inl.inj q)
    rw [decide_eq_false h]
    exact (beq_eq_false_iff_ne.mpr e).symm
theorem key_rr (a b : Str) : decide ((Sum.inr a : Key) = Sum.inr b) = decide (a = b) := by
  by_cases e : a = b
  · subst e; simp
  · have h : ¬ (Sum.inr a : Key) = Sum.inr b := fun q => e (Sum.inr.inj q)
    rw [decide_eq_false h, decide_eq_false e]
theorem key_lr (a : Int) (b : Str) : decide ((Sum.inl a : Key) = Sum.inr b) = false := decide_eq_false (fun q => nomatch q)
theorem key_rl (a : Str) (b : Int) : decide ((Sum.inr a : Key) = Sum.inl b) = false := decide_eq_false (fun q => nomatch q)
def mixKind (prog : Program) (w : World) : PySem.KeyKind prog w Key where
  is := keyIs
  hash := keyH w
  inj := fun v a b ha hb => by
    rcases keyIs_shape ha with ⟨i, t, rfl, rfl⟩ | ⟨x, t, rfl, rfl⟩
    · rcases keyIs_shape hb with ⟨j, u, rfl, e⟩ | ⟨y, u, rfl, e⟩
      · injection e with e1 _; rw [e1]
      · exact nomatch e
    · rcases keyIs_shape hb with ⟨j, u, rfl, e⟩ | ⟨y, u, rfl, e⟩
      · exact nomatch e
      · injection e with e1 _; rw [e1]
  byValue := fun k v h => by
    rcases keyIs_shape h with ⟨i, t, rfl, rfl⟩ | ⟨x, t, rfl, rfl⟩ <;> rfl
  pyHash := fun hv h => by
    rcases keyIs_shape hv with ⟨i, t, rfl, rfl⟩ | ⟨x, t, rfl, rfl⟩
    · exact wpAny_pyHash_int h
    · exact wpAny_pyHash_str h
  eqBool := fun hu hv h => by
    rcases keyIs_shape hu with ⟨i, t, rfl, rfl⟩ | ⟨x, t, rfl, rfl⟩
    · rcases keyIs_shape hv with ⟨j, u, rfl, rfl⟩ | ⟨y, u, rfl, rfl⟩
      · rw [key_ll] at h; exact wpAny_eqBool_int h
      · rw [key_lr] at h; exact SeqAt.EqAt.int_str i t y u _ _ _ _ h
    · rcases keyIs_shape hv with ⟨j, u, rfl, rfl⟩ | ⟨y, u, rfl, rfl⟩
      · rw [key_rl] at h; exact SeqAt.EqAt.str_int x t j u _ _ _ _ h
      · rw [key_rr] at h; exact wpAny_eqBool_str h
  «strs» := fun k x t v h => by
    rcases keyIs_shape h with ⟨i, u, rfl, e⟩ | ⟨y, u, rfl, e⟩
    · exact nomatch e
    · injection e with e1 _
      subst e1
      cases v <;> rfl
theorem mixKind_int (prog : Program) (w : World) (i : Int) (t : Tok) : (mixKind prog w).is (.inl i) (.int i t) = true := keyIs_int i t
theorem mixKind_str (prog : Program) (w : World) (x : Str) (t : Tok) : (mixKind prog w).is (.inr x) (.str x t) = true := keyIs_str x t
end L2
namespace L2
open PySem PySem.Spec PyProof.Rows
inductive V where
  | non | bl (b : Bool) | int (i : Int) | str (x : Str) | byt (b : Array UInt8) | flt (b : UInt64) | ref (a : Addr) | ty (n : String)
  deriving DecidableEq
def RelV : V → Value → Prop
  | .non, u => u = Value.none
  | .bl b, u => u = Value.bool b
  | .int i, u => ∃ t, u = Value.int i t
  | .str x, u => ∃ t, u = Value.str x t
  | .byt b, u => ∃ t, u = Value.bytes b t
  | .flt b, u => ∃ t, u = Value.float b t
  | .ref a, u => u = Value.ref a
  | .ty n, u => u = Value.type n
abbrev Vals : List V → List Value → Prop := Paired RelV
theorem Vals.length {xs : List V} {us : List Value} (r : Vals xs us) : xs.length = us.length := Paired.length r
theorem Vals.get : ∀ {xs : List V} {us : List Value} {i : Nat} {x : V}, Vals xs us → xs[i]? = some x → ∃ u, us[i]? = some u ∧ RelV x u
  | _, _, _, _, .nil, e => by simp at e
  | _, _, 0, _, .cons r _, e => by simp at e; subst e; exact ⟨_, rfl, r⟩
  | _, _, i + 1, x, .cons _ t, e => by
    obtain ⟨u, h1, h2⟩ := Vals.get (i := i) (x := x) t (by simpa using e)
    exact ⟨u, by simpa using h1, h2⟩
theorem Vals.set {x : V} {u : Value} (r : RelV x u) : ∀ {xs : List V} {us : List Value} (i : Nat), Vals xs us → Vals (xs.set i x) (us.set i u)
  | _, _, _, .nil => .nil
  | _, _, 0, .cons _ t => .cons r t
  | _, _, i + 1, .cons q t => .cons q (Vals.set r i t)
theorem Vals.append : ∀ {xs ys : List V} {us ws : List Value}, Vals xs us → Vals ys ws → Vals (xs ++ ys) (us ++ ws)
  | _, _, _, _, .nil, s => s
  | _, _, _, _, .cons r t, s => .cons r (Vals.append t s)
theorem Vals.take : ∀ {xs : List V} {us : List Value} (n : Nat), Vals xs us → Vals (xs.take n) (us.take n)
  | _, _, 0, _ => .nil
  | _, _, _ + 1, .nil => .nil
  | _, _, n + 1, .cons r t => .cons r (Vals.take n t)
theorem Vals.drop : ∀ {xs : List V} {us : List Value} (n : Nat), Vals xs us → Vals (xs.drop n) (us.drop n)
  | _, _, 0, r => r
  | _, _, _ + 1, .nil => .nil
  | _, _, n + 1, .cons _ t => Vals.drop n t
def RelO : Option V → Option Value → Prop
  | some v, some u => RelV v u
  | none, none => True
  | _, _ => False
def KV {κ : Type} : List (κ × V) → List (κ × Value) → Prop := Paired fun (p : κ × V) (q : κ × Value) => p.1 = q.1 ∧ RelV p.2 q.2
def kV : Key → V
  | .inl i => .int i
  | .inr x => .str x
inductive HO where
    | lst (xs : List V)
    | tup (xs : List V)
    | dK (kvs : List (Key × V)) | dT (kvs : List (List Key × V))
    | set (S : Int → Bool) (n : Nat)
    | ins (C dx : Addr) (fs : List (Str × V))
    | own (x : Addr)
    | xd (fs : List (Str × V))
    | met (f x : Addr)
    | rng (lo hi : Int)
    | frz (o : Obj) (u : HO)
    | tbl (ps : Array Value)
    | ext (φ : Heap → Prop)
abbrev Hp := Addr → Option HO
def upd (H : Hp) (a : Addr) (o : HO) : Hp := fun b => if b = a then some o else H b
theorem upd_same {H : Hp} {a : Addr} {o : HO} : upd H a o a = some o := by unfold upd; rw [if_pos rfl]
theorem upd_ne {H : Hp} {a b : Addr} {o : HO} (h : b ≠ a) : upd H a o b = H b := by unfold upd; rw [if_neg h]
theorem ne_of_none {H : Hp} {a b : Addr} {o : HO} (h : H a = some o) (h' : H b = none) : a ≠ b := by
  intro e; subst e; rw [h] at h'; cases h'
section
variable (P : Program) (w : World)
def ObjOk (H : Hp) (h : Heap) (a : Addr) : HO → Prop
  | .lst xs => xs.length ≤ sizeLine ∧ ∃ (its : List Value) (n : Nat), Vals xs its ∧ h.get? a = some { cls := .type "list", data := .seq its.toArray n }
  | .tup xs => xs.length ≤ sizeLine ∧ ∃ its : List Value, Vals xs its ∧ IsTup h a its.toArray
  | .dK kvs => kvs.length ≤ sizeLine ∧ (a == sysModules) = false ∧ ∃ vs, KV kvs vs ∧ h.DictOf (mixKind P w) a vs
  | .dT kvs => kvs.length ≤ sizeLine ∧ (a == sysModules) = false ∧ ∃ xs : List (List Key × Addr × Value),
      Paired (fun (p : List Key × V) (q : List Key × Addr × Value) => p.1 = q.1 ∧ H q.2.1 = some (.tup (p.1.map kV)) ∧ RelV p.2 q.2.2) kvs xs ∧
      ∃ o es ep, h.get? a = some o ∧ o.ExactDict ∧ o.data = .dict es ep ∧ es.toList = xs.map (entryOfKey (tupleKind (mixKind P w))) ∧ (xs.map (·.1)).Nodup
  | .set S n => h.SetOf (intKind P w) a S n
  | .ins C dx fs => H dx = some (.own a) ∧ fs.length ≤ 1000 ∧ dx ≠ a ∧ h.get? a = some (PySem.W.instObj C dx) ∧
      ∃ mA, h.Ns1 dx mA ∧ (∀ f, RelO (fs.lookup f) (mA f)) ∧ PySem.Within mA (fs.map (·.1))
  | .own _ => ∃ o, h.get? a = some o
  | .xd fs => ∃ mA, h.Ns1 a mA ∧ ∀ f, RelO (fs.lookup f) (mA f)
  | .rng lo hi => ∃ t u v, h.get? a = some { cls := .type "range", data := .fields #[.int lo t, .int hi u, .int 1 v] }
  | .frz o u => h.get? a = some o ∧ ObjOk H h a u
  | .tbl ps => h.get? a = some { cls := .none, data := .fields ps }
  | .met f x => h.get? a = some (PySem.W.methodObj (.ref f) (.ref x))
  | .ext φ => φ h ∧ (∃ o, h.get? a = some o) ∧ ∀ h1 h2 : Heap, φ h1 → (∀ o, h1.get? a = some o → h2.get? a = some o) → φ h2
def HOk (H : Hp) (h : Heap) : Prop := ∀ a o, H a = some o → ObjOk P w H h a o
end
section
variable {P : Program} {w : World} {H H' : Hp} {h h' : Heap} {a : Addr} {o : HO}
theorem ObjOk.lt (x : ObjOk P w H h a o) : a < h.objs.size := by
  cases o with
  | lst xs => obtain ⟨_, _, _, _, e⟩ := x; exact Heap.lt_size e
  | tup xs => obtain ⟨_, _, _, p⟩ := x; exact p.lt
  | dK kvs => obtain ⟨_, _, _, _, o, _, _, e, _⟩ := x; exact Heap.lt_size e
  | dT kvs => obtain ⟨_, _, _, _, o, _, _, e, _⟩ := x; exact Heap.lt_size e
  | set S n => obtain ⟨o, _, _, _, e, _⟩ := x; exact Heap.lt_size e
  | ins C dx fs => obtain ⟨_, _, _, e, _⟩ := x; exact Heap.lt_size e
  | own y => obtain ⟨_, e⟩ := x; exact Heap.lt_size e
  | xd fs => obtain ⟨_, ⟨_, _, _, e, _⟩, _⟩ := x; exact Heap.lt_size e
  | rng lo hi => obtain ⟨_, _, _, e⟩ := x; exact Heap.lt_size e
  | frz ob u => obtain ⟨e, _⟩ := x; exact Heap.lt_size e
  | tbl ps => exact Heap.lt_size (show h.get? a = some _ from x)
  | met f y => exact Heap.lt_size (show h.get? a = some _ from x)
  | ext φ => obtain ⟨_, ⟨_, e⟩, _⟩ := x; exact Heap.lt_size e
theorem Paired.mapP {α β : Type} {F G : α → β → Prop} : ∀ {l₁ : List α} {l₂ : List β}, Paired F l₁ l₂ → (∀ a b, F a b → G a b) → Paired G l₁ l₂
  | _, _, .nil, _ => .nil
  | _, _, .cons r t, f => .cons (f _ _ r) (Paired.mapP t f)
theorem ObjOk.stay (x : ObjOk P w H h a o) (k : ∀ b u, (b = a ∨ H b = some (.own a)) → h.get? b = some u → h'.get? b = some u)
    (ho : ∀ b, H b = some (.own a) → H' b = some (.own a)) (ht : ∀ b xs, H b = some (.tup xs) → H' b = some (.tup xs)) : ObjOk P w H' h' a o := by
  induction o with
  | lst xs => obtain ⟨z, its, n, r, e⟩ := x; exact ⟨z, its, n, r, k _ _ (.inl rfl) e⟩
  | tup xs => obtain ⟨z, its, r, ob, e, c⟩ := x; exact ⟨z, its, r, ob, k _ _ (.inl rfl) e, c⟩
  | dK kvs => obtain ⟨z, y, vs, r, ob, es, ep, e, c⟩ := x; exact ⟨z, y, vs, r, ob, es, ep, k _ _ (.inl rfl) e, c⟩
  | dT kvs =>
    obtain ⟨z, y, xs, r, ob, es, ep, e, c⟩ := x
    exact ⟨z, y, xs, Paired.mapP r fun p q z => ⟨z.1, ht _ _ z.2.1, z.2.2⟩, ob, es, ep, k _ _ (.inl rfl) e, c⟩
  | set S n => obtain ⟨ob, es, ep, t, e, c⟩ := x; exact ⟨ob, es, ep, t, k _ _ (.inl rfl) e, c⟩
  | ins C dx fs =>
    obtain ⟨d, z, ne, e, mA, ⟨od, es, ep, e2, c⟩, r⟩ := x
    exact ⟨ho _ d, z, ne, k _ _ (.inl rfl) e, mA, ⟨od, es, ep, k _ _ (.inr d) e2, c⟩, r⟩
  | own y => obtain ⟨ob, e⟩ := x; exact ⟨ob, k _ _ (.inl rfl) e⟩
  | xd fs => obtain ⟨mA, ⟨od, es, ep, e, c⟩, r⟩ := x; exact ⟨mA, ⟨od, es, ep, k _ _ (.inl rfl) e, c⟩, r⟩
  | rng lo hi => obtain ⟨t, u, v, e⟩ := x; exact ⟨t, u, v, k _ _ (.inl rfl) e⟩
  | frz ob u ih => obtain ⟨e, q⟩ := x; exact ⟨k _ _ (.inl rfl) e, ih q⟩
  | tbl ps =>
    have e : h.get? a = some { cls := .none, data := .fields ps } := x
    show h'.get? a = some { cls := .none, data := .fields ps }
    exact k a _ (.inl rfl) e
  | met f y =>
    have e : h.get? a = some (PySem.W.methodObj (.ref f) (.ref y)) := x
    show h'.get? a = some (PySem.W.methodObj (.ref f) (.ref y))
    exact k a _ (.inl rfl) e
  | ext φ => obtain ⟨p, ⟨o, e⟩, st⟩ := x; exact ⟨st _ _ p fun o q => k _ _ (.inl rfl) q, ⟨o, k _ _ (.inl rfl) e⟩, st⟩
theorem HOk.lt (x : HOk P w H h) (e : H a = some o) : a < h.objs.size := (x a o e).lt
theorem HOk.fresh (x : HOk P w H h) (e : h.objs.size ≤ a) : H a = none := by
  cases q : H a with
  | none => rfl
  | some u => exact absurd (Nat.lt_of_lt_of_le (x.lt q) e) (Nat.lt_irrefl _)
theorem HOk.kept (x : HOk P w H h) (k : ∀ b u, h.get? b = some u → h'.get? b = some u) : HOk P w H h' := fun a o e =>
  (x a o e).stay (fun b u _ q => k b u q) (fun _ q => q) fun _ _ q => q
theorem HOk.laid (x : HOk P w H h) (k : ∀ b u, h.get? b = some u → h'.get? b = some u) (hp : h.objs.size ≤ a) (new : ObjOk P w (upd H a o) h' a o) : HOk P w (upd H a o) h' := fun b u e => by
  have hn := x.fresh hp
  by_cases hb : b = a
  · subst hb; rw [upd_same] at e; cases e; exact new
  · rw [upd_ne hb] at e
    exact (x b u e).stay (fun c v _ q => k c v q) (fun c q => by rw [upd_ne (ne_of_none q hn)]; exact q) fun c xs q => by rw [upd_ne (ne_of_none q hn)]; exact q
end
def Rd (H : Hp) (a : Addr) (u : HO) : Prop := H a = some u ∨ ∃ o, H a = some (.frz o u)
theorem Rd.ok {P : Program} {w : World} {H : Hp} {h : Heap} {a : Addr} {u : HO} (r : Rd H a u) (x : HOk P w H h) : ObjOk P w H h a u := by
  rcases r with r | ⟨o, r⟩
  · exact x a u r
  · obtain ⟨_, q⟩ := x a _ r
    exact q
def Mut : Option HO → Prop
  | some (.lst _) => True
  | some (.dK _) => True
  | some (.dT _) => True
  | some (.set _ _) => True
  | some (.ins _ _ _) => True
  | some (.ext _) => True
  | _ => False
section
variable {P : Program} {w : World} {H : Hp} {h h' : Heap} {x e : Addr} {o' : HO}
theorem HOk.write (ok : HOk P w H h) (mu : Mut (H x)) (he : e = x ∨ H e = some (.own x)) (k : ∀ b u, b ≠ e → h.get? b = some u → h'.get? b = some u) (heo : ∃ u, h'.get? e = some u)
    (new : ObjOk P w (upd H x o') h' x o') : HOk P w (upd H x o') h' := fun b u q => by
  have nown : ∀ c y, H c = some (.own y) → c ≠ x := fun c y r z => by subst z; rw [r] at mu; exact mu
  have ntup : ∀ c xs, H c = some (.tup xs) → c ≠ x := fun c xs r z => by subst z; rw [r] at mu; exact mu
  by_cases hb : b = x
  · subst hb; rw [upd_same] at q; cases q; exact new
  · rw [upd_ne hb] at q
    by_cases hbe : b = e
    · have q' : H b = some (.own x) := by
        rcases he with z | z
        · exact absurd (hbe.trans z) hb
        · rw [hbe]; exact z
      rw [q] at q'; cases q'
      obtain ⟨v, hv⟩ := heo
      exact ⟨v, by rw [hbe]; exact hv⟩
    · refine (ok b u q).stay (fun c v hc r => k c v ?_ r) (fun c r => by rw [upd_ne (nown c b r)]; exact r) fun c xs r => by rw [upd_ne (ntup c xs r)]; exact r
      rcases hc with rfl | hc
      · exact hbe
      · rintro rfl
        rcases he with z | z
        · exact nown c b hc z
        · rw [hc] at z; cases z; exact hb rfl
end
structure Un (fs ex : List Addr) (H H' : Hp) (h h' : Heap) : Prop where
  keep : ∀ b o, h.get? b = some o → H b = none → b ∉ fs → b ∉ ex → h'.get? b = some o
  slot : ∀ b o, h.get? b = some o → H b = none → b ∈ fs → b ∉ ex → ∃ sl, h'.get? b = some { o with slots := sl }
  free : ∀ b o, h.get? b = some o → H b = none → b ∉ ex → H' b = none
  there : ∀ b o, h.get? b = some o → b ∉ ex → ∃ o', h'.get? b = some o'
  tups : ∀ b xs, H b = some (.tup xs) → H' b = some (.tup xs)
  frzs : ∀ b o u, H b = some (.frz o u) → H' b = some (.frz o u)
  tbls : ∀ b ps, H b = some (.tbl ps) → ∃ more, H' b = some (.tbl (ps ++ more))
section
variable {fs fs' ex ex' : List Addr} {H H1 H2 : Hp} {h h1 h2 h' : Heap} {a x e : Addr} {o : HO}
theorem Un.any (u : Un fs ex H H1 h h1) {b : Addr} {ob : Obj} (q : h.get? b = some ob) (n : H b = none) (hx : b ∉ ex) : ∃ sl, h1.get? b = some { ob with slots := sl } := by
  by_cases hb : b ∈ fs
  · exact u.slot b ob q n hb hx
  · exact ⟨ob.slots, u.keep b ob q n hb hx⟩
theorem Un.kept (k : ∀ b u, h.get? b = some u → h'.get? b = some u) : Un fs ex H H h h' :=
  ⟨fun b ob q _ _ _ => k b ob q, fun b ob q _ _ _ => ⟨ob.slots, k b ob q⟩, fun _ _ _ n _ => n, fun b ob q _ => ⟨ob, k b ob q⟩, fun _ _ q => q, fun _ _ _ q => q, fun _ ps q => ⟨#[], by rw [q]; simp⟩⟩
theorem Un.refl : Un fs ex H H h h := Un.kept fun _ _ q => q
theorem Un.laid (k : ∀ b u, h.get? b = some u → h'.get? b = some u) (hp : h.objs.size ≤ a) (hn : H a = none) : Un fs ex H (upd H a o) h h' where
  keep := fun b u q _ _ _ => k b u q
  slot := fun b u q _ _ _ => ⟨u.slots, k b u q⟩
  free := fun b u q n _ => by rw [upd_ne (Nat.ne_of_lt (Nat.lt_of_lt_of_le (Heap.lt_size q) hp))]; exact n
  there := fun b u q _ => ⟨u, k b u q⟩
  tups := fun b xs q => by rw [upd_ne (ne_of_none q hn)]; exact q
  frzs := fun b u xs q => by rw [upd_ne (ne_of_none q hn)]; exact q
  tbls := fun b ps q => ⟨#[], by rw [upd_ne (ne_of_none q hn), q]; simp⟩
theorem Un.write (mu : Mut (H x)) (he : e = x ∨ H e = some (.own x)) (k : ∀ b u, b ≠ e → h.get? b = some u → h'.get? b = some u) (heo : ∃ u, h'.get? e = some u) : Un fs ex H (upd H x o) h h' := by
  have hx : ∀ b, H b = none → b ≠ x := fun b n z => by subst z; rw [n] at mu; exact mu
  have hb : ∀ b, H b = none → b ≠ e := fun b n z => by
    subst z
    rcases he with r | r
    · exact hx b n r
    · rw [n] at r; cases r
  have hm : ∀ b u, H b = some u → ¬ Mut (some u) → b ≠ x := fun b u q nm z => by subst z; rw [q] at mu; exact nm mu
  refine ⟨fun b u q n _ _ => k b u (hb b n) q, fun b u q n _ _ => ⟨u.slots, k b u (hb b n) q⟩, fun b u q n _ => by rw [upd_ne (hx b n)]; exact n, fun b u q _ => ?_,
    fun b xs q => by rw [upd_ne (hm b _ q fun z => z)]; exact q, fun b u xs q => by rw [upd_ne (hm b _ q fun z => z)]; exact q, fun b ps q => ⟨#[], by rw [upd_ne (hm b _ q fun z => z), q]; simp⟩⟩
  by_cases hbe : b = e
  · subst hbe; exact heo
  · exact ⟨u, k b u hbe q⟩
end
def trk (h : Heap) (H : Hp) : List Addr := (List.range h.objs.size).filter fun a => (H a).isSome
def hidT (h : Heap) (H : Hp) : Heap := PySem.W.hideAll h (trk h H)
theorem hidT_size (h : Heap) (H : Hp) : (hidT h H).objs.size = h.objs.size := PySem.W.hideAll_size _ _
theorem hidT_get {h : Heap} {H : Hp} {b : Addr} {o : Obj} (e : h.get? b = some o) (n : H b = none) : (hidT h H).get? b = some o :=
  PySem.W.hideAll_get _ e fun hm => by
    have q : (H b).isSome = true := (List.mem_filter.mp hm).2
    rw [n] at q; simp at q
theorem of_hidT {h : Heap} {H : Hp} {b : Addr} {o : Obj} (e : (hidT h H).get? b = some o) : h.get? b = some o ∧ H b = none := by
  have e' : h.get? b = some o := PySem.W.of_hideAll (trk h H) e
  refine ⟨e', ?_⟩
  cases q : H b with
  | none => rfl
  | some x =>
    have hm : b ∈ trk h H := List.mem_filter.mpr ⟨List.mem_range.mpr (Heap.lt_size e'), by simp [q]⟩
    have z : (hidT h H).get? b = none := PySem.W.hideAll_none (trk h H) hm
    rw [z] at e; cases e
end L2
namespace L2
open PySem PySem.Spec PyProof.Rows
structure Mod (K : PySem.W.Frag) (mg : Str → Option Value) (base : Heap) : Prop where
  kin : K.In base
  glob : base.Ns mainGlobals mg
  blt : ∃ mb, base.Ns builtinsNs mb ∧ ∀ x : Str, x ≠ "__name__" → mb x = bootBuiltins x
  nolimit : base.NoLimit
structure Cx where
  prog : Program
  w : World
  K : PySem.W.Frag
  mg : Str → Option Value
  base : Heap
  A : Around
  N : List Str
  s₀ : Shared
  H₀ : Hp
  env : Env
  outer : List Env
  stack : List Env
  ex : List Addr
  fn : Str → Bool
  calm : Bool
  pn : List (Addr × Obj)
  xe : Value → Shared → Prop
def frs (l : List Env) : List Addr := l.filterMap (·.frame)
abbrev Cx.fs (X : Cx) : List Addr := frs X.outer
def Vis (sc : Scope) (x : Str) : Prop := sc.names.lookup x = some .local ∨ sc.names.lookup x = some .cell ∨ sc.names.lookup x = some .free
def Loc (sc : Scope) (x : Str) : Prop := sc.names.lookup x = some .local ∨ sc.names.lookup x = some .cell
def Look (env : Env) (h : Heap) (m : Str → Option Value) (x : Str) (u : Value) : Prop :=
  (env.kindOf x = some .local ∧ m x = some u) ∨ ((env.kindOf x = some .cell ∨ env.kindOf x = some .free) ∧ ∃ c, env.cells.lookup x = some c ∧ h.IsCell c (some u))
structure Cx.Ok (X : Cx) : Prop where
  mod : Mod X.K X.mg X.base
  kind : X.env.scope.kind = .function
  glob : X.env.globals = mainGlobals
  blt : X.env.builtins = builtinsNs
  above : X.s₀.heap.objs.size ≤ X.env.locals
  inj : ∀ x y c, X.env.cells.lookup x = some c → X.env.cells.lookup y = some c → x = y
  has : ∀ x, (X.env.kindOf x = some .cell ∨ X.env.kindOf x = some .free) → ∃ c, X.env.cells.lookup x = some c
  cab : ∀ x c, X.fn x = true → X.env.cells.lookup x = some c → X.s₀.heap.objs.size ≤ c
  hd : X.calm = true → X.A.handled = none
  frames : X.A.frames = some X.stack
  stk : X.stack = X.outer ∨ (X.stack = X.env :: X.outer ∧ X.env.frame = some X.env.locals)
  exf : ∀ b ∈ X.ex, b ≠ X.env.locals ∧ ∀ x c, X.env.cells.lookup x = some c → c ≠ b
  bs : ∀ b o, X.base.get? b = some o → X.s₀.heap.get? b = some o ∧ X.H₀ b = none
  bsz : X.base.objs.size ≤ X.s₀.heap.objs.size
  noex : ∀ b o, X.base.get? b = some o → b ∉ X.ex
  exfs : ∀ b ∈ X.ex, b ∉ X.fs
  funs : X.s₀.heap.FunFrames X.base X.outer
  frf : ∀ b ∈ X.fs, X.H₀ b = none
structure Inv (X : Cx) (pins : List (Addr × Obj)) (σ : List (Option V)) (H : Hp) (s : Shared) : Prop where
  ok : X.Ok
  os : s.os = X.s₀.os
  bare : AllBare s.gens
  base : Un X.fs X.ex X.H₀ H X.s₀.heap s.heap
  loc : ∃ m, s.heap.Ns X.env.locals m ∧ ∀ (i : Nat) (x : Str) (v : V), X.N[i]? = some x → σ[i]? = some (some v) → Vis X.env.scope x → ∃ u, RelV v u ∧ Look X.env s.heap m x u
  cell : ∀ x c, X.env.cells.lookup x = some c → ∃ v, s.heap.IsCell c v
  free : H X.env.locals = none
  freeC : ∀ x c, X.env.cells.lookup x = some c → H c = none
  pin : ∀ p ∈ X.pn ++ pins, s.heap.get? p.1 = some p.2 ∧ H p.1 = none ∧ p.1 ≠ X.env.locals ∧ p.1 ∉ X.fs ∧ ∀ v, p.2.data ≠ .cell v
  hok : HOk X.prog X.w H s.heap
  len : σ.length = X.N.length
section
variable {X : Cx} {pins : List (Addr × Obj)} {σ : List (Option V)} {H H' : Hp} {s : Shared} {h' : Heap}
theorem Cx.Ok.nofr (ok : X.Ok) {b : Addr} {o : Obj} (e : X.base.get? b = some o) : b ∉ X.fs := fun hb => by
  have := (ok.funs.mem hb).1
  rw [e] at this; cases this
theorem Inv.bs (I : Inv X pins σ H s) : ∀ b o, X.base.get? b = some o → s.heap.get? b = some o ∧ H b = none := fun b o e =>
  ⟨I.base.keep b o (I.ok.bs b o e).1 (I.ok.bs b o e).2 (I.ok.nofr e) (I.ok.noex b o e), I.base.free b o (I.ok.bs b o e).1 (I.ok.bs b o e).2 (I.ok.noex b o e)⟩
theorem Inv.bk (I : Inv X pins σ H s) : ∀ b o, X.base.get? b = some o → s.heap.get? b = some o := fun b o e => (I.bs b o e).1
theorem Inv.mod (I : Inv X pins σ H s) : Mod X.K X.mg X.base := I.ok.mod
theorem Inv.kIn (I : Inv X pins σ H s) : X.K.In s.heap := I.ok.mod.kin.keeps I.bk
theorem Inv.lt (I : Inv X pins σ H s) : X.env.locals < s.heap.objs.size := let ⟨_, hn, _⟩ := I.loc; hn.lt
theorem Inv.sz (I : Inv X pins σ H s) : X.s₀.heap.objs.size ≤ s.heap.objs.size := Nat.le_trans I.ok.above (Nat.le_of_lt I.lt)
theorem Inv.nofs (I : Inv X pins σ H s) {a : Addr} (h : s.heap.objs.size ≤ a) : a ∉ X.fs := fun hb => by
  obtain ⟨_, o, ho, _⟩ := I.ok.funs.mem hb
  exact absurd (Nat.lt_of_lt_of_le (Heap.lt_size ho) (Nat.le_trans I.sz h)) (Nat.lt_irrefl _)
theorem Inv.cne (I : Inv X pins σ H s) : ∀ x c, X.env.cells.lookup x = some c → c ≠ X.env.locals := fun x c e z => by
  obtain ⟨v, o, ho, hd⟩ := I.cell x c e
  obtain ⟨m, ⟨o', es, ep, ho', hd', _⟩, _⟩ := I.loc
  rw [z, ho'] at ho; cases ho; rw [hd'] at hd; cases hd
theorem Inv.funs (I : Inv X pins σ H s) : s.heap.FunFrames X.base X.outer := by
  have all : ∀ (l : List Env), (∀ b ∈ frs l, b ∈ X.fs) → X.s₀.heap.FunFrames X.base l → s.heap.FunFrames X.base l := by
    intro l
    induction l with
    | nil => intro _ _; trivial
    | cons env r ih =>
      intro hs hl
      obtain ⟨hk, ⟨L, o, hf, hn, ho, hd⟩, hr⟩ := hl
      have hL : L ∈ X.fs := hs L (by unfold frs; rw [List.filterMap_cons, hf]; exact List.mem_cons_self)
      obtain ⟨sl, e⟩ := I.base.slot L o ho (I.ok.frf L hL) hL fun z => I.ok.exfs L z hL
      exact ⟨hk, ⟨L, _, hf, hn, e, hd⟩, ih (fun b hb => hs b (by unfold frs; rw [List.filterMap_cons, hf]; exact List.mem_cons_of_mem _ hb)) hr⟩
  exact all X.outer (fun _ hb => hb) I.ok.funs
theorem Inv.stack (I : Inv X pins σ H s) : s.heap.FunFrames X.base X.stack := by
  rcases I.ok.stk with e | ⟨e, hf⟩
  · rw [e]; exact I.funs
  · rw [e]
    obtain ⟨m, hn, _⟩ := I.loc
    refine .cons (by rw [I.ok.kind]; decide) hf hn ?_ I.funs
    exact Heap.get?_none_of_le (Nat.le_trans I.ok.bsz I.ok.above)
theorem Inv.stkSub (I : Inv X pins σ H s) : ∀ b ∈ frs X.stack, b ∈ X.env.locals :: X.fs := fun b hb => by
  rcases I.ok.stk with e | ⟨e, hf⟩
  · rw [e] at hb; exact List.mem_cons_of_mem _ hb
  · rw [e] at hb
    unfold frs at hb
    rw [List.filterMap_cons, hf] at hb
    exact hb
theorem Inv.stkFree (I : Inv X pins σ H s) : ∀ b ∈ frs X.stack, H b = none := fun b hb => by
  rcases List.mem_cons.mp (I.stkSub b hb) with e | hb
  · rw [e]; exact I.free
  · obtain ⟨_, o, ho, _⟩ := I.ok.funs.mem hb
    exact I.base.free b o ho (I.ok.frf b hb) fun z => I.ok.exfs b z hb
theorem Inv.step {g' : Array GenState} {t' : Nat} {d' : Drawn} {ch : List Addr} (I : Inv X pins σ H s)
    (hch : ∀ b ∈ ch, (b ∈ X.ex ∨ X.s₀.heap.objs.size ≤ b) ∧ b ≠ X.env.locals ∧ (∀ x c, X.env.cells.lookup x = some c → c ≠ b) ∧ ∀ p ∈ X.pn ++ pins, p.1 ≠ b)
    (keep : ∀ b o, b ≠ X.env.locals → b ∉ X.fs → b ∉ ch → s.heap.get? b = some o → H b = none → h'.get? b = some o)
    (slot : ∀ b o, b ≠ X.env.locals → b ∈ X.fs → b ∉ ch → s.heap.get? b = some o → H b = none → ∃ sl, h'.get? b = some { o with slots := sl }) (free : ∀ b o, b ∉ ch → s.heap.get? b = some o → H b = none → H' b = none)
    (there : ∀ b o, b ∉ ch → s.heap.get? b = some o → ∃ o', h'.get? b = some o')
    (tups : ∀ b xs, H b = some (.tup xs) → H' b = some (.tup xs)) (frzs : ∀ b o u, H b = some (.frz o u) → H' b = some (.frz o u)) (tbls : ∀ b ps, H b = some (.tbl ps) → ∃ more, H' b = some (.tbl (ps ++ more)))
    (ns : ∀ m, s.heap.Ns X.env.locals m → h'.Ns X.env.locals m) (hok : HOk X.prog X.w H' h') (hg : AllBare g') :
    Inv X pins σ H' { s with heap := h', gens := g', drawn := d', toks := t' } := by
  have neL : ∀ b o, X.s₀.heap.get? b = some o → b ≠ X.env.locals := fun b o e => Nat.ne_of_lt (Nat.lt_of_lt_of_le (Heap.lt_size e) I.ok.above)
  have neC : ∀ b o, X.s₀.heap.get? b = some o → b ∉ X.ex → b ∉ ch := fun b o e hx hb => by
    rcases (hch b hb).1 with z | z
    · exact hx z
    · exact absurd (Nat.lt_of_lt_of_le (Heap.lt_size e) z) (Nat.lt_irrefl _)
  have cellK : ∀ x c, X.env.cells.lookup x = some c → ∀ v, s.heap.IsCell c v → h'.IsCell c v := fun x c e v ⟨o, ho, hd⟩ => by
    have nch : c ∉ ch := fun z => (hch c z).2.2.1 x c e rfl
    by_cases hc : c ∈ X.fs
    · obtain ⟨sl, q⟩ := slot c o (I.cne x c e) hc nch ho (I.freeC x c e)
      exact ⟨_, q, hd⟩
    · exact ⟨o, keep c o (I.cne x c e) hc nch ho (I.freeC x c e), hd⟩
  refine ⟨I.ok, I.os, hg, ⟨fun b o e n hb hx => ?_, fun b o e n hb hx => ?_, fun b o e n hx => ?_, fun b o e hx => ?_, fun b xs e => tups b xs (I.base.tups b xs e), fun b o xs e => frzs b o xs (I.base.frzs b o xs e), fun b ps e => ?_⟩, ?_, fun x c e => ?_, ?_, fun x c e => ?_, fun p hp => ?_, hok, I.len⟩
  · exact keep b o (neL b o e) hb (neC b o e hx) (I.base.keep b o e n hb hx) (I.base.free b o e n hx)
  · obtain ⟨sl, e1⟩ := I.base.slot b o e n hb hx
    obtain ⟨sl', e2⟩ := slot b _ (neL b o e) hb (neC b o e hx) e1 (I.base.free b o e n hx)
    exact ⟨sl', e2⟩
  · obtain ⟨o', e1⟩ := I.base.there b o e hx
    exact free b o' (neC b o e hx) e1 (I.base.free b o e n hx)
  · obtain ⟨o', e1⟩ := I.base.there b o e hx
    exact there b o' (neC b o e hx) e1
  · obtain ⟨m1, e1⟩ := I.base.tbls b ps e
    obtain ⟨m2, e2⟩ := tbls b _ e1
    exact ⟨m1 ++ m2, by rw [e2, Array.append_assoc]⟩
  · obtain ⟨m, hn, hl⟩ := I.loc
    refine ⟨m, ns m hn, fun i x v e1 e2 e3 => ?_⟩
    obtain ⟨u, r, l⟩ := hl i x v e1 e2 e3
    refine ⟨u, r, ?_⟩
    rcases l with l | ⟨k, c, e, z⟩
    · exact .inl l
    · exact .inr ⟨k, c, e, cellK x c e _ z⟩
  · obtain ⟨v, z⟩ := I.cell x c e
    exact ⟨v, cellK x c e v z⟩
  · obtain ⟨m, ⟨o, _, _, ho, _⟩, _⟩ := I.loc
    exact free _ o (fun z => (hch _ z).2.1 rfl) ho I.free
  · obtain ⟨v, o, ho, hd⟩ := I.cell x c e
    exact free c o (fun z => (hch c z).2.2.1 x c e rfl) ho (I.freeC x c e)
  · obtain ⟨e, n, ne, nf, d⟩ := I.pin p hp
    have nch : p.1 ∉ ch := fun z => (hch p.1 z).2.2.2 p hp rfl
    exact ⟨keep p.1 p.2 ne nf nch e n, free p.1 p.2 nch e n, ne, nf, d⟩
theorem Inv.un {t' : Nat} (I : Inv X pins σ H s) (u : Un X.fs [] H H' s.heap h') (hok : HOk X.prog X.w H' h') : Inv X pins σ H' { s with heap := h', toks := t' } := by
  obtain ⟨m, ⟨o, es, ep, ho, r⟩, _⟩ := id I.loc
  obtain ⟨sl, hL⟩ := u.any ho I.free (by simp)
  exact I.step (g' := s.gens) (d' := s.drawn) (ch := []) (fun _ z => nomatch z) (fun b o _ hb _ e n => u.keep b o e n hb (by simp)) (fun b o _ hb _ e n => u.slot b o e n hb (by simp)) (fun b o _ e n => u.free b o e n (by simp)) (fun b o _ e => u.there b o e (by simp)) u.tups u.frzs u.tbls (fun m' hm => by
    obtain ⟨o', es', ep', ho', r'⟩ := hm
    rw [ho] at ho'; cases ho'
    exact ⟨_, es', ep', hL, r'⟩) hok I.bare
theorem Inv.call {g' : Array GenState} {t' : Nat} {d' : Drawn} {ch : List Addr} (I : Inv X pins σ H s) (u : Un (frs X.stack) ch H H' s.heap h') (hok : HOk X.prog X.w H' h') (hg : AllBare g')
    (hch : ∀ b ∈ ch, (b ∈ X.ex ∨ X.s₀.heap.objs.size ≤ b) ∧ b ≠ X.env.locals ∧ (∀ x c, X.env.cells.lookup x = some c → c ≠ b) ∧ ∀ p ∈ X.pn ++ pins, p.1 ≠ b) :
    Inv X pins σ H' { s with heap := h', gens := g', drawn := d', toks := t' } := by
  obtain ⟨m, ⟨o, es, ep, ho, r⟩, _⟩ := id I.loc
  obtain ⟨sl, hL⟩ := u.any ho I.free fun z => (hch _ z).2.1 rfl
  exact I.step (ch := ch) hch (fun b o hL hb hc e n => u.keep b o e n (fun z => (List.mem_cons.mp (I.stkSub b z)).elim hL hb) hc) (fun b o _ _ hc e n => u.any e n hc) (fun b o hc e n => u.free b o e n hc) (fun b o hc e => u.there b o e hc) u.tups u.frzs u.tbls (fun m' hm => by
    obtain ⟨o', es', ep', ho', r'⟩ := hm
    rw [ho] at ho'; cases ho'
    exact ⟨_, es', ep', hL, r'⟩) hok hg
theorem Inv.turned {t' : Nat} {it : Addr} (I : Inv X pins σ H s) (k : ∀ b o, b ≠ it → s.heap.get? b = some o → h'.get? b = some o) (hn : H it = none) (hL : it ≠ X.env.locals)
    (h1 : it ∈ X.ex ∨ X.s₀.heap.objs.size ≤ it) (h2 : ∀ x c, X.env.cells.lookup x = some c → c ≠ it) (h3 : ∀ p ∈ X.pn ++ pins, p.1 ≠ it) : Inv X pins σ H { s with heap := h', toks := t' } := by
  have nit : ∀ b u, H b = some u → b ≠ it := fun b u e z => by rw [z, hn] at e; cases e
  refine I.step (g' := s.gens) (d' := s.drawn) (ch := [it]) (fun b hb => ?_) (fun b o _ _ hc e _ => k b o (fun z => hc (by simp [z])) e) (fun b o _ _ hc e _ => ⟨o.slots, k b o (fun z => hc (by simp [z])) e⟩) (fun _ _ _ _ n => n)
    (fun b o hc e => ⟨o, k b o (fun z => hc (by simp [z])) e⟩) (fun _ _ e => e) (fun _ _ _ e => e) (fun b ps e => ⟨#[], by rw [e]; simp⟩) (fun m hm => ?_) (fun b u e => ?_) I.bare
  · have e : b = it := by simpa using hb
    subst e
    exact ⟨h1, hL, h2, h3⟩
  · obtain ⟨o, es, ep, ho, r⟩ := hm
    exact ⟨o, es, ep, k _ o (Ne.symm hL) ho, r⟩
  · refine (I.hok b u e).stay (fun c v hc q => k c v ?_ q) (fun _ q => q) fun _ _ q => q
    rcases hc with z | z
    · rw [z]; exact nit b u e
    · exact nit c _ z
theorem Inv.tok (I : Inv X pins σ H s) (t : Nat) : Inv X pins σ H { s with toks := t } := I.un (h' := s.heap) (t' := t) Un.refl I.hok
theorem Inv.kept {t' : Nat} (I : Inv X pins σ H s) (k : ∀ b u, s.heap.get? b = some u → h'.get? b = some u) : Inv X pins σ H { s with heap := h', toks := t' } := I.un (Un.kept k) (I.hok.kept k)
theorem Inv.laid {a : Addr} {o : HO} {t' : Nat} (I : Inv X pins σ H s) (k : ∀ b u, s.heap.get? b = some u → h'.get? b = some u) (hp : s.heap.objs.size ≤ a) (new : ObjOk X.prog X.w (upd H a o) h' a o) :
    Inv X pins σ (upd H a o) { s with heap := h', toks := t' } := I.un (Un.laid k hp (I.hok.fresh hp)) (I.hok.laid k hp new)
theorem Inv.write {x e : Addr} {o : HO} {t' : Nat} (I : Inv X pins σ H s) (mu : Mut (H x)) (he : e = x ∨ H e = some (.own x)) (k : ∀ b u, b ≠ e → s.heap.get? b = some u → h'.get? b = some u) (heo : ∃ u, h'.get? e = some u)
    (new : ObjOk X.prog X.w (upd H x o) h' x o) : Inv X pins σ (upd H x o) { s with heap := h', toks := t' } := I.un (Un.write mu he k heo) (I.hok.write mu he k heo new)
theorem Inv.weak {σ' : List (Option V)} (I : Inv X pins σ H s) (hl : σ'.length = σ.length) (w : ∀ (i : Nat) v, σ'[i]? = some (some v) → σ[i]? = some (some v)) : Inv X pins σ' H s :=
  ⟨I.ok, I.os, I.bare, I.base, let ⟨m, hn, hl'⟩ := I.loc; ⟨m, hn, fun i x v e1 e2 e3 => hl' i x v e1 (w i v e2) e3⟩, I.cell, I.free, I.freeC, I.pin, I.hok, hl.trans I.len⟩
theorem Inv.pins_of {pins' : List (Addr × Obj)} (I : Inv X pins σ H s) (h : ∀ p ∈ pins', s.heap.get? p.1 = some p.2 ∧ H p.1 = none ∧ p.1 ≠ X.env.locals ∧ p.1 ∉ X.fs ∧ ∀ v, p.2.data ≠ .cell v) : Inv X pins' σ H s :=
  ⟨I.ok, I.os, I.bare, I.base, I.loc, I.cell, I.free, I.freeC, fun p hp => (List.mem_append.mp hp).elim (fun z => I.pin p (List.mem_append_left _ z)) (h p), I.hok, I.len⟩
theorem nodup_ix {N : List Str} (hN : N.Nodup) {i j : Nat} {x : Str} (a : N[i]? = some x) (b : N[j]? = some x) : i = j := by
  obtain ⟨h1, e1⟩ := List.getElem?_eq_some_iff.mp a
  obtain ⟨h2, e2⟩ := List.getElem?_eq_some_iff.mp b
  exact (List.getElem_inj hN).mp (e1.trans e2.symm)
theorem store_ok2 {M : Model} {A : Around} {E : Value → Shared → Prop} {i : Nat} {x : Str} {v : V} {u : Value} {Q : Unit → Shared → Prop} (I : Inv X pins σ H s) (hN : X.N.Nodup) (hi : X.N[i]? = some x) (hx : Loc X.env.scope x) (r : RelV v u)
    (h : ∀ s', Inv X pins (σ.set i (some v)) H s' → (∃ a, Heap.SameBut a s.heap s'.heap ∧ (a = X.env.locals ∨ X.env.cells.lookup x = some a)) → Q () s') (hf : X.fn x = true ∨ X.env.scope.names.lookup x = some .local := by first | exact .inl rfl | exact .inr rfl | assumption) : wpAny M A (storeName X.env x u) Q E s := by
  obtain ⟨m, hn, hl⟩ := id I.loc
  have hcls : (X.env.scope.kind == .class || (X.env.scope.kind == .module && X.env.locals != X.env.globals)) = false := by rw [I.ok.kind]; rfl
  have hiσ : i < σ.length := by rw [I.len]; exact (List.getElem?_eq_some_iff.mp hi).1
  have cne := I.cne
  have tracked : ∀ {a : Addr} {h' : Heap}, (∃ o, s.heap.get? a = some o ∧ H a = none) → Heap.SameBut a s.heap h' → HOk X.prog X.w H h' := fun {a h'} ha hs b ob e => by
    obtain ⟨_, _, hfree⟩ := ha
    refine (I.hok b ob e).stay (fun c w' hc q => (hs.2 c ?_).trans q) (fun _ q => q) fun _ _ q => q
    rintro rfl
    rcases hc with rfl | hc
    · rw [hfree] at e; cases e
    · rw [hfree] at hc; cases hc
  rcases hx with hk | hk
  · refine wpAny_storeName_local hk hn (fun h' hn' hs => ?_) hcls
    obtain ⟨oL, _, _, hoL, _⟩ := id hn
    refine h _ ⟨I.ok, I.os, I.bare, ⟨fun b o e n hb hx => ?_, fun b o e n hb hx => ?_, I.base.free, fun b o e hx => ?_, I.base.tups, I.base.frzs, I.base.tbls⟩, ⟨_, hn', fun j y v' e1 e2 e3 => ?_⟩, fun y c e => ?_, I.free, I.freeC, fun p hp => ?_, tracked ⟨oL, hoL, I.free⟩ hs, by simpa using I.len⟩ ⟨_, hs, .inl rfl⟩
    · exact (hs.2 b (Nat.ne_of_lt (Nat.lt_of_lt_of_le (Heap.lt_size e) I.ok.above))).trans (I.base.keep b o e n hb hx)
    · obtain ⟨sl, e1⟩ := I.base.slot b o e n hb hx
      exact ⟨sl, (hs.2 b (Nat.ne_of_lt (Nat.lt_of_lt_of_le (Heap.lt_size e) I.ok.above))).trans e1⟩
    · obtain ⟨o', e1⟩ := I.base.there b o e hx
      exact ⟨o', (hs.2 b (Nat.ne_of_lt (Nat.lt_of_lt_of_le (Heap.lt_size e) I.ok.above))).trans e1⟩
    · by_cases hj : j = i
      · subst hj
        rw [hi] at e1; cases e1
        rw [List.getElem?_set_self hiσ] at e2
        cases e2
        exact ⟨u, r, .inl ⟨hk, by simp⟩⟩
      · rw [List.getElem?_set_ne (Ne.symm hj)] at e2
        obtain ⟨u', r', q⟩ := hl j y v' e1 e2 e3
        refine ⟨u', r', ?_⟩
        rcases q with ⟨k, e⟩ | ⟨k, c, e, z⟩
        · refine .inl ⟨k, ?_⟩
          have : y ≠ x := fun e => hj (nodup_ix hN e1 (e ▸ hi))
          simp [this, e]
        · exact .inr ⟨k, c, e, z.sameBut hs (cne y c e)⟩
    · obtain ⟨w', z⟩ := I.cell y c e
      exact ⟨w', z.sameBut hs (cne y c e)⟩
    · obtain ⟨e, n, ne, nf, d⟩ := I.pin p hp
      exact ⟨(hs.2 p.1 ne).trans e, n, ne, nf, d⟩
  · have hfn : X.fn x = true := by
      rcases hf with z | z
      · exact z
      · rw [z] at hk; cases hk
    obtain ⟨c, hc⟩ := I.ok.has x (.inl hk)
    obtain ⟨w', z⟩ := I.cell x c hc
    refine wpAny_storeName_cell I.ok.kind hk hc z (fun h' hc' hs => ?_)
    obtain ⟨oc, hoc, hocd⟩ := id z
    refine h { s with heap := h' } ⟨I.ok, I.os, I.bare, ⟨fun b o e n hb hx => ?_, fun b o e n hb hx => ?_, I.base.free, fun b o e hx => ?_, I.base.tups, I.base.frzs, I.base.tbls⟩, ⟨m, hn.sameBut hs (Ne.symm (cne x c hc)), fun j y v' e1 e2 e3 => ?_⟩, fun y c' e => ?_, I.free, I.freeC, fun p hp => ?_, tracked ⟨oc, hoc, I.freeC x c hc⟩ hs, by simpa using I.len⟩ ⟨c, hs, .inr hc⟩
    · exact (hs.2 b (Nat.ne_of_lt (Nat.lt_of_lt_of_le (Heap.lt_size e) (I.ok.cab x c hfn hc)))).trans (I.base.keep b o e n hb hx)
    · obtain ⟨sl, e1⟩ := I.base.slot b o e n hb hx
      exact ⟨sl, (hs.2 b (Nat.ne_of_lt (Nat.lt_of_lt_of_le (Heap.lt_size e) (I.ok.cab x c hfn hc)))).trans e1⟩
    · obtain ⟨o', e1⟩ := I.base.there b o e hx
      exact ⟨o', (hs.2 b (Nat.ne_of_lt (Nat.lt_of_lt_of_le (Heap.lt_size e) (I.ok.cab x c hfn hc)))).trans e1⟩
    · by_cases hj : j = i
      · subst hj
        rw [hi] at e1; cases e1
        rw [List.getElem?_set_self hiσ] at e2
        cases e2
        exact ⟨u, r, .inr ⟨.inl hk, c, hc, hc'⟩⟩
      · rw [List.getElem?_set_ne (Ne.symm hj)] at e2
        obtain ⟨u', r', q⟩ := hl j y v' e1 e2 e3
        refine ⟨u', r', ?_⟩
        rcases q with q | ⟨k, c', e, z'⟩
        · exact .inl q
        · refine .inr ⟨k, c', e, z'.sameBut hs ?_⟩
          rintro rfl
          exact hj (nodup_ix hN e1 (I.ok.inj _ _ _ e hc ▸ hi))
    · by_cases hcc : c' = c
      · subst hcc; exact ⟨_, hc'⟩
      · obtain ⟨w2, z2⟩ := I.cell y c' e
        exact ⟨w2, z2.sameBut hs hcc⟩
    · obtain ⟨e, n, ne, nf, d⟩ := I.pin p hp
      refine ⟨(hs.2 p.1 ?_).trans e, n, ne, nf, d⟩
      intro q
      rw [q, hoc] at e
      have q' : oc = p.2 := Option.some.inj e
      exact d w' (by rw [← q']; exact hocd)
theorem store_ok {M : Model} {A : Around} {E : Value → Shared → Prop} {i : Nat} {x : Str} {v : V} {u : Value} {Q : Unit → Shared → Prop} (I : Inv X pins σ H s) (hN : X.N.Nodup) (hi : X.N[i]? = some x) (hx : Loc X.env.scope x) (r : RelV v u)
    (h : ∀ s', Inv X pins (σ.set i (some v)) H s' → Q () s') (hf : X.fn x = true ∨ X.env.scope.names.lookup x = some .local := by first | exact .inl rfl | exact .inr rfl | assumption) : wpAny M A (storeName X.env x u) Q E s :=
  store_ok2 I hN hi hx r (fun s' I' _ => h s' I') hf
theorem Inv.call' {s' : Shared} {ch : List Addr} (I : Inv X pins σ H s) (ho : s'.os = s.os) (u : Un (frs X.stack) ch H H' s.heap s'.heap) (hok : HOk X.prog X.w H' s'.heap) (hg : AllBare s'.gens)
    (hch : ∀ b ∈ ch, (b ∈ X.ex ∨ X.s₀.heap.objs.size ≤ b) ∧ b ≠ X.env.locals ∧ (∀ x c, X.env.cells.lookup x = some c → c ≠ b) ∧ ∀ p ∈ X.pn ++ pins, p.1 ≠ b) : Inv X pins σ H' s' := by
  obtain ⟨h', g', d', t', o'⟩ := s'
  have e : o' = s.os := ho
  subst e
  exact I.call (g' := g') (t' := t') (d' := d') u hok hg hch
end
abbrev XK := Value → Option Addr → Hp → Prop
abbrev St := List (Option V)
abbrev VK := V → Hp → Prop
abbrev TE := St → Hp → VK → Prop
abbrev TT := St → Hp → (Bool → Hp → Prop) → Prop
abbrev TA := St → Hp → (List V → Hp → Prop) → Prop
structure Ends where
  nx : St → Hp → Prop
  rt : VK
  bk : St → Hp → Prop := fun _ _ => False
  ct : St → Hp → Prop := fun _ _ => False
abbrev TS := Ends → St → Hp → Prop
def EP (X : Cx) (pins : List (Addr × Obj)) (σ : St) (Q : VK) (u : Value) (s' : Shared) : Prop := ∃ v H', Inv X pins σ H' s' ∧ RelV v u ∧ Q v H'
def TP (X : Cx) (pins : List (Addr × Obj)) (σ : St) (Q : Bool → Hp → Prop) (b : Bool) (s' : Shared) : Prop := ∃ H', Inv X pins σ H' s' ∧ Q b H'
def AP (X : Cx) (pins : List (Addr × Obj)) (σ : St) (Q : List V → Hp → Prop) (us : List Value) (s' : Shared) : Prop := ∃ vs H', Inv X pins σ H' s' ∧ Vals vs us ∧ Q vs H'
def SP (X : Cx) (pins : List (Addr × Obj)) (D : Ends) (f : Flow) (s' : Shared) : Prop :=
  match f with
  | .next => ∃ σ' H', Inv X pins σ' H' s' ∧ D.nx σ' H'
  | .brk => ∃ σ' H', Inv X pins σ' H' s' ∧ D.bk σ' H'
  | .cont => ∃ σ' H', Inv X pins σ' H' s' ∧ D.ct σ' H'
  | .ret u => ∃ v σ' H', Inv X pins σ' H' s' ∧ RelV v u ∧ D.rt v H'
def PE (X : Cx) (e : Expr) (t : TE) : Prop :=
  ∀ (pins : List (Addr × Obj)) (s : Shared) (σ : St) (H : Hp) (Q : VK), Inv X pins σ H s → t σ H Q → wpAny (model X.prog X.w) X.A (eval e X.env) (EP X pins σ Q) X.xe s
def PT (X : Cx) (e : Expr) (t : TT) : Prop :=
  ∀ (pins : List (Addr × Obj)) (s : Shared) (σ : St) (H : Hp) (Q : Bool → Hp → Prop), Inv X pins σ H s → t σ H Q → wpAny (model X.prog X.w) X.A (isTrue e X.env (eval e X.env)) (TP X pins σ Q) X.xe s
def PW (X : Cx) (e : Expr) (t : TT) : Prop :=
  ∀ (whole : Sem Value) (pins : List (Addr × Obj)) (s : Shared) (σ : St) (H : Hp) (Q : Bool → Hp → Prop), Inv X pins σ H s → t σ H Q → wpAny (model X.prog X.w) X.A (isTrue e X.env whole) (TP X pins σ Q) X.xe s
theorem PW.pt {X : Cx} {e : Expr} {t : TT} (h : PW X e t) : PT X e t := h _
def PA (X : Cx) (es : List Expr) (t : TA) : Prop :=
  ∀ (pos : Pos) (pins : List (Addr × Obj)) (s : Shared) (σ : St) (H : Hp) (Q : List V → Hp → Prop), Inv X pins σ H s → t σ H Q → wpAny (model X.prog X.w) X.A (spliced (backTo pos (starEach es X.env))) (AP X pins σ Q) X.xe s
def PS (X : Cx) (st : Stmt) (t : TS) : Prop :=
  ∀ (pins : List (Addr × Obj)) (s : Shared) (σ : St) (H : Hp) (D : Ends), Inv X pins σ H s → t D σ H → wpAny (model X.prog X.w) X.A (exec st X.env) (SP X pins D) X.xe s
def PSs (X : Cx) (st : List Stmt) (t : TS) : Prop :=
  ∀ (pins : List (Addr × Obj)) (s : Shared) (σ : St) (H : Hp) (D : Ends), Inv X pins σ H s → t D σ H → wpAny (model X.prog X.w) X.A (execs st X.env) (SP X pins D) X.xe s
theorem thn {α : Type} {t : Sem α} {Q Q' : α → Shared → Prop} {M : Model} {A : Around} {E : Value → Shared → Prop} {s : Shared} (h : wpAny M A t Q E s) (hQ : ∀ a s, Q a s → Q' a s) : wpAny M A t Q' E s := wpAny_mono h hQ fun _ _ x => x
end L2
namespace L2
open PySem PySem.Spec PyProof.Rows
section
variable {X : Cx}
def tVar (i : Nat) : TE := fun σ H Q => ∃ v, σ[i]? = some (some v) ∧ Q v H
def tC (v : V) : TE := fun _ H Q => Q v H
theorem pe_var {i : Nat} {x : Str} {pos : Pos} (hN : X.N[i]? = some x) (hv : Vis X.env.scope x) (hd : (x == ("__debug__" : Str)) = false := by decide) (hcd : (x == ("__classdict__" : Str)) = false := by decide) : PE X (.Name x pos) (tVar i) := by
  intro pins s σ H Q I h
  obtain ⟨v, e, h⟩ := h
  obtain ⟨m, hn, hl⟩ := I.loc
  obtain ⟨u, r, l⟩ := hl i x v hN e hv
  have fin : EP X pins σ Q u s := ⟨v, H, I, r, h⟩
  rcases l with ⟨hk, hm⟩ | ⟨hk, c, hc, hcell⟩
  · exact wpAny_Name (wpAny_loadName_local I.ok.kind hk hn hm fin) hd
  · rcases hk with hk | hk
    · exact wpAny_Name (wpAny_loadName_cell I.ok.kind hk hc hcell fin) hd
    · exact wpAny_Name (wpAny_loadName_free I.ok.kind hk hc hcell fin hcd) hd
theorem pe_int {i j pos} : PE X (.Constant (.int i) j pos) (tC (.int i)) := fun _ _ _ H _ I h => wpAny_Constant_int ⟨.int i, H, I.tok _, ⟨_, rfl⟩, h⟩
theorem pe_bl {b j pos} : PE X (.Constant (.bool b) j pos) (tC (.bl b)) := fun _ _ _ H _ I h => Constant_bool ⟨.bl b, H, I, rfl, h⟩
theorem pe_non {j pos} : PE X (.Constant .none j pos) (tC .non) := fun _ _ _ H _ I h => Constant_none ⟨.non, H, I, rfl, h⟩
theorem pe_str {x j pos} : PE X (.Constant (.str x) j pos) (tC (.str x)) := fun _ _ _ H _ I h => Calls.Constant_str ⟨.str x, H, I.tok _, ⟨_, rfl⟩, h⟩
def Gl (X : Cx) (x : Str) : Prop := X.env.kindOf x = some .globalImplicit
theorem ld_glob {E : Value → Shared → Prop} {pins : List (Addr × Obj)} {s : Shared} {σ : St} {H : Hp} {x : Str} {u : Value} {pos : Pos} {Q : Value → Shared → Prop} (I : Inv X pins σ H s) (hg : Gl X x) (hm : X.mg x = some u) (h : Q u s)
    (hd : (x == ("__debug__" : Str)) = false := by decide) : wpAny (model X.prog X.w) X.A (eval (.Name x pos) X.env) Q E s :=
  Calls.Name_function_global I.ok.kind hg (Calls.loadGlobal_global (by rw [I.ok.glob]; exact I.mod.glob.keeps I.bk) hm h) hd
theorem ld_blt {E : Value → Shared → Prop} {pins : List (Addr × Obj)} {s : Shared} {σ : St} {H : Hp} {x : Str} {u : Value} {pos : Pos} {Q : Value → Shared → Prop} (I : Inv X pins σ H s) (hg : Gl X x) (hm : X.mg x = none) (hv : bootBuiltins x = some u) (h : Q u s)
    (hn : x ≠ "__name__" := by decide) (hd : (x == ("__debug__" : Str)) = false := by decide) : wpAny (model X.prog X.w) X.A (eval (.Name x pos) X.env) Q E s := by
  obtain ⟨mb, h1, h2⟩ := I.mod.blt
  exact Calls.Name_function_global I.ok.kind hg (Calls.loadGlobal_builtin (by rw [I.ok.glob]; exact I.mod.glob.keeps I.bk) hm (by rw [I.ok.blt]; exact h1.keeps I.bk) ((h2 x hn).trans hv) h) hd
theorem pe_glob {x : Str} {v : V} {u : Value} {pos : Pos} (hg : Gl X x) (hm : X.mg x = some u) (r : RelV v u) (hd : (x == ("__debug__" : Str)) = false := by decide) : PE X (.Name x pos) (tC v) :=
  fun _ _ _ H _ I h => ld_glob I hg hm ⟨v, H, I, r, h⟩ hd
theorem pe_bltn {x : Str} {v : V} {u : Value} {pos : Pos} (hg : Gl X x) (hm : X.mg x = none) (hv : bootBuiltins x = some u) (r : RelV v u) (hn : x ≠ "__name__" := by decide) (hd : (x == ("__debug__" : Str)) = false := by decide) : PE X (.Name x pos) (tC v) :=
  fun _ _ _ H _ I h => ld_blt I hg hm hv ⟨v, H, I, r, h⟩ hn hd
variable {a b : Expr} {ta tb : TE} {pos : Pos}
def PC (X : Cx) (op : CmpOp) (a b : Expr) (t : TE) : Prop :=
  ∀ (pins : List (Addr × Obj)) (s : Shared) (σ : St) (H : Hp) (Q : VK), Inv X pins σ H s → t σ H Q →
    wpAny (model X.prog X.w) X.A (eval a X.env) (fun v s₁ => wpAny (model X.prog X.w) X.A (eval b X.env) (fun u s₂ => wpAny (model X.prog X.w) X.A (compareOp op v u) (EP X pins σ Q) X.xe s₂) X.xe s₁) X.xe s
theorem nobehind (b : Expr) {op : CmpOp} (h : op ≠ .In) (h2 : op ≠ .NotIn) : behindInMarks op b = false := by
  have e1 : (op == CmpOp.In) = false := by cases op <;> first | rfl | exact absurd rfl h
  have e2 : (op == CmpOp.NotIn) = false := by cases op <;> first | rfl | exact absurd rfl h2
  cases b <;> simp [behindInMarks, e1, e2]
def tB (t : TE) : TT := fun σ H Q => t σ H fun x H1 => ∃ c, x = .bl c ∧ Q c H1
theorem pt_cmp {op : CmpOp} {t : TE} (h : PC X op a b t) (h1 : behindInMarks op b = false := by first | exact nobehind _ (by decide) (by decide) | rfl) : PT X (.Compare a [op] [b] pos) (tB t) := by
  intro pins s σ H Q I hw
  refine wpAny_isTrue_Compare1 (thn (h pins s σ H _ I hw) fun v s1 h1 => thn h1 fun u s2 h2 => thn h2 fun c s3 hm0 => ?_) h1
  obtain ⟨x, H1, I1, r1, q1⟩ := hm0
  obtain ⟨d, rfl, q⟩ := q1
  cases r1
  exact wpAny_truthy_bool ⟨H1, I1, q⟩
theorem pt_val {e : Expr} {t : TE} (h : PE X e t) (he : ∀ whole, isTrue e X.env whole = (do let v ← whole; standAt e.pos; holding [v] (truthy v)) := by intro _; rfl) : PT X e (tB t) := by
  intro pins s σ H Q I hw
  refine isTrue_plain (thn (h pins s σ H _ I hw) fun v s1 hm0 => ?_) (he _)
  obtain ⟨x, H1, I1, r1, q1⟩ := hm0
  obtain ⟨d, rfl, q⟩ := q1
  cases r1
  exact wpAny_truthy_bool ⟨H1, I1, q⟩
variable {tA tB' : TT} {rest : List Expr}
def tAnd (t u : TT) : TT := fun σ H Q => t σ H fun c H1 => if c = true then u σ H1 Q else Q false H1
def tOr (t u : TT) : TT := fun σ H Q => t σ H fun c H1 => if c = true then Q true H1 else u σ H1 Q
def tNot (t : TT) : TT := fun σ H Q => t σ H fun c H1 => Q (!c) H1
theorem pw_and1 (ha : PT X a tA) : PW X (.BoolOp .And [a] pos) tA := by
  intro wh pins s σ H Q I h
  refine isTrue_and (thn (ha pins s σ H Q I h) fun c s1 e => ?_)
  cases c with
  | true => exact isTrue_and_nil e
  | false => exact e
theorem pw_or1 (ha : PT X a tA) : PW X (.BoolOp .Or [a] pos) tA := by
  intro wh pins s σ H Q I h
  refine isTrue_or (thn (ha pins s σ H Q I h) fun c s1 e => ?_)
  cases c with
  | false => exact isTrue_or_nil e
  | true => exact e
theorem pw_and (ha : PT X a tA) (hb : PW X (.BoolOp .And (b :: rest) pos) tB') : PW X (.BoolOp .And (a :: b :: rest) pos) (tAnd tA tB') := by
  intro wh pins s σ H Q I h
  refine isTrue_and (thn (ha pins s σ H _ I h) fun c s1 hm0 => ?_)
  obtain ⟨H1, I1, q1⟩ := hm0
  cases c with
  | true => exact hb wh pins s1 σ H1 Q I1 q1
  | false => exact ⟨H1, I1, q1⟩
theorem pw_or (ha : PT X a tA) (hb : PW X (.BoolOp .Or (b :: rest) pos) tB') : PW X (.BoolOp .Or (a :: b :: rest) pos) (tOr tA tB') := by
  intro wh pins s σ H Q I h
  refine isTrue_or (thn (ha pins s σ H _ I h) fun c s1 hm0 => ?_)
  obtain ⟨H1, I1, q1⟩ := hm0
  cases c with
  | true => exact ⟨H1, I1, q1⟩
  | false => exact hb wh pins s1 σ H1 Q I1 q1
theorem pt_not (ha : PT X a tA) : PT X (.UnaryOp .Not a pos) (tNot tA) := by
  intro pins s σ H Q I h
  exact isTrue_not (ha pins s σ H (fun c H1 => Q (!c) H1) I h)
def tAndV (ta tb : TE) : TE := fun σ H Q => ta σ H fun x H1 => ∃ c, x = .bl c ∧ if c = true then tb σ H1 Q else Q (.bl false) H1
def tOrV (ta tb : TE) : TE := fun σ H Q => ta σ H fun x H1 => ∃ c, x = .bl c ∧ if c = true then Q (.bl true) H1 else tb σ H1 Q
def tNotV (ta : TE) : TE := fun σ H Q => ta σ H fun x H1 => ∃ c, x = .bl c ∧ Q (.bl (!c)) H1
theorem pe_one {op} {t : TE} (h : PE X a t) : PE X (.BoolOp op [a] pos) t := fun pins s σ H Q I hw => BoolOp_one (h pins s σ H Q I hw)
theorem pe_and (ha : PE X a ta) (hb : PE X (.BoolOp .And (b :: rest) pos) tb) : PE X (.BoolOp .And (a :: b :: rest) pos) (tAndV ta tb) := by
  intro pins s σ H Q I h
  refine BoolOp_and (thn (ha pins s σ H _ I h) fun v s1 hm0 => ?_)
  obtain ⟨x, H1, I1, r1, q1⟩ := hm0
  obtain ⟨c, rfl, q1⟩ := q1
  cases r1
  refine wpAny_truthy_bool ?_
  cases c with
  | true => exact hb pins s1 σ H1 Q I1 q1
  | false => exact ⟨.bl false, H1, I1, rfl, q1⟩
theorem pe_or (ha : PE X a ta) (hb : PE X (.BoolOp .Or (b :: rest) pos) tb) : PE X (.BoolOp .Or (a :: b :: rest) pos) (tOrV ta tb) := by
  intro pins s σ H Q I h
  refine BoolOp_or (thn (ha pins s σ H _ I h) fun v s1 hm0 => ?_)
  obtain ⟨x, H1, I1, r1, q1⟩ := hm0
  obtain ⟨c, rfl, q1⟩ := q1
  cases r1
  refine wpAny_truthy_bool ?_
  cases c with
  | false => exact hb pins s1 σ H1 Q I1 q1
  | true => exact ⟨.bl true, H1, I1, rfl, q1⟩
theorem pe_not (ha : PE X a ta) : PE X (.UnaryOp .Not a pos) (tNotV ta) := by
  intro pins s σ H Q I h
  refine UnaryOp_ (thn (ha pins s σ H _ I h) fun v s1 hm0 => ?_)
  obtain ⟨x, H1, I1, r1, q1⟩ := hm0
  obtain ⟨c, rfl, q1⟩ := q1
  cases r1
  exact not_of (wpAny_truthy_bool ⟨.bl (!c), H1, I1, rfl, q1⟩)
def tIf (t : TT) (ta tb : TE) : TE := fun σ H Q => t σ H fun c H1 => if c = true then ta σ H1 Q else tb σ H1 Q
theorem pe_ifExp {c : Expr} (hc : PT X c tA) (ha : PE X a ta) (hb : PE X b tb) : PE X (.IfExp c a b pos) (tIf tA ta tb) := by
  intro pins s σ H Q I h
  refine wpAny_IfExp (thn (hc pins s σ H _ I h) fun d s1 hm0 => ?_)
  obtain ⟨H1, I1, q1⟩ := hm0
  cases d with
  | true => exact ha pins s1 σ H1 Q I1 q1
  | false => exact hb pins s1 σ H1 Q I1 q1
end
end L2
namespace L2
open PySem PySem.Spec PyProof.Rows
def SqL (K : PySem.W.Frag) (H : Hp) (a : Addr) (xs : List V) : Prop :=
  Rd H a (.lst xs) ∨
    ∃ (o : Obj) (its : Array Value) (n : Nat), K.lookup a = some o ∧ o.cls = .type "list" ∧ o.dict = none ∧ o.data = .seq its n ∧ its.size ≤ sizeLine ∧ Vals xs its.toList
def SqT (K : PySem.W.Frag) (H : Hp) (a : Addr) (xs : List V) : Prop :=
  Rd H a (.tup xs) ∨
    ∃ (o : Obj) (its : Array Value) (n : Nat), K.lookup a = some o ∧ o.cls = .type "tuple" ∧ o.data = .seq its n ∧ its.size ≤ sizeLine ∧ Vals xs its.toList
def absV : Value → Option V
  | .none => some .non
  | .bool b => some (.bl b)
  | .int i _ => some (.int i)
  | .str x _ => some (.str x)
  | .bytes b _ => some (.byt b)
  | .float b _ => some (.flt b)
  | .ref a => some (.ref a)
  | .type n => some (.ty n)
  | _ => none
theorem RelV.abs {x : V} {u : Value} (r : RelV x u) : absV u = some x := by
  cases x with
  | non => cases r; rfl
  | bl _ => cases r; rfl
  | int _ => obtain ⟨t, rfl⟩ := r; rfl
  | str _ => obtain ⟨t, rfl⟩ := r; rfl
  | byt _ => obtain ⟨t, rfl⟩ := r; rfl
  | flt _ => obtain ⟨t, rfl⟩ := r; rfl
  | ref _ => cases r; rfl
  | ty _ => cases r; rfl
theorem RelV.inj {x y : V} {u : Value} (r : RelV x u) (q : RelV y u) : x = y := Option.some.inj (r.abs.symm.trans q.abs)
theorem Vals.inj : ∀ {xs ys : List V} {us : List Value}, Vals xs us → Vals ys us → xs = ys
  | _, _, _, .nil, .nil => rfl
  | _, _, _, .cons r t, .cons r' t' => by rw [r.inj r', Vals.inj t t']
section
variable {X : Cx} {pins : List (Addr × Obj)} {σ : St} {H : Hp} {s : Shared} {a : Addr} {xs ys : List V}
theorem SqL.of {K : PySem.W.Frag} (h : H a = some (.lst xs)) : SqL K H a xs := .inl (.inl h)
theorem SqT.of {K : PySem.W.Frag} (h : H a = some (.tup xs)) : SqT K H a xs := .inl (.inl h)
theorem Inv.list (I : Inv X pins σ H s) (h : SqL X.K H a xs) : ∃ its : List Value, Vals xs its ∧ PlainL s.heap a its.toArray ∧ xs.length ≤ sizeLine := by
  rcases h with h | ⟨o, its, n, hk, hc, hd, hs, hz, r⟩
  · obtain ⟨z, its, n, r, e⟩ := h.ok I.hok
    exact ⟨its, r, ⟨_, n, e, rfl, rfl, rfl⟩, z⟩
  · refine ⟨its.toList, r, ⟨o, n, I.kIn a o hk, hc, hd, by simpa using hs⟩, ?_⟩
    have e := r.length
    simp only [Array.length_toList] at e
    omega
theorem Inv.tuple (I : Inv X pins σ H s) (h : SqT X.K H a xs) : ∃ its : List Value, Vals xs its ∧ IsTup s.heap a its.toArray ∧ xs.length ≤ sizeLine := by
  rcases h with h | ⟨o, its, n, hk, hc, hs, hz, r⟩
  · obtain ⟨z, its, r, p⟩ := h.ok I.hok
    exact ⟨its, r, p, z⟩
  · refine ⟨its.toList, r, ⟨o, I.kIn a o hk, hc, n, by simpa using hs⟩, ?_⟩
    have e := r.length
    simp only [Array.length_toList] at e
    omega
theorem Inv.list_inj (I : Inv X pins σ H s) (h : SqL X.K H a xs) (h' : SqL X.K H a ys) : xs = ys := by
  obtain ⟨its, r, ⟨o, n, e, _, _, d⟩, _⟩ := I.list h
  obtain ⟨its', r', ⟨o', n', e', _, _, d'⟩, _⟩ := I.list h'
  rw [e] at e'; cases e'
  rw [d] at d'
  injection d' with d1 _
  have : its = its' := by simpa using congrArg Array.toList d1
  subst this
  exact r.inj r'
end
abbrev Cx.wish (X : Cx) (E : Value → Shared → Prop) : Cx := { X with xe := E }
abbrev Cx.nox (X : Cx) : Cx := X.wish fun _ _ => False
theorem Cx.Ok.wish {X : Cx} (ok : X.Ok) (E : Value → Shared → Prop) : (X.wish E).Ok :=
  ⟨ok.mod, ok.kind, ok.glob, ok.blt, ok.above, ok.inj, ok.has, ok.cab, ok.hd, ok.frames, ok.stk, ok.exf, ok.bs, ok.bsz, ok.noex, ok.exfs, ok.funs, ok.frf⟩
theorem Cx.Ok.unwish {X : Cx} {E : Value → Shared → Prop} (ok : (X.wish E).Ok) : X.Ok :=
  ⟨ok.mod, ok.kind, ok.glob, ok.blt, ok.above, ok.inj, ok.has, ok.cab, ok.hd, ok.frames, ok.stk, ok.exf, ok.bs, ok.bsz, ok.noex, ok.exfs, ok.funs, ok.frf⟩
section
variable {X : Cx} {pins : List (Addr × Obj)} {σ : St} {H : Hp} {s : Shared} {E : Value → Shared → Prop}
theorem Inv.wish (I : Inv X pins σ H s) (E : Value → Shared → Prop) : Inv (X.wish E) pins σ H s := ⟨I.ok.wish E, I.os, I.bare, I.base, I.loc, I.cell, I.free, I.freeC, I.pin, I.hok, I.len⟩
theorem Inv.unwish (I : Inv (X.wish E) pins σ H s) : Inv X pins σ H s := ⟨I.ok.unwish, I.os, I.bare, I.base, I.loc, I.cell, I.free, I.freeC, I.pin, I.hok, I.len⟩
theorem SP.unwish {D : Ends} {f : Flow} {s' : Shared} (h : SP (X.wish E) pins D f s') : SP X pins D f s' := by
  cases f with
  | next => obtain ⟨σ', H', I, q⟩ := h; exact ⟨σ', H', I.unwish, q⟩
  | brk => obtain ⟨σ', H', I, q⟩ := h; exact ⟨σ', H', I.unwish, q⟩
  | cont => obtain ⟨σ', H', I, q⟩ := h; exact ⟨σ', H', I.unwish, q⟩
  | ret u => obtain ⟨v, σ', H', I, r, q⟩ := h; exact ⟨v, σ', H', I.unwish, r, q⟩
theorem PSs.nox {st : List Stmt} {t : TS} (h : PSs X.nox st t) : PSs X st t := fun pins s σ H D I hw =>
  wpAny_mono (h pins s σ H D (I.wish _) hw) (fun _ _ q => q.unwish) fun _ _ z => False.elim z
end
section
variable {X : Cx} {st : Stmt} {rest : List Stmt} {t u : TS} {e : Expr} {te : TE} {pos : Pos}
def tNext : TS := fun D σ H => D.nx σ H
def tSeq (t u : TS) : TS := fun D σ H => t { D with nx := u D } σ H
theorem pss_nil : PSs X [] tNext := fun _ _ σ H _ I h => wpAny_execs_nil ⟨σ, H, I, h⟩
theorem pss_cons (h1 : PS X st t) (h2 : PSs X rest u) : PSs X (st :: rest) (tSeq t u) := by
  intro pins s σ H D I h
  refine wpAny_execs_cons (thn (h1 pins s σ H { D with nx := u D } I h) fun f s1 q => ?_)
  cases f with
  | next =>
    obtain ⟨σ', H', I', q⟩ := q
    exact h2 pins s1 σ' H' D I' q
  | ret v => exact q
  | brk => exact q
  | cont => exact q
theorem pss_one (h1 : PS X st t) : PSs X [st] t := by
  intro pins s σ H D I h
  refine wpAny_execs_cons (thn (h1 pins s σ H D I h) fun f s1 q => ?_)
  cases f with
  | next => exact wpAny_execs_nil q
  | ret v => exact q
  | brk => exact q
  | cont => exact q
theorem Inv.quiet {pins : List (Addr × Obj)} {σ : St} {H : Hp} {s : Shared} (I : Inv X pins σ H s) : interactive X.env = false := by simp [interactive, I.ok.kind]
def tDrop (te : TE) : TS := fun D σ H => te σ H fun _ H1 => D.nx σ H1
theorem ps_expr (he : PE X e te) (hs : swapsWith e none pos.line X.env = pure false := by rfl) : PS X (.Expr e pos) (tDrop te) := by
  intro pins s σ H D I h
  refine wpAny_Expr_any (thn (he pins s σ H _ I h) fun v s1 hm0 => ?_) I.quiet hs
  obtain ⟨x, H1, I1, r1, q1⟩ := hm0
  exact ⟨σ, H1, I1, q1⟩
def tRet (te : TE) : TS := fun D σ H => te σ H D.rt
theorem ps_ret (he : PE X e te) : PS X (.Return (some e) pos) (tRet te) := by
  intro pins s σ H D I h
  refine wpAny_Return_some (thn (he pins s σ H _ I h) fun v s1 hm0 => ?_)
  obtain ⟨x, H1, I1, r1, q1⟩ := hm0
  exact ⟨x, σ, H1, I1, r1, q1⟩
def tIfS (c : TT) (t u : TS) : TS := fun D σ H => c σ H fun b H1 => if b = true then t D σ H1 else u D σ H1
theorem ps_if {c : Expr} {a b : List Stmt} {tc : TT} (hc : PT X c tc) (ha : PSs X a t) (hb : PSs X b u) : PS X (.If c a b pos) (tIfS tc t u) := by
  intro pins s σ H D I h
  refine wpAny_If (thn (hc pins s σ H _ I h) fun d s1 hm0 => ?_)
  obtain ⟨H1, I1, q1⟩ := hm0
  cases d with
  | true => exact ha pins s1 σ H1 D I1 q1
  | false => exact hb pins s1 σ H1 D I1 q1
end
abbrev TG := V → St → Hp → (St → Hp → Prop) → Prop
abbrev TGs := List V → St → Hp → (St → Hp → Prop) → Prop
def PG (X : Cx) (target : Expr) (t : TG) : Prop :=
  ∀ (pins : List (Addr × Obj)) (s : Shared) (σ : St) (H : Hp) (v : V) (u : Value) (Q : St → Hp → Prop), Inv X pins σ H s → RelV v u → t v σ H Q →
    wpAny (model X.prog X.w) X.A (assign target X.env u) (fun _ s' => ∃ σ' H', Inv X pins σ' H' s' ∧ Q σ' H') X.xe s
def PGs (X : Cx) (ts : List Expr) (t : TGs) : Prop :=
  ∀ (pins : List (Addr × Obj)) (s : Shared) (σ : St) (H : Hp) (vs : List V) (us : List Value) (Q : St → Hp → Prop), Inv X pins σ H s → Vals vs us → t vs σ H Q →
    wpAny (model X.prog X.w) X.A (assignInOrder ((assignEach ts X.env).map (·.2)) us) (fun _ s' => ∃ σ' H', Inv X pins σ' H' s' ∧ Q σ' H') X.xe s
abbrev TSet := V → V → V → Hp → (Hp → Prop) → Prop
def PSet (X : Cx) (t : TSet) : Prop :=
  ∀ (pins : List (Addr × Obj)) (s : Shared) (σ : St) (H : Hp) (o i v : V) (ov iv u : Value) (Q : Hp → Prop), Inv X pins σ H s → RelV o ov → RelV i iv → RelV v u → t o i v H Q →
    wpAny (model X.prog X.w) X.A (setItem ov iv u) (fun _ s' => ∃ H', Inv X pins σ H' s' ∧ Q H') X.xe s
section
variable {X : Cx} {pos : Pos}
def gName (i : Nat) : TG := fun v σ H Q => Q (σ.set i (some v)) H
theorem pg_name {i : Nat} {x : Str} (hN : X.N.Nodup) (hi : X.N[i]? = some x) (hx : Loc X.env.scope x) (hf : X.fn x = true ∨ X.env.scope.names.lookup x = some .local := by first | exact .inl rfl | exact .inr rfl | assumption) : PG X (.Name x pos) (gName i) := by
  intro pins s σ H v u Q I r h
  exact wpAny_assign_Name (store_ok I hN hi hx r (fun s' I' => ⟨_, H, I', h⟩) hf)
def gNil : TGs := fun vs σ H Q => vs = [] ∧ Q σ H
def gCons (t : TG) (u : TGs) : TGs := fun vs σ H Q => ∃ v r, vs = v :: r ∧ t v σ H fun σ' H' => u r σ' H' Q
theorem pgs_nil : PGs X [] gNil := by
  intro pins s σ H vs us Q I r h
  obtain ⟨e, h⟩ := h
  subst e
  cases r
  exact assignInOrder_nil ⟨σ, H, I, h⟩
theorem pgs_cons {e : Expr} {es : List Expr} {t : TG} {u : TGs} (h1 : PG X e t) (h2 : PGs X es u)
    (hs : (assignEach (e :: es) X.env).map (·.2) = assign e X.env :: (assignEach es X.env).map (·.2) := by rfl) : PGs X (e :: es) (gCons t u) := by
  intro pins s σ H vs us Q I r h
  obtain ⟨v, vr, e1, h⟩ := h
  subst e1
  cases r with
  | cons r rr =>
    rw [hs]
    refine assignInOrder_cons (thn (h1 pins s σ H _ _ _ I r h) fun _ s1 hm0 => ?_)
    obtain ⟨σ1, H1, I1, q1⟩ := hm0
    exact h2 pins s1 σ1 H1 _ _ Q I1 rr q1
def gTup (K : PySem.W.Frag) (n : Nat) (t : TGs) : TG := fun v σ H Q => ∃ a xs, v = .ref a ∧ SqT K H a xs ∧ xs.length = n ∧ t xs σ H Q
theorem pg_tup {es : List Expr} {k : Nat} {t : TGs} {n : Nat} (hc : X.calm = true) (h : PGs X es t)
    (hn : (assignEach es X.env).length = n := by rfl) (hst : (assignEach es X.env).findIdx? (·.1) = none := by rfl) : PG X (.Tuple es k pos) (gTup X.K n t) := by
  intro pins s σ H v u Q I r hw
  obtain ⟨a, xs, e1, hq, hl, hw⟩ := hw
  subst e1
  cases r
  obtain ⟨its, rv, ht, hz⟩ := I.tuple hq
  refine assign_Tuple_tuple (I.ok.hd hc) ht (by simp [hn, ← hl, rv.length]) hst fun h' hx => ?_
  have I1 : Inv X pins σ H { s with heap := h' } := I.kept (t' := s.toks) fun b o e => hx b o (Nat.ne_of_lt (Heap.lt_size e)) e
  exact h pins _ σ H xs _ Q I1 (by simpa using rv) hw
def gSub (to ti : TE) (t : TSet) : TG := fun v σ H Q => to σ H fun o H1 => ti σ H1 fun i H2 => t o i v H2 fun H3 => Q σ H3
theorem pg_sub {o i : Expr} {to ti : TE} {t : TSet} (ho : PE X o to) (hi : PE X i ti) (hs : PSet X t)
    (ha : ∀ v, assign (.Subscript o i pos) X.env v = (do
      let ov ← holding [v] (eval o X.env)
      let iv ← holding [v, ov] (eval i X.env)
      standAt pos
      holding [v, ov, iv] (setItem ov iv v)
      release [v, ov, iv] []) := by intro _; rfl) : PG X (.Subscript o i pos) (gSub to ti t) := by
  intro pins s σ H v u Q I r h
  rw [ha]
  refine wpAny_bind (wpAny_holding (thn (ho pins s σ H _ I h) fun ov s1 hm0 => ?_))
  obtain ⟨x, H1, I1, r1, q1⟩ := hm0
  refine wpAny_bind (wpAny_holding (thn (hi pins s1 σ H1 _ I1 q1) fun iv s2 hm0 => ?_))
  obtain ⟨y, H2, I2, r2, q2⟩ := hm0
  refine wpAny_bind (wpAny_standAt (wpAny_bind (wpAny_holding (thn (hs pins s2 σ H2 x y v ov iv u _ I2 r1 r2 r q2) fun _ s3 hm0 => ?_))))
  obtain ⟨H3, I3, q3⟩ := hm0
  exact wpAny_release ⟨σ, H3, I3, q3⟩
def tAsg (te : TE) (g : TG) : TS := fun D σ H => te σ H fun x H1 => g x σ H1 D.nx
theorem ps_asg {tg e : Expr} {te : TE} {g : TG} (he : PE X e te) (hg : PG X tg g) (hs : swapsWithSole [tg] e pos.line X.env = pure false := by rfl) (hw : swappedStores [tg] e X.env = pure none := by rfl)
    (h1 : (assignEach [tg] X.env).map (·.2) = [assign tg X.env] := by rfl) : PS X (.Assign [tg] e pos) (tAsg te g) := by
  intro pins s σ H D I h
  refine wpAny_Assign_stores (thn (he pins s σ H _ I h) fun v s1 hm0 => ?_) hs hw
  obtain ⟨x, H1, I1, r1, q1⟩ := hm0
  rw [h1]
  exact thn (hg pins s1 σ H1 x v _ I1 r1 q1) fun _ s2 q => q
theorem ps_set {i : Nat} {x : Str} {e : Expr} {te : TE} {pos' : Pos} (hN : X.N.Nodup) (hi : X.N[i]? = some x) (hx : Loc X.env.scope x) (he : PE X e te) (hs : swapsWith e (some (.Name x pos')) pos.line X.env = pure false := by rfl) (hf : X.fn x = true ∨ X.env.scope.names.lookup x = some .local := by first | exact .inl rfl | exact .inr rfl | assumption) :
    PS X (.Assign [.Name x pos'] e pos) (tAsg te (gName i)) := by
  intro pins s σ H D I h
  refine wpAny_Assign_Name (thn (he pins s σ H _ I h) fun v s1 hm0 => ?_) hs
  obtain ⟨y, H1, I1, r1, q1⟩ := hm0
  exact store_ok I1 hN hi hx r1 (fun s2 I2 => ⟨_, H1, I2, q1⟩) hf
end
section
variable {X : Cx} {pos : Pos}
def tWhile (c : TT) (tb : TS) : TS := fun D σ H => ∃ W : Nat → St → Hp → Prop, (∃ m, W m σ H) ∧ ∀ m σ H, W m σ H →
  c σ H fun b H1 => if b = true then ∃ N : St → Hp → Prop, (∀ σ' H', N σ' H' → ∃ m', m' < m ∧ W m' σ' H') ∧ tb { D with nx := N, ct := N, bk := D.nx } σ H1 else D.nx σ H1
theorem ps_while {c : Expr} {body : List Stmt} {tc : TT} {tb : TS} (hp : PassesOwn (model X.prog X.w) X.A X.env X.xe) (hc : PT X c tc) (hb : PSs X body tb) : PS X (.While c body [] pos) (tWhile tc tb) := by
  intro pins s σ H D I h
  obtain ⟨W, ⟨m0, w0⟩, turn⟩ := h
  refine wpAny_While (codeAny_whileLoop (fun n s' => ∃ σ' H', Inv X pins σ' H' s' ∧ W n σ' H') ?_ m0 ⟨σ, H, I, w0⟩)
  rintro n s1 ⟨σ1, H1, I1, w1⟩
  refine wpAny_passesOwn hp (thn (hc pins s1 σ1 H1 _ I1 (turn n σ1 H1 w1)) fun b s2 hm0 => ?_)
  obtain ⟨H2, I2, q2⟩ := hm0
  cases b with
  | true =>
    obtain ⟨N, hN, q2⟩ := q2
    rw [if_pos rfl]
    refine wpAny_passesOwn hp (thn (hb pins s2 σ1 H2 _ I2 q2) fun f s3 q3 => ?_)
    cases f with
    | next =>
      obtain ⟨σ3, H3, I3, n3⟩ := q3
      obtain ⟨m', hm, w3⟩ := hN σ3 H3 n3
      exact ⟨m', hm, σ3, H3, I3, w3⟩
    | cont =>
      obtain ⟨σ3, H3, I3, n3⟩ := q3
      obtain ⟨m', hm, w3⟩ := hN σ3 H3 n3
      exact ⟨m', hm, σ3, H3, I3, w3⟩
    | brk => exact q3
    | ret v => exact q3
  | false =>
    rw [if_neg Bool.false_ne_true]
    exact wpAny_execs_nil ⟨σ1, H2, I2, q2⟩
end
structure It where
  go : Nat → Hp → Prop
  yld : Nat → Hp → V → Hp → Prop
  stop : Nat → Hp → Prop
def FpOk (X : Cx) (pins : List (Addr × Obj)) (H : Hp) (b : Addr) : Prop :=
  H b = none ∧ b ≠ X.env.locals ∧ b ∉ X.fs ∧ (b ∈ X.ex ∨ X.s₀.heap.objs.size ≤ b) ∧ (∀ x c, X.env.cells.lookup x = some c → c ≠ b) ∧ ∀ p ∈ X.pn ++ pins, p.1 ≠ b
theorem Inv.fpOk {X : Cx} {pins : List (Addr × Obj)} {σ : St} {H H' : Hp} {s : Shared} {b : Addr} (I : Inv X pins σ H s) (hb : s.heap.objs.size ≤ b) (hn : H' b = none) : FpOk X pins H' b := by
  refine ⟨hn, Nat.ne_of_gt (Nat.lt_of_lt_of_le I.lt hb), I.nofs hb, .inr (Nat.le_trans I.sz hb), fun x c e z => ?_, fun p hp z => ?_⟩
  · obtain ⟨v, q⟩ := I.cell x c e
    exact absurd (Nat.lt_of_lt_of_le q.lt (by rw [z]; exact hb)) (Nat.lt_irrefl _)
  · exact absurd (Nat.lt_of_lt_of_le (Heap.lt_size (I.pin p hp).1) (by rw [z]; exact hb)) (Nat.lt_irrefl _)
structure Turn (P : Program) (w : World) (K : PySem.W.Frag) (tg : Expr) (J : It) (fp : List Addr) (it : Addr) (tn : Nat → Heap → Prop) : Prop where
  mem : it ∈ fp
  obj : ∀ i h, tn i h → ∀ b ∈ fp, ∃ o, h.get? b = some o ∧ ∀ v, o.data ≠ .cell v
  keep : ∀ i h h', tn i h → (∀ b ∈ fp, ∀ o, h.get? b = some o → h'.get? b = some o) → tn i h'
  item : ∀ (X : Cx), X.prog = P → X.w = w → X.K = K → X.calm = true → ∀ (i : Nat) (pins : List (Addr × Obj)) (s : Shared) (σ : St) (H : Hp) (E : Value → Shared → Prop), Inv X pins σ H s → (∀ b ∈ fp, FpOk X pins H b) → tn i s.heap → J.go i H →
    wpAny (model P w) X.A (pyNext (.ref it)) (fun r s1 => ∃ u, r = some u ∧
      wpAny (model P w) X.A (letOwnedTupleGo tg (.ref it) u) (fun _ s2 => ∃ x H', Inv X pins σ H' s2 ∧ RelV x u ∧ J.yld i H x H' ∧ tn (i + 1) s2.heap ∧ ∀ b ∈ fp, H' b = none) E s1) E s
  done : ∀ (X : Cx), X.prog = P → X.w = w → X.K = K → X.calm = true → ∀ (i : Nat) (pins : List (Addr × Obj)) (s : Shared) (σ : St) (H : Hp) (E : Value → Shared → Prop), Inv X pins σ H s → (∀ b ∈ fp, FpOk X pins H b) → tn i s.heap → J.stop i H →
    wpAny (model P w) X.A (pyNext (.ref it)) (fun r s1 => r = none ∧ Inv X pins σ H s1) E s
  self : ∀ (A : Around) (i : Nat) (s : Shared) (Q : Value → Shared → Prop) (E : Value → Shared → Prop), tn i s.heap → Q (.ref it) s → wpAny (model P w) A (pyIter (.ref it)) Q E s
abbrev TI := St → Hp → (It → Hp → Prop) → Prop
def PIE (X : Cx) (pins : List (Addr × Obj)) (σ : St) (tg : Expr) (R : It → Hp → Prop) (itv : Value) (s2 : Shared) : Prop :=
  ∃ (it : Addr) (fp : List Addr) (tn : Nat → Heap → Prop) (J : It) (H' : Hp), itv = .ref it ∧ Inv X pins σ H' s2 ∧ Turn X.prog X.w X.K tg J fp it tn ∧ tn 0 s2.heap ∧ (∀ b ∈ fp, FpOk X pins H' b) ∧ R J H'
def PI (X : Cx) (tg iter : Expr) (wi : TI) : Prop :=
  ∀ (pins : List (Addr × Obj)) (s : Shared) (σ : St) (H : Hp) (R : It → Hp → Prop), Inv X pins σ H s → wi σ H R →
    wpAny (model X.prog X.w) X.A (eval iter X.env) (fun v s1 => wpAny (model X.prog X.w) X.A (pyIter v) (PIE X pins σ tg R) X.xe s1) X.xe s
theorem go_of {M : Model} {A : Around} {E : Value → Shared → Prop} {s : Shared} {tg : Expr} {it : Addr} {u : Value} {o : Obj} {n : String} {vs : Array Value} {Q : Unit → Shared → Prop} (ho : s.heap.get? it = some o) (hc : o.cls = .type n) (hd : o.data = .fields vs)
    (hn : ["enumerate", "zip", "dict_itemiterator", "dict_reverseitemiterator", "odict_iterator", "itertools.zip_longest", "itertools.pairwise"].contains n = false) (hQ : Q () s) : wpAny M A (letOwnedTupleGo tg (.ref it) u) Q E s := by
  unfold letOwnedTupleGo
  cases tg <;> first
    | exact wpAny_pure hQ
    | (cases u <;> first
        | exact wpAny_pure hQ
        | (refine wpAny_bind (wpAny_load ho ?_)
           rw [hc, hd]
           show wpAny M A (if (["enumerate", "zip", "dict_itemiterator", "dict_reverseitemiterator", "odict_iterator", "itertools.zip_longest", "itertools.pairwise"].contains n && vs[0]? == some (rawInt _)) = true then _ else _) Q E s
           rw [if_neg (by intro h; rw [hn, Bool.false_and] at h; cases h)]
           exact wpAny_pure hQ))
def Itl (K : PySem.W.Frag) (a : Addr) : It :=
  ⟨fun i H => ∃ xs x, SqL K H a xs ∧ xs[i]? = some x, fun i H x H' => H' = H ∧ ∀ xs, SqL K H a xs → xs[i]? = some x, fun i H => ∃ xs, SqL K H a xs ∧ xs.length ≤ i⟩
def Itr (lo : Int) (n : Nat) : It := ⟨fun i _ => i < n, fun i H x H' => H' = H ∧ x = .int (lo + i), fun i _ => n ≤ i⟩
theorem turn_list {P : Program} {w : World} {K : PySem.W.Frag} {tg : Expr} (a it : Addr) : Turn P w K tg (Itl K a) [it] it (fun i h => h.IsListIter it a i) where
  mem := by simp
  obj := fun i h st b hb => by
    have e : b = it := by simpa using hb
    subst e
    obtain ⟨o, e, c, d⟩ := st
    exact ⟨o, e, fun v z => by rw [d] at z; cases z⟩
  keep := fun i h h' st k => st.at fun o e => k it (by simp) o e
  item := by
    intro X hP hw hK hc i pins s σ H E I hf st hg
    subst hP hw hK
    obtain ⟨xs, x, hq, hx⟩ := hg
    obtain ⟨its, rv, p, hz⟩ := I.list hq
    obtain ⟨u, hu, ru⟩ := rv.get hx
    obtain ⟨f0, f1, f2, f3, f4, f5⟩ := hf it (by simp)
    refine wpAny_pyNext_list_item st p.isList (x := u) (by simpa using hu) fun h' st' sb => ?_
    have I1 : Inv X pins σ H { s with heap := h' } := I.turned (t' := s.toks) (fun b o hb e => (sb.2 b hb).trans e) f0 f1 f3 f4 f5
    obtain ⟨o, e, c, d⟩ := id st'
    exact ⟨u, rfl, go_of (s := { s with heap := h' }) e c d (by decide) ⟨x, H, I1, ru, ⟨rfl, fun ys hy => by rw [I.list_inj hy hq]; exact hx⟩, st', fun b hb => (hf b hb).1⟩⟩
  done := by
    intro X hP hw hK hc i pins s σ H E I hf st hg
    subst hP hw hK
    obtain ⟨xs, hq, hx⟩ := hg
    obtain ⟨its, rv, p, hz⟩ := I.list hq
    obtain ⟨f0, f1, f2, f3, f4, f5⟩ := hf it (by simp)
    have hl := rv.length
    exact wpAny_pyNext_list_end (I.ok.hd hc) st p.isList (by simp; omega) fun h' eb => ⟨rfl, I.turned (t' := s.toks) (fun b o hb e => eb b o hb e) f0 f1 f3 f4 f5⟩
  self := fun _ _ _ _ _ st h => wpAny_pyIter_listiter st h
theorem turn_range {P : Program} {w : World} {K : PySem.W.Frag} {tg : Expr} (it : Addr) (lo : Int) (n : Nat) : Turn P w K tg (Itr lo n) [it] it (fun i h => IsRangeIter h it (lo + (i : Nat) * 1) ((n : Int) - (i : Nat)) 1) where
  mem := by simp
  obj := fun i h st b hb => by
    have e : b = it := by simpa using hb
    subst e
    exact ⟨_, st, fun v z => by
      have z' : Data.fields _ = Data.cell v := z
      cases z'⟩
  keep := fun i h h' st k => k it (by simp) _ st
  item := by
    intro X hP hw hK hc i pins s σ H E I hf st hg
    subst hP hw hK
    obtain ⟨f0, f1, f2, f3, f4, f5⟩ := hf it (by simp)
    have W := Walks.range (prog := X.prog) (w := X.w) (I.ok.hd hc) it lo 1 n
    refine W.item i s _ _ hg st fun v h' tk hv st' kk => ?_
    obtain ⟨t, rfl⟩ := hv
    have I1 : Inv X pins σ H { s with heap := h', toks := tk } := I.turned (fun b o hb e => kk b o (by simpa using hb) e) f0 f1 f3 f4 f5
    refine ⟨_, rfl, go_of (s := { s with heap := h', toks := tk }) (n := "range_iterator") st' rfl rfl (by decide) ⟨.int (lo + i), H, I1, ⟨t, ?_⟩, ⟨rfl, rfl⟩, st', fun b hb => (hf b hb).1⟩⟩
    rw [Int.mul_one]
  done := by
    intro X hP hw hK hc i pins s σ H E I hf st hg
    subst hP hw hK
    obtain ⟨f0, f1, f2, f3, f4, f5⟩ := hf it (by simp)
    exact wpAny_pyNext_range_end (I.ok.hd hc) st (by have : n ≤ i := hg; omega) fun h' eb => ⟨rfl, I.turned (t' := s.toks) (fun b o hb e => eb b o hb e) f0 f1 f3 f4 f5⟩
  self := fun _ _ _ _ _ st h => wpAny_pyIter_rangeiter st h
end L2
namespace L2
open PySem PySem.Spec PyProof.Rows
section
variable {X : Cx} {tg : Expr}
def iList (K : PySem.W.Frag) (tl : TE) : TI := fun σ H R => tl σ H fun x H1 => ∃ a, x = .ref a ∧ (∃ xs, SqL K H1 a xs) ∧ R (Itl K a) H1
theorem pi_list {l : Expr} {tl : TE} (hl : PE X l tl) : PI X tg l (iList X.K tl) := by
  intro pins s σ H R I h
  refine thn (hl pins s σ H _ I h) fun v s1 hm0 => ?_
  obtain ⟨x, H1, I1, r1, q1⟩ := hm0
  obtain ⟨a, e, ⟨xs, hq⟩, q⟩ := q1
  subst e
  cases r1
  obtain ⟨its, rv, p, hz⟩ := I1.list hq
  refine wpAny_pyIter_list p.isList ?_
  refine ⟨s1.heap.objs.size, [s1.heap.objs.size], _, _, H1, rfl, I1.kept (t' := s1.toks) fun b o e => Heap.get?_push_of_some _ e, turn_list a _, ⟨_, Heap.get?_push_size _ rfl, rfl, rfl⟩, fun b hb => ?_, q⟩
  have e : b = s1.heap.objs.size := by simpa using hb
  subst e
  exact I1.fpOk (Nat.le_refl _) (I1.hok.fresh (Nat.le_refl _))
theorem range_it {pins : List (Addr × Obj)} {σ : St} {H : Hp} {s : Shared} {R : It → Hp → Prop} {E : Value → Shared → Prop} {lo hi : Int} {t u v : Tok} {tk : Nat} (I : Inv X pins σ H s) (h1 : -(2 ^ 62) ≤ lo) (h2 : lo < 2 ^ 62) (h3 : -(2 ^ 62) ≤ hi) (h4 : hi < 2 ^ 62)
    (q : R (Itr lo (hi - lo).toNat) H) : wpAny (model X.prog X.w) X.A (pyIter (.ref s.heap.objs.size)) (PIE X pins σ tg R) E { s with heap := s.heap.push { cls := .type "range", data := .fields #[.int lo t, .int hi u, .int 1 v] }, toks := tk } := by
  refine wpAny_pyIter_range (IsRange.new ..) (small_one h1 h2 h3 h4) ?_
  have I1 : Inv X pins σ H { s with heap := s.heap.push { cls := .type "range", data := .fields #[.int lo t, .int hi u, .int 1 v] }, toks := tk } := I.kept fun b o e => Heap.get?_push_of_some _ e
  refine ⟨(s.heap.push { cls := .type "range", data := .fields #[.int lo t, .int hi u, .int 1 v] }).objs.size, [(s.heap.push { cls := .type "range", data := .fields #[.int lo t, .int hi u, .int 1 v] }).objs.size], _, _, H, rfl,
    I1.kept (t' := tk) fun b o e => Heap.get?_push_of_some _ e, turn_range _ lo (hi - lo).toNat, ?_, fun b hb => ?_, q⟩
  · have e1 : lo + ((0 : Nat) : Int) * 1 = lo := by simp
    have e2 : (((hi - lo).toNat : Nat) : Int) - ((0 : Nat) : Int) = Builtin.Range.rangeSize lo hi 1 := by rw [rangeSize_one]; split <;> omega
    show IsRangeIter _ _ (lo + ((0 : Nat) : Int) * 1) ((((hi - lo).toNat : Nat) : Int) - ((0 : Nat) : Int)) 1
    rw [e1, e2]
    exact Heap.get?_push_size _ rfl
  · have e : b = (s.heap.push { cls := .type "range", data := .fields #[.int lo t, .int hi u, .int 1 v] }).objs.size := by simpa using hb
    subst e
    exact I1.fpOk (Nat.le_refl _) (I1.hok.fresh (Nat.le_refl _))
def iRng1 (ta : TA) : TI := fun σ H R => ta σ H fun vs H1 => ∃ j : Int, vs = [.int j] ∧ -(2 ^ 62) ≤ j ∧ j < 2 ^ 62 ∧ R (Itr 0 j.toNat) H1
theorem pi_range1 {a : Expr} {ta : TA} {p pos : Pos} (hg : Gl X "range") (hm : X.mg "range" = none) (ha : PA X [a] ta) (hs : starEach [a] X.env = [(false, eval a X.env)] := by rfl) : PI X tg (.Call (.Name "range" p) [a] [] pos) (iRng1 ta) := by
  intro pins s σ H R I h
  refine Call_ (ld_blt I hg hm boot_range (PyProof.Rows.callWith_type1 (thn (ha pos pins s σ H _ I h) fun us s1 hm0 => ?_) hs rfl))
  obtain ⟨vs, H1, I1, r1, q1⟩ := hm0
  obtain ⟨j, e, q1, q2, q⟩ := q1
  subst e
  cases r1 with
  | cons r rr =>
    cases rr
    obtain ⟨t, rfl⟩ := r
    exact call_range_1 (range_it I1 (by omega) (by omega) q1 q2 (by simpa using q))
def tFor (wi : TI) (g : TG) (tb : TS) : TS := fun D σ H => wi σ H fun J H1 => ∃ W : Nat → Nat → St → Hp → Prop, (∃ m, W 0 m σ H1) ∧ ∀ i m σ H, W i m σ H →
  (J.stop i H ∧ D.nx σ H) ∨ (J.go i H ∧ ∃ N : St → Hp → Prop, (∀ σ' H', N σ' H' → ∃ m', m' < m ∧ W (i + 1) m' σ' H') ∧ ∀ x H', J.yld i H x H' → g x σ H' fun σ2 H2 => tb { D with nx := N, ct := N, bk := D.nx } σ2 H2)
def pinsAt (fp : List Addr) (h : Heap) : List (Addr × Obj) := fp.filterMap fun b => (h.get? b).map fun o => (b, o)
theorem mem_pinsAt {fp : List Addr} {h : Heap} {b : Addr} {o : Obj} (hb : b ∈ fp) (e : h.get? b = some o) : (b, o) ∈ pinsAt fp h := List.mem_filterMap.mpr ⟨b, hb, by rw [e]; rfl⟩
theorem of_pinsAt {fp : List Addr} {h : Heap} {p : Addr × Obj} (hp : p ∈ pinsAt fp h) : p.1 ∈ fp ∧ h.get? p.1 = some p.2 := by
  obtain ⟨b, hb, e⟩ := List.mem_filterMap.mp hp
  cases q : h.get? b with
  | none => rw [q] at e; cases e
  | some o =>
    rw [q] at e
    have e' : (b, o) = p := Option.some.inj e
    subst e'
    exact ⟨hb, q⟩
theorem Inv.pinned {pins : List (Addr × Obj)} {σ : St} {H : Hp} {s : Shared} {fp : List Addr} (I : Inv X pins σ H s) (hf : ∀ b ∈ fp, FpOk X pins H b) (ho : ∀ b ∈ fp, ∃ o, s.heap.get? b = some o ∧ ∀ v, o.data ≠ .cell v) : Inv X (pins ++ pinsAt fp s.heap) σ H s :=
  I.pins_of fun p hp => (List.mem_append.mp hp).elim (fun z => I.pin p (List.mem_append_right _ z)) fun z => by
    obtain ⟨hb, e⟩ := of_pinsAt z
    obtain ⟨f0, f1, f2, _⟩ := hf p.1 hb
    obtain ⟨o, e', d⟩ := ho p.1 hb
    rw [e] at e'; cases e'
    exact ⟨e, f0, f1, f2, d⟩
theorem Inv.unpinned {pins pl : List (Addr × Obj)} {σ : St} {H : Hp} {s : Shared} (I : Inv X (pins ++ pl) σ H s) : Inv X pins σ H s := I.pins_of fun p hp => I.pin p (List.mem_append_right _ (List.mem_append_left _ hp))
theorem ps_for {iter : Expr} {body : List Stmt} {wi : TI} {g : TG} {tb : TS} {pos : Pos} (hp : PassesOwn (model X.prog X.w) X.A X.env X.xe) (hc : X.calm = true) (hi : PI X tg iter wi) (hg : PG X tg g) (hb : PSs X body tb)
    (hs : ∀ x, foldedSetIterable iter X.env x = pure x := by intro _; rfl) : PS X (.For tg iter body [] pos) (tFor wi g tb) := by
  intro pins s σ H D I h
  refine wpAny_For (thn (hi pins s σ H _ I h) fun v s1 h1 => thn h1 fun itv s2 h2 => ?_) hs
  obtain ⟨it, fp, tn, J, H2, e, I2, T, st2, f2, W, ⟨m0, w0⟩, turn⟩ := h2
  subst e
  have stat : ∀ {H' : Hp}, (∀ b ∈ fp, H' b = none) → ∀ b ∈ fp, FpOk X pins H' b := fun hn b hb => ⟨hn b hb, (f2 b hb).2⟩
  refine codeAny_forLoop_any (fun n s' => ∃ i σ' H', Inv X pins σ' H' s' ∧ tn i s'.heap ∧ (∀ b ∈ fp, H' b = none) ∧ W i n σ' H') ?_ m0 ⟨0, σ, H2, I2, st2, fun b hb => (f2 b hb).1, w0⟩
  rintro n s3 ⟨i, σ3, H3, I3, st3, fr3, w3⟩
  rcases turn i n σ3 H3 w3 with ⟨stop, qn⟩ | ⟨go, N, hN, step⟩
  · refine wpAny_passesOwn hp (thn (T.done X rfl rfl rfl hc i pins s3 σ3 H3 X.xe I3 (stat fr3) st3 stop) fun r s4 hm0 => ?_)
    obtain ⟨hr, I4⟩ := hm0
    subst hr
    exact wpAny_execs_nil ⟨σ3, H3, I4, qn⟩
  · refine wpAny_passesOwn hp (thn (T.item X rfl rfl rfl hc i pins s3 σ3 H3 X.xe I3 (stat fr3) st3 go) fun r s4 hm0 => ?_)
    obtain ⟨u, hr, h4⟩ := hm0
    subst hr
    refine wpAny_passesOwn hp (thn h4 fun _ s5 hm0 => ?_)
    obtain ⟨x, H5, I5, r5, y5, st5, fr5⟩ := hm0
    have I5' := I5.pinned (stat fr5) (T.obj _ _ st5)
    refine wpAny_passesOwn hp (thn (hg _ s5 σ3 H5 x u _ I5' r5 (step x H5 y5)) fun _ s6 hm0 => ?_)
    obtain ⟨σ6, H6, I6, q6⟩ := hm0
    refine wpAny_passesOwn hp (thn (hb _ s6 σ6 H6 _ I6 q6) fun f s7 q7 => ?_)
    have again : ∀ {σ7 : St} {H7 : Hp}, Inv X (pins ++ pinsAt fp s5.heap) σ7 H7 s7 → N σ7 H7 → ∃ m, m < n ∧ ∃ i σ' H', Inv X pins σ' H' s7 ∧ tn i s7.heap ∧ (∀ b ∈ fp, H' b = none) ∧ W i m σ' H' := fun {σ7 H7} I7 n7 => by
      obtain ⟨m', hm, w7⟩ := hN σ7 H7 n7
      refine ⟨m', hm, i + 1, σ7, H7, I7.unpinned, T.keep _ _ _ st5 fun b hb o e => (I7.pin (b, o) (List.mem_append_right _ (List.mem_append_right _ (mem_pinsAt hb e)))).1, fun b hb => ?_, w7⟩
      obtain ⟨o, e, d⟩ := T.obj _ _ st5 b hb
      exact (I7.pin (b, o) (List.mem_append_right _ (List.mem_append_right _ (mem_pinsAt hb e)))).2.1
    cases f with
    | next => obtain ⟨σ7, H7, I7, n7⟩ := q7; exact again I7 n7
    | cont => obtain ⟨σ7, H7, I7, n7⟩ := q7; exact again I7 n7
    | brk => obtain ⟨σ7, H7, I7, q7⟩ := q7; exact ⟨σ7, H7, I7.unpinned, q7⟩
    | ret v => obtain ⟨x7, σ7, H7, I7, r7, q7⟩ := q7; exact ⟨x7, σ7, H7, I7.unpinned, r7, q7⟩
end
theorem for_list {K : PySem.W.Frag} {a : Addr} {xs : List V} {g : TG} {tb : TS} {D : Ends} {σ : St} {H : Hp} (Pv : Nat → St → Hp → Prop) (h0 : Pv 0 σ H) (hl : ∀ i σ H, i ≤ xs.length → Pv i σ H → SqL K H a xs)
    (hs : ∀ i x σ H, xs[i]? = some x → Pv i σ H → g x σ H fun σ2 H2 => tb { D with nx := Pv (i + 1), ct := Pv (i + 1), bk := D.nx } σ2 H2) (hd : ∀ σ H, Pv xs.length σ H → D.nx σ H) :
    ∃ W : Nat → Nat → St → Hp → Prop, (∃ m, W 0 m σ H) ∧ ∀ i m σ H, W i m σ H →
      ((Itl K a).stop i H ∧ D.nx σ H) ∨ ((Itl K a).go i H ∧ ∃ N : St → Hp → Prop, (∀ σ' H', N σ' H' → ∃ m', m' < m ∧ W (i + 1) m' σ' H') ∧ ∀ x H', (Itl K a).yld i H x H' → g x σ H' fun σ2 H2 => tb { D with nx := N, ct := N, bk := D.nx } σ2 H2) := by
  refine ⟨fun i m σ H => m = xs.length - i ∧ i ≤ xs.length ∧ Pv i σ H, ⟨xs.length, by simp, Nat.zero_le _, h0⟩, ?_⟩
  rintro i m σ H ⟨rfl, hi, p⟩
  have q := hl i σ H hi p
  by_cases hlt : i < xs.length
  · refine .inr ⟨⟨xs, xs[i], q, by simp [hlt]⟩, Pv (i + 1), fun σ' H' p' => ⟨xs.length - (i + 1), by omega, rfl, hlt, p'⟩, fun x H' y => ?_⟩
    obtain ⟨e, y⟩ := y
    subst e
    exact hs i x σ _ (y xs q) p
  · have e : i = xs.length := by omega
    subst e
    exact .inl ⟨⟨xs, q, Nat.le_refl _⟩, hd σ H p⟩
theorem for_range {lo : Int} {n : Nat} {g : TG} {tb : TS} {D : Ends} {σ : St} {H : Hp} (Pv : Nat → St → Hp → Prop) (h0 : Pv 0 σ H)
    (hs : ∀ i σ H, i < n → Pv i σ H → g (.int (lo + i)) σ H fun σ2 H2 => tb { D with nx := Pv (i + 1), ct := Pv (i + 1), bk := D.nx } σ2 H2) (hd : ∀ σ H, Pv n σ H → D.nx σ H) :
    ∃ W : Nat → Nat → St → Hp → Prop, (∃ m, W 0 m σ H) ∧ ∀ i m σ H, W i m σ H →
      ((Itr lo n).stop i H ∧ D.nx σ H) ∨ ((Itr lo n).go i H ∧ ∃ N : St → Hp → Prop, (∀ σ' H', N σ' H' → ∃ m', m' < m ∧ W (i + 1) m' σ' H') ∧ ∀ x H', (Itr lo n).yld i H x H' → g x σ H' fun σ2 H2 => tb { D with nx := N, ct := N, bk := D.nx } σ2 H2) := by
  refine ⟨fun i m σ H => m = n - i ∧ i ≤ n ∧ Pv i σ H, ⟨n, by simp, Nat.zero_le _, h0⟩, ?_⟩
  rintro i m σ H ⟨rfl, hi, p⟩
  by_cases hlt : i < n
  · refine .inr ⟨hlt, Pv (i + 1), fun σ' H' p' => ⟨n - (i + 1), by omega, rfl, hlt, p'⟩, fun x H' y => ?_⟩
    obtain ⟨e, y⟩ := y
    subst e y
    exact hs i σ _ hlt p
  · have e : i = n := by omega
    subst e
    exact .inl ⟨Nat.le_refl _, hd σ H p⟩
end L2
namespace L2
open PySem PySem.Spec PyProof.Rows
abbrev R2 := V → V → Hp → VK → Prop
def OpR (X : Cx) (f : Value → Value → Sem Value) (r : R2) : Prop :=
  ∀ (pins : List (Addr × Obj)) (s : Shared) (σ : St) (H : Hp) (x y : V) (v u : Value) (Q : VK), Inv X pins σ H s → RelV x v → RelV y u → r x y H Q →
    wpAny (model X.prog X.w) X.A (f v u) (EP X pins σ Q) X.xe s
def CallR (X : Cx) (f : Value) (r : List V → Hp → VK → Prop) : Prop :=
  ∀ (pins : List (Addr × Obj)) (s : Shared) (σ : St) (H : Hp) (xs : List V) (us : List Value) (Q : VK), Inv X pins σ H s → Vals xs us → r xs H Q →
    wpAny (model X.prog X.w) X.A (call f us) (EP X pins σ Q) X.xe s
def TruR (X : Cx) (r : V → Hp → (Bool → Hp → Prop) → Prop) : Prop :=
  ∀ (pins : List (Addr × Obj)) (s : Shared) (σ : St) (H : Hp) (x : V) (v : Value) (Q : Bool → Hp → Prop), Inv X pins σ H s → RelV x v → r x H Q →
    wpAny (model X.prog X.w) X.A (truthy v) (TP X pins σ Q) X.xe s
def tOp (r : R2) (ta tb : TE) : TE := fun σ H Q => ta σ H fun x H1 => tb σ H1 fun y H2 => r x y H2 Q
def rI (C : Int → Int → Prop) (g : Int → Int → V) : R2 := fun x y H Q => ∃ i j, x = .int i ∧ y = .int j ∧ C i j ∧ Q (g i j) H
def rI0 (g : Int → Int → V) : R2 := fun x y H Q => ∃ i j, x = .int i ∧ y = .int j ∧ Q (g i j) H
section
variable {X : Cx} {a b c : Expr} {ta tb tc : TE} {pos : Pos}
theorem binT (ha : PE X a ta) (hb : PE X b tb) {pins : List (Addr × Obj)} {s : Shared} {σ : St} {H : Hp} {R : V → V → Hp → Prop} (I : Inv X pins σ H s)
    (h : ta σ H fun x H1 => tb σ H1 fun y H2 => R x y H2) {Q : Value → Shared → Prop} {f : Value → Value → Sem Value}
    (hf : ∀ v u s2 x y H2, Inv X pins σ H2 s2 → RelV x v → RelV y u → R x y H2 → wpAny (model X.prog X.w) X.A (f v u) Q X.xe s2) :
    wpAny (model X.prog X.w) X.A (eval a X.env) (fun v s₁ => wpAny (model X.prog X.w) X.A (eval b X.env) (fun u s₂ => wpAny (model X.prog X.w) X.A (f v u) Q X.xe s₂) X.xe s₁) X.xe s := by
  refine thn (ha pins s σ H _ I h) fun v s1 hm0 => ?_
  obtain ⟨x, H1, I1, r1, q1⟩ := hm0
  refine thn (hb pins s1 σ H1 _ I1 q1) fun u s2 hm0 => ?_
  obtain ⟨y, H2, I2, r2, q2⟩ := hm0
  exact hf v u s2 x y H2 I2 r1 r2 q2
theorem pe_op {op : Operator} {r : R2} (ho : OpR X (binaryOp op) r) (ha : PE X a ta) (hb : PE X b tb) : PE X (.BinOp a op b pos) (tOp r ta tb) := by
  intro pins s σ H Q I h
  exact wpAny_BinOp (binT ha hb I h fun v u s2 x y H2 I2 rx ry q => ho pins s2 σ H2 x y v u Q I2 rx ry q)
theorem opI {f : Value → Value → Sem Value} {C : Int → Int → Prop} {g : Int → Int → Int}
    (rule : ∀ (i j : Int) (t u : Tok) (s : Shared) (Q : Value → Shared → Prop) (E : Value → Shared → Prop), C i j → Q (.int (g i j) s.toks) { s with toks := s.toks + 1 } → wpAny (model X.prog X.w) X.A (f (.int i t) (.int j u)) Q E s) :
    OpR X f (rI C fun i j => .int (g i j)) := by
  intro pins s σ H x y v u Q I rx ry h
  obtain ⟨i, j, rfl, rfl, hc, q⟩ := h
  obtain ⟨t, rfl⟩ := rx
  obtain ⟨t', rfl⟩ := ry
  exact rule i j t t' s _ _ hc ⟨.int (g i j), H, I.tok _, ⟨_, rfl⟩, q⟩
theorem opI0 {f : Value → Value → Sem Value} {g : Int → Int → Int}
    (rule : ∀ (i j : Int) (t u : Tok) (s : Shared) (Q : Value → Shared → Prop) (E : Value → Shared → Prop), Q (.int (g i j) s.toks) { s with toks := s.toks + 1 } → wpAny (model X.prog X.w) X.A (f (.int i t) (.int j u)) Q E s) :
    OpR X f (rI0 fun i j => .int (g i j)) := by
  intro pins s σ H x y v u Q I rx ry h
  obtain ⟨i, j, rfl, rfl, q⟩ := h
  obtain ⟨t, rfl⟩ := rx
  obtain ⟨t', rfl⟩ := ry
  exact rule i j t t' s _ _ ⟨.int (g i j), H, I.tok _, ⟨_, rfl⟩, q⟩
theorem opB0 {f : Value → Value → Sem Value} {g : Int → Int → Bool}
    (rule : ∀ (i j : Int) (t u : Tok) (s : Shared) (Q : Value → Shared → Prop) (E : Value → Shared → Prop), Q (.bool (g i j)) s → wpAny (model X.prog X.w) X.A (f (.int i t) (.int j u)) Q E s) :
    OpR X f (rI0 fun i j => .bl (g i j)) := by
  intro pins s σ H x y v u Q I rx ry h
  obtain ⟨i, j, rfl, rfl, q⟩ := h
  obtain ⟨t, rfl⟩ := rx
  obtain ⟨t', rfl⟩ := ry
  exact rule i j t t' s _ _ ⟨.bl (g i j), H, I, rfl, q⟩
def CDiv (i j : Int) : Prop := 0 < j ∧ j < 1073741824
def CMul (i j : Int) : Prop := (-(2 ^ 64) < i ∧ i < 2 ^ 64) ∨ (-(2 ^ 64) < j ∧ j < 2 ^ 64)
theorem CMul.ok {i j : Int} (h : CMul i j) : IntMulOk i j := by
  rcases h with ⟨h1, h2⟩ | ⟨h1, h2⟩
  · exact .of_left (intBits_le_64 h1 h2)
  · exact .of_right (intBits_le_64 h1 h2)
theorem op_add : OpR X (binaryOp .Add) (rI0 fun i j => .int (i + j)) := opI0 fun _ _ _ _ _ _ _ q => add_int q
theorem op_sub : OpR X (binaryOp .Sub) (rI0 fun i j => .int (i - j)) := opI0 fun _ _ _ _ _ _ _ q => sub_int q
theorem op_mul : OpR X (binaryOp .Mult) (rI CMul fun i j => .int (i * j)) := opI fun _ _ _ _ _ _ _ hc q => mul_int q hc.ok
theorem op_fdiv : OpR X (binaryOp .FloorDiv) (rI CDiv fun i j => .int (i / j)) := opI fun i j _ _ _ _ _ hc q => by
  have h1 : (0 : Int) < j := hc.1
  have h2 : j < 1073741824 := hc.2
  exact floordiv_int (by omega) (by rw [Int.fdiv_eq_ediv_of_nonneg i (by omega)]; exact q) (.inl (PyProof.noPylong_small (by omega)))
theorem op_mod : OpR X (binaryOp .Mod) (rI (fun _ j => 0 < j) fun i j => .int (i % j)) := opI fun i j _ _ _ _ _ hc q => by
  have h1 : (0 : Int) < j := hc
  exact mod_int' (by omega) (by rw [Int.fmod_eq_emod_of_nonneg i (by omega)]; exact q)
end
def scal : V → V → Bool
  | .non, .non => true | .non, .int _ => true | .int _, .non => true | .non, .bl _ => true | .bl _, .non => true | .non, .str _ => true | .str _, .non => true
  | .int _, .int _ => true | .bl _, .bl _ => true | .str _, .str _ => true | .byt _, .byt _ => true
  | .int _, .str _ => true | .str _, .int _ => true | .bl _, .str _ => true | .str _, .bl _ => true
  | _, _ => false
def rEq : R2 := fun x y H Q => scal x y = true ∧ Q (.bl (decide (x = y))) H
def rNe : R2 := fun x y H Q => scal x y = true ∧ Q (.bl (!decide (x = y))) H
theorem dec_int {i j : Int} : decide (V.int i = V.int j) = (i == j) := by
  rw [Bool.eq_iff_iff]
  simp
theorem dec_bl {i j : Bool} : decide (V.bl i = V.bl j) = (i == j) := by
  rw [Bool.eq_iff_iff]
  simp
theorem dec_str {i j : Str} : decide (V.str i = V.str j) = (i == j) := by
  rw [Bool.eq_iff_iff]
  simp
theorem dec_byt {i j : Array UInt8} : decide (V.byt i = V.byt j) = (i.toList == j.toList) := by
  rw [Bool.eq_iff_iff]
  cases i
  cases j
  simp
section
variable {X : Cx} {a b c : Expr} {ta tb tc : TE} {pos : Pos}
theorem fin_bl {pins : List (Addr × Obj)} {σ : St} {H : Hp} {s : Shared} {Q : VK} {k k' : Bool} (I : Inv X pins σ H s) (q : Q (.bl k) H) (e : k = k') : EP X pins σ Q (.bool k') s := by
  subst e
  exact ⟨.bl k, H, I, rfl, q⟩
theorem op_eq : OpR X (compareOp .Eq) rEq := by
  intro pins s σ H x y v u Q I rx ry h
  obtain ⟨hs, q⟩ := h
  cases x with
  | non =>
    cases rx
    cases y with
    | non => cases ry; exact PySem.EqNone.eq_none_none (fin_bl I q (by simp))
    | bl j => cases ry; exact PySem.EqNone.eq_none_bool (fin_bl I q (by simp))
    | int j => obtain ⟨t', rfl⟩ := ry; exact PySem.EqNone.eq_none_int (fin_bl I q (by simp))
    | str j => obtain ⟨t', rfl⟩ := ry; exact PySem.EqNone.eq_none_str (fin_bl I q (by simp))
    | _ => exact absurd (show false = true from hs) Bool.false_ne_true
  | bl i =>
    cases rx
    cases y with
    | non => cases ry; exact PySem.EqNone.eq_bool_none (fin_bl I q (by simp))
    | bl j => cases ry; exact eq_bool (fin_bl I q dec_bl)
    | str j => obtain ⟨t', rfl⟩ := ry; exact PySem.EqMixed.eq_bool_str (fin_bl I q (by simp))
    | _ => exact absurd (show false = true from hs) Bool.false_ne_true
  | int i =>
    obtain ⟨t, rfl⟩ := rx
    cases y with
    | non => cases ry; exact PySem.EqNone.eq_int_none (fin_bl I q (by simp))
    | int j => obtain ⟨t', rfl⟩ := ry; exact eq_int (fin_bl I q dec_int)
    | str j => obtain ⟨t', rfl⟩ := ry; exact PySem.EqMixed.eq_int_str (fin_bl I q (by simp))
    | _ => exact absurd (show false = true from hs) Bool.false_ne_true
  | str i =>
    obtain ⟨t, rfl⟩ := rx
    cases y with
    | non => cases ry; exact PySem.EqNone.eq_str_none (fin_bl I q (by simp))
    | bl j => cases ry; exact PySem.EqMixed.eq_str_bool (fin_bl I q (by simp))
    | int j => obtain ⟨t', rfl⟩ := ry; exact PySem.EqMixed.eq_str_int (fin_bl I q (by simp))
    | str j => obtain ⟨t', rfl⟩ := ry; exact eq_str (fin_bl I q dec_str)
    | _ => exact absurd (show false = true from hs) Bool.false_ne_true
  | byt i =>
    obtain ⟨t, rfl⟩ := rx
    cases y with
    | byt j => obtain ⟨t', rfl⟩ := ry; exact PySem.W.eq_bytes (fin_bl I q dec_byt)
    | _ => exact absurd (show false = true from hs) Bool.false_ne_true
  | _ => cases y <;> exact absurd (show false = true from hs) Bool.false_ne_true
theorem op_ne : OpR X (compareOp .NotEq) rNe := by
  intro pins s σ H x y v u Q I rx ry h
  obtain ⟨hs, q⟩ := h
  cases x with
  | non =>
    cases rx
    cases y with
    | non => cases ry; exact PySem.EqNone.ne_none_none (fin_bl I q (by simp))
    | bl j => cases ry; exact PySem.EqNone.ne_none_bool (fin_bl I q (by simp))
    | int j => obtain ⟨t', rfl⟩ := ry; exact PySem.EqNone.ne_none_int (fin_bl I q (by simp))
    | str j => obtain ⟨t', rfl⟩ := ry; exact PySem.EqNone.ne_none_str (fin_bl I q (by simp))
    | _ => exact absurd (show false = true from hs) Bool.false_ne_true
  | bl i =>
    cases rx
    cases y with
    | non => cases ry; exact PySem.EqNone.ne_bool_none (fin_bl I q (by simp))
    | bl j => cases ry; exact ne_bool (fin_bl I q (congrArg not dec_bl))
    | str j => obtain ⟨t', rfl⟩ := ry; exact PySem.EqMixed.ne_bool_str (fin_bl I q (by simp))
    | _ => exact absurd (show false = true from hs) Bool.false_ne_true
  | int i =>
    obtain ⟨t, rfl⟩ := rx
    cases y with
    | non => cases ry; exact PySem.EqNone.ne_int_none (fin_bl I q (by simp))
    | int j => obtain ⟨t', rfl⟩ := ry; exact ne_int (fin_bl I q (congrArg not dec_int))
    | str j => obtain ⟨t', rfl⟩ := ry; exact PySem.EqMixed.ne_int_str (fin_bl I q (by simp))
    | _ => exact absurd (show false = true from hs) Bool.false_ne_true
  | str i =>
    obtain ⟨t, rfl⟩ := rx
    cases y with
    | non => cases ry; exact PySem.EqNone.ne_str_none (fin_bl I q (by simp))
    | bl j => cases ry; exact PySem.EqMixed.ne_str_bool (fin_bl I q (by simp))
    | int j => obtain ⟨t', rfl⟩ := ry; exact PySem.EqMixed.ne_str_int (fin_bl I q (by simp))
    | str j => obtain ⟨t', rfl⟩ := ry; exact ne_str (fin_bl I q (congrArg not dec_str))
    | _ => exact absurd (show false = true from hs) Bool.false_ne_true
  | byt i =>
    obtain ⟨t, rfl⟩ := rx
    cases y with
    | byt j => obtain ⟨t', rfl⟩ := ry; exact PySem.W.ne_bytes (fin_bl I q (congrArg not dec_byt))
    | _ => exact absurd (show false = true from hs) Bool.false_ne_true
  | _ => cases y <;> exact absurd (show false = true from hs) Bool.false_ne_true
theorem op_lt : OpR X (compareOp .Lt) (rI0 fun i j => .bl (decide (i < j))) := opB0 fun _ _ _ _ _ _ _ q => lt_int q
theorem op_le : OpR X (compareOp .LtE) (rI0 fun i j => .bl (decide (i ≤ j))) := opB0 fun _ _ _ _ _ _ _ q => le_int q
theorem op_gt : OpR X (compareOp .Gt) (rI0 fun i j => .bl (decide (j < i))) := opB0 fun _ _ _ _ _ _ _ q => gt_int q
theorem op_in_str : OpR X (compareOp .In) (fun x y H Q => ∃ i j, x = .str i ∧ y = .str j ∧ Q (.bl (!(Builtin.Str.occurrences j i 0 j.length 1).isEmpty)) H) := by
  intro pins s σ H x y v u Q I rx ry h
  obtain ⟨i, j, rfl, rfl, q⟩ := h
  obtain ⟨t, rfl⟩ := rx
  obtain ⟨t', rfl⟩ := ry
  exact in_str (fin_bl I q rfl)
theorem nomark (b : Expr) {op : CmpOp} (h : op ≠ .In := by decide) (h2 : op ≠ .NotIn := by decide) : behindInMarks op b = false := by
  have e1 : (op == CmpOp.In) = false := by cases op <;> first | rfl | exact absurd rfl h
  have e2 : (op == CmpOp.NotIn) = false := by cases op <;> first | rfl | exact absurd rfl h2
  cases b <;> simp [behindInMarks, e1, e2]
theorem pe_cmpR {op : CmpOp} {r : R2} (ho : OpR X (compareOp op) r) (ha : PE X a ta) (hb : PE X b tb) (hm : behindInMarks op b = false) : PE X (.Compare a [op] [b] pos) (tOp r ta tb) := by
  intro pins s σ H Q I h
  exact wpAny_Compare1 (binT ha hb I h fun v u s2 x y H2 I2 rx ry q => ho pins s2 σ H2 x y v u Q I2 rx ry q) hm
def tTest (t : TE) : TT := fun σ H Q => t σ H fun x H' => ∃ k, x = .bl k ∧ Q k H'
theorem pt_cmpR {op : CmpOp} {r : R2} (ho : OpR X (compareOp op) r) (ha : PE X a ta) (hb : PE X b tb) (hm : behindInMarks op b = false) : PT X (.Compare a [op] [b] pos) (tTest (tOp r ta tb)) := by
  intro pins s σ H Q I h
  refine wpAny_isTrue_Compare1 (thn (ha pins s σ H _ I h) fun v s1 ⟨x, H1, I1, r1, q1⟩ => thn (hb pins s1 σ H1 _ I1 q1) fun u s2 ⟨y, H2, I2, r2, q2⟩ =>
    thn (ho pins s2 σ H2 x y v u _ I2 r1 r2 q2) fun c s3 ⟨z, H3, I3, r3, k, e, q3⟩ => ?_) hm
  subst e
  cases r3
  exact wpAny_truthy_bool ⟨H3, I3, q3⟩
def tChain (r r' : R2) (ta tb tc : TE) : TE := fun σ H Q => ta σ H fun x H1 => tb σ H1 fun y H2 => r x y H2 fun z H3 => ∃ k, z = .bl k ∧
  (if k = true then tc σ H3 fun w' H4 => r' y w' H4 Q else Q (.bl false) H3)
theorem pe_chain {op op' : CmpOp} {r r' : R2} (ho : OpR X (compareOp op) r) (ho' : OpR X (compareOp op') r') (ha : PE X a ta) (hb : PE X b tb) (hc : PE X c tc)
    (hm : lastMarks [op, op'] [b, c] = false := by with_unfolding_all rfl) : PE X (.Compare a [op, op'] [b, c] pos) (tChain r r' ta tb tc) := by
  intro pins s σ H Q I h
  refine Compare_chain (thn (ha pins s σ H _ I h) fun v s1 ⟨x, H1, I1, r1, q1⟩ => chain_link (thn (hb pins s1 σ H1 _ I1 q1) fun u s2 ⟨y, H2, I2, r2, q2⟩ =>
    thn (ho pins s2 σ H2 x y v u _ I2 r1 r2 q2) fun d s3 ⟨z, H3, I3, r3, k, e, q3⟩ => ?_)) hm
  subst e
  cases r3
  refine wpAny_truthy_bool ?_
  cases k with
  | false => exact ite_ff ⟨.bl false, H3, I3, rfl, q3⟩
  | true => exact ite_tt (chain_last (thn (hc pins s3 σ H3 _ I3 q3) fun w' s4 ⟨z', H4, I4, r4, q4⟩ => ho' pins s4 σ H4 y z' u w' Q I4 r2 r4 q4))
def TruV (K : PySem.W.Frag) (x : V) (H : Hp) (k : Bool) : Prop :=
  match x with
  | .non => k = false
  | .bl b => k = b
  | .int i => k = (i != 0)
  | .str y => y.length ≤ sizeLine ∧ k = ((y.length : Int) != 0)
  | .byt y => y.size ≤ sizeLine ∧ k = ((y.size : Int) != 0)
  | .ref p => (∃ xs, SqL K H p xs ∧ k = !xs.isEmpty) ∨ (∃ xs, SqT K H p xs ∧ k = !xs.isEmpty) ∨ ∃ kvs, H p = some (.dK kvs) ∧ k = !kvs.isEmpty
  | _ => False
theorem isEmpty_kv {κ : Type} {kvs : List (κ × V)} {vs : List (κ × Value)} (r : KV kvs vs) : (!vs.isEmpty) = !kvs.isEmpty := by
  cases r <;> rfl
theorem isEmpty_of {xs : List V} {its : List Value} (r : Vals xs its) : (!its.toArray.isEmpty) = !xs.isEmpty := by
  cases r <;> simp
theorem line63 : (sizeLine : Nat) < 2 ^ 63 := by rw [sizeLine_eq]; decide
theorem tru_ok : TruR X (fun x H Q => ∃ k, TruV X.K x H k ∧ Q k H) := by
  intro pins s σ H x v Q I rx h
  obtain ⟨k, e, q⟩ := h
  have hl := line63
  have hs : sizeLine = 16777216 := sizeLine_eq
  cases x with
  | non =>
    cases rx
    have e' : k = false := e
    subst e'
    exact truthy_none ⟨H, I, q⟩
  | bl b =>
    cases rx
    have e' : k = b := e
    subst e'
    exact wpAny_truthy_bool ⟨H, I, q⟩
  | int i =>
    obtain ⟨t, rfl⟩ := rx
    have e' : k = (i != 0) := e
    subst e'
    exact PySem.P.truthy_int ⟨H, I, q⟩
  | str y =>
    obtain ⟨t, rfl⟩ := rx
    obtain ⟨hy, e'⟩ : y.length ≤ sizeLine ∧ k = ((y.length : Int) != 0) := e
    subst e'
    exact PySem.P.truthy_str (by omega) ⟨H, I.tok _, q⟩
  | byt y =>
    obtain ⟨t, rfl⟩ := rx
    obtain ⟨hy, e'⟩ : y.size ≤ sizeLine ∧ k = ((y.size : Int) != 0) := e
    subst e'
    exact PySem.W.truthy_bytes (by omega) ⟨H, I.tok _, q⟩
  | ref p =>
    cases rx
    have e' : (∃ xs, SqL X.K H p xs ∧ k = !xs.isEmpty) ∨ (∃ xs, SqT X.K H p xs ∧ k = !xs.isEmpty) ∨ ∃ kvs, H p = some (.dK kvs) ∧ k = !kvs.isEmpty := e
    rcases e' with ⟨xs, hx, e'⟩ | ⟨xs, hx, e'⟩ | ⟨kvs, hx, e'⟩
    · subst e'
      obtain ⟨its, r, pl, hz⟩ := I.list hx
      have hlen := r.length
      exact wpAny_truthy_list pl.isList (by simp only [List.size_toArray]; omega) ⟨H, I.tok _, by rw [isEmpty_of r]; exact q⟩
    · subst e'
      obtain ⟨its, r, pl, hz⟩ := I.tuple hx
      have hlen := r.length
      exact truthy_tuple pl (by simp only [List.size_toArray]; omega) ⟨H, I.tok _, by rw [isEmpty_of r]; exact q⟩
    · subst e'
      obtain ⟨hz, hS, vs, r, m⟩ : kvs.length ≤ sizeLine ∧ (p == sysModules) = false ∧ ∃ vs, KV kvs vs ∧ s.heap.DictOf (mixKind X.prog X.w) p vs := I.hok p _ hx
      have hlen : kvs.length = vs.length := Paired.length r
      exact wpAny_truthy_dict hS m (by omega) ⟨H, I.tok _, by rw [isEmpty_kv r]; exact q⟩
  | _ => exact (show False from e).elim
theorem pt_truth (ha : PE X a ta) (he : ∀ whole, isTrue a X.env whole = (do let v ← whole; standAt a.pos; holding [v] (truthy v))) :
    PT X a (fun σ H Q => ta σ H fun x H' => ∃ k, TruV X.K x H' k ∧ Q k H') := by
  intro pins s σ H Q I h
  refine isTrue_plain (thn (ha pins s σ H _ I h) fun v s1 hm0 => ?_) (he _)
  obtain ⟨x, H1, I1, r1, q1⟩ := hm0
  exact tru_ok pins s1 σ H1 x v Q I1 r1 q1
theorem op_add_str : OpR X (binaryOp .Add) (fun x y H Q => ∃ i j, x = .str i ∧ y = .str j ∧ i.length + j.length ≤ sizeLine ∧ Q (.str (i ++ j)) H) := by
  intro pins s σ H x y v u Q I rx ry h
  obtain ⟨i, j, rfl, rfl, hz, q⟩ := h
  obtain ⟨t, rfl⟩ := rx
  obtain ⟨t', rfl⟩ := ry
  exact add_str (fun t' tk => ⟨.str (i ++ j), H, I.tok _, ⟨_, rfl⟩, q⟩) hz
theorem vals1 {x : V} {us : List Value} (r : Vals [x] us) : ∃ u, us = [u] ∧ RelV x u := by
  cases r with
  | cons r1 r2 => cases r2; exact ⟨_, rfl, r1⟩
theorem vals2 {x y : V} {us : List Value} (r : Vals [x, y] us) : ∃ u w', us = [u, w'] ∧ RelV x u ∧ RelV y w' := by
  cases r with
  | cons r1 r2 =>
    cases r2 with
    | cons r3 r4 => cases r4; exact ⟨_, _, rfl, r1, r3⟩
theorem call_int1 : CallR X (.type "int") (fun xs H Q => (∃ i, xs = [.int i] ∧ Q (.int i) H) ∨ ∃ k, xs = [.bl k] ∧ Q (.int (if k then 1 else 0)) H) := by
  intro pins s σ H xs us Q I r h
  rcases h with ⟨i, rfl, q⟩ | ⟨k, rfl, q⟩
  · obtain ⟨u, rfl, t, rfl⟩ := vals1 r
    exact call_int_int ⟨.int i, H, I, ⟨_, rfl⟩, q⟩
  · obtain ⟨u, rfl, r1⟩ := vals1 r
    cases r1
    exact call_int_bool ⟨.int (if k then 1 else 0), H, I.tok _, ⟨_, rfl⟩, q⟩
theorem call_str_int : CallR X (.type "str") (fun xs H Q => ∃ i, xs = [.int i] ∧ i.natAbs.log2 < 1920 ∧ Q (.str (toString i)) H) := by
  intro pins s σ H xs us Q I r h
  obtain ⟨i, rfl, hz, q⟩ := h
  obtain ⟨u, rfl, t, rfl⟩ := vals1 r
  exact PySem.P.str_of_int hz ⟨.str _, H, I.tok _, ⟨_, rfl⟩, q⟩
end
end L2
namespace L2
open PySem PySem.Spec PyProof.Rows
structure ObjM (h : Heap) (x dx C : Addr) (mA : Str → Option Value) : Prop where
  obj : h.get? x = some (PySem.W.instObj C dx)
  ns : h.Ns1 dx mA
  ne : dx ≠ x
theorem lookIn_ns {h : Heap} {dx : Addr} {mA : Str → Option Value} (n : h.Ns1 dx mA) : ∃ od, h.get? dx = some od ∧ ∀ name, PySem.W.lookIn name od = some (mA name) := by
  obtain ⟨o, es, ep, ho, hd, hk, _, hm⟩ := n
  refine ⟨o, ho, fun name => ?_⟩
  have e := hm name
  unfold nsFind findBy at e
  rw [← Array.find?_toList] at e
  unfold PySem.W.lookIn
  rw [hd]
  dsimp only
  split
  · rename_i y q
    rw [q] at e
    exact congrArg some e
  · rename_i q
    rw [q] at e
    have a : es.toList.any (·.refKey) = false := by
      rw [List.any_eq_false]
      intro y hy
      obtain ⟨z, t, hkey⟩ := hk y (Array.mem_toList_iff.mp hy)
      simp [DictEntry.refKey, hkey]
    have a' : ¬ es.toList.any (·.refKey) = true := by rw [a]; exact Bool.false_ne_true
    rw [if_neg a']
    exact congrArg some e
theorem ObjM.look {h : Heap} {x dx C : Addr} {mA : Str → Option Value} (I : ObjM h x dx C mA) : ∃ od, PySem.W.InstAt h x (PySem.W.instObj C dx) C (some od) ∧ ∀ name, PySem.W.lookIn name od = some (mA name) :=
  let ⟨od, ho, hl⟩ := lookIn_ns I.ns
  ⟨od, ⟨I.obj, rfl, rfl, ho⟩, hl⟩
section
variable {prog : Program} {w : World} {A : Around} {E : Value → Shared → Prop} {s : Shared} {K : PySem.W.Frag} {x dx C f : Addr} {mA : Str → Option Value} {name : Str} {v : Value}
end
theorem RelO.some_of {v : V} {o : Option Value} (r : RelO (some v) o) : ∃ u, o = some u ∧ RelV v u := by
  cases o with
  | none => exact (show False from r).elim
  | some u => exact ⟨u, rfl, r⟩
section
variable {P : Program} {w : World} {H H' : Hp} {h h' : Heap} {a C dx : Addr} {fs fs' : List (Str × V)}
theorem ins_get (hok : HOk P w H h) (e : H a = some (.ins C dx fs)) : ∃ mA, ObjM h a dx C mA ∧ (∀ f, RelO (fs.lookup f) (mA f)) ∧ PySem.Within mA (fs.map (·.1)) ∧ fs.length ≤ 1000 ∧ H dx = some (.own a) := by
  obtain ⟨d, z, ne, ob, mA, n, r, q⟩ := (show ObjOk P w H h a (.ins C dx fs) from hok a _ e)
  exact ⟨mA, ⟨ob, n, ne⟩, r, q, z, d⟩
end
structure Cls (K : PySem.W.Frag) (C : Addr) : Prop where
  pg : PySem.W.plainGet K C Str.empty = true
  hd : PySem.W.hasDictIn K C = true
  po : PySem.W.plainOver K C = true
  sa : PySem.W.findIn K (.ref C) "__setattr__" = some (some (.builtin "object.__setattr__"))
theorem Cls.get {K : PySem.W.Frag} {C : Addr} (c : Cls K C) (f : Str) : PySem.W.plainGet K C f = true := c.pg
section
variable {X : Cx} {pins : List (Addr × Obj)} {σ : St} {H : Hp} {s : Shared} {a C dx : Addr} {fs : List (Str × V)} {f : Str} {v : V} {A : Around} {E : Value → Shared → Prop}
end
section
variable {X : Cx} {o e value : Expr} {f : Str} {pos pos' tpos : Pos} {ta tv : TE}
end
section
variable {X : Cx} {pins : List (Addr × Obj)} {σ : St} {H : Hp} {s : Shared} {A : Around} {E : Value → Shared → Prop} {Q : Value → Shared → Prop} {c : Value} {b : Bool}
inductive TyOf (K : PySem.W.Frag) (H : Hp) : V → Value → Prop where
  | non : TyOf K H .non (.type "NoneType")
  | bl (x : Bool) : TyOf K H (.bl x) (.type "bool")
  | int (i : Int) : TyOf K H (.int i) (.type "int")
  | str (x : Str) : TyOf K H (.str x) (.type "str")
  | flt (x : UInt64) : TyOf K H (.flt x) (.type "float")
  | lst {a : Addr} {xs : List V} (e : H a = some (.lst xs)) : TyOf K H (.ref a) (.type "list")
  | frz {a : Addr} {o : Obj} {xs : List V} (e : H a = some (.frz o (.lst xs))) : TyOf K H (.ref a) (.type "list")
  | tup {a : Addr} {xs : List V} (e : H a = some (.tup xs)) : TyOf K H (.ref a) (.type "tuple")
  | dK {a : Addr} {kvs : List (Key × V)} (e : H a = some (.dK kvs)) : TyOf K H (.ref a) (.type "dict")
  | dT {a : Addr} {kvs : List (List Key × V)} (e : H a = some (.dT kvs)) : TyOf K H (.ref a) (.type "dict")
  | ins {a C dx : Addr} {fs : List (Str × V)} (e : H a = some (.ins C dx fs)) (cl : Cls K C) (ha : PySem.W.findIn K (.ref C) "__class__" = some (some (.builtin "object.__class__")))
      (hn : PySem.W.specialIn K (.builtin "object.__class__") "__get__" = some (some (.builtin "getset_descriptor.__get__"))) (htk : PySem.W.takesIn K (.builtin "object.__class__") = some true)
      (hm : PySem.W.mroIn K C (.type "object") = some true) : TyOf K H (.ref a) (.ref C)
theorem isinst_ok {x : V} {u t : Value} (I : Inv X pins σ H s) (rx : RelV x u) (ty : TyOf X.K H x t) (e : PySem.W.kitOne X.K t c = some b) (h : ∀ tk, Q (.bool b) { s with toks := tk }) :
    wpAny (model X.prog X.w) A (call (.builtin "isinstance") [u, c]) Q E s := by
  cases ty with
  | non => cases (show u = Value.none from rx); exact PySem.W.kia_one PySem.W.kitx_none I.kIn True.intro e (fun z => nomatch z) h
  | bl y => cases (show u = Value.bool y from rx); exact PySem.W.kia_one PySem.W.kitx_bool I.kIn True.intro e (fun z => nomatch z) h
  | int i => obtain ⟨t, q⟩ := (show ∃ t, u = Value.int i t from rx); cases q; exact PySem.W.kia_one PySem.W.kitx_int I.kIn True.intro e (fun z => nomatch z) h
  | str y => obtain ⟨t, q⟩ := (show ∃ t, u = Value.str y t from rx); cases q; exact PySem.W.kia_one PySem.W.kitx_str I.kIn True.intro e (fun z => nomatch z) h
  | flt y => obtain ⟨t, q⟩ := (show ∃ t, u = Value.float y t from rx); cases q; exact PySem.W.kia_one PySem.W.kitx_float I.kIn True.intro e (fun z => nomatch z) h
  | @lst a xs ea =>
    cases (show u = Value.ref a from rx)
    obtain ⟨_, _, n, _, h1⟩ := (show ObjOk X.prog X.w H s.heap a (.lst xs) from I.hok a _ ea)
    exact PySem.W.kia_one PySem.W.kitx_list I.kIn ⟨_, h1, rfl⟩ e (fun z => nomatch z) h
  | @frz a ob xs ea =>
    cases (show u = Value.ref a from rx)
    obtain ⟨_, _, _, n, _, h1⟩ := (show ObjOk X.prog X.w H s.heap a (.frz ob (.lst xs)) from I.hok a _ ea)
    exact PySem.W.kia_one PySem.W.kitx_list I.kIn ⟨_, h1, rfl⟩ e (fun z => nomatch z) h
  | @tup a xs ea =>
    cases (show u = Value.ref a from rx)
    obtain ⟨_, _, _, p⟩ := (show ObjOk X.prog X.w H s.heap a (.tup xs) from I.hok a _ ea)
    obtain ⟨o, h1, h2, _⟩ := p
    exact PySem.W.kia_one PySem.W.kitx_tuple I.kIn ⟨o, h1, h2⟩ e (fun z => nomatch z) h
  | @dK a kvs ea =>
    cases (show u = Value.ref a from rx)
    obtain ⟨_, _, vs, _, p⟩ := (show ObjOk X.prog X.w H s.heap a (.dK kvs) from I.hok a _ ea)
    obtain ⟨o, es, ep, h1, h2, _⟩ := p
    exact PySem.W.kia_one PySem.W.kitx_dict I.kIn ⟨o, h1, h2.1⟩ e (fun z => nomatch z) h
  | @dT a kvs ea =>
    cases (show u = Value.ref a from rx)
    obtain ⟨_, _, xs, _, o, es, ep, h1, h2, _⟩ := (show ObjOk X.prog X.w H s.heap a (.dT kvs) from I.hok a _ ea)
    exact PySem.W.kia_one PySem.W.kitx_dict I.kIn ⟨o, h1, h2.1⟩ e (fun z => nomatch z) h
  | @ins a C dx fs ea cl ha hn htk hm =>
    cases (show u = Value.ref a from rx)
    obtain ⟨mA, O, _⟩ := ins_get I.hok ea
    obtain ⟨od, J, _⟩ := O.look
    exact PySem.W.kia_one (PySem.W.kitx_own (cl.get _) cl.hd ha hn htk hm) I.kIn J e (fun z => nomatch z) h
end
end L2
namespace L2
open PySem PySem.Spec PyProof.Rows
structure Room (k : Nat) (A : Around) : Prop where
  hd : A.handled = none
  dp : A.depth + 3 * k + 5 < recursionLimit
  un : A.units + 16 * k + 200 < cLine
theorem Room.mono {j k : Nat} {A : Around} (r : Room k A) (h : j ≤ k) : Room j A := ⟨r.hd, by have := r.dp; omega, by have := r.un; omega⟩
theorem Room.deeper {k : Nat} {A : Around} (r : Room (k + 1) A) (env : Env) : Room k (A.deeper env) :=
  ⟨r.hd, by have := r.dp; show A.depth + 1 + 3 * k + 5 < _; omega, by have := r.un; show A.units + 3 + 16 * k + 200 < _; omega⟩
theorem Room.depth {k : Nat} {A : Around} (r : Room k A) : A.depth < recursionLimit := by have := r.dp; omega
theorem Room.units {k : Nat} {A : Around} (r : Room k A) : A.units + 64 < cLine := by have := r.un; omega
def tNil : TA := fun _ H Q => Q [] H
def tCons (ta : TE) (tr : TA) : TA := fun σ H Q => ta σ H fun x H1 => tr σ H1 fun xs H2 => Q (x :: xs) H2
section
variable {X : Cx} {e : Expr} {es : List Expr} {te : TE} {t : TA} {pos : Pos}
theorem pa_nil : PA X [] tNil := fun _ _ _ _ H Q I h => Calls.spliced_nil ⟨[], H, I, .nil, h⟩
theorem pa_cons (ha : PE X e te) (hr : PA X es t) (hs : starEach (e :: es) X.env = (false, eval e X.env) :: starEach es X.env := by rfl) : PA X (e :: es) (tCons te t) := by
  intro pos pins s σ H Q I h
  rw [hs]
  show wpAny _ _ (spliced ((false, eval e X.env) :: backTo pos (starEach es X.env))) _ _ s
  refine Calls.spliced_cons (thn (ha pins s σ H _ I h) fun u s1 hm0 => ?_)
  obtain ⟨x, H1, I1, r1, q1⟩ := hm0
  refine thn (hr pos pins s1 σ H1 _ I1 q1) fun us s2 hm0 => ?_
  obtain ⟨xs, H2, I2, r2, q2⟩ := hm0
  exact ⟨x :: xs, H2, I2, .cons r1 r2, q2⟩
def tTup (t : TA) : TE := fun σ H Q => t σ H fun xs H1 => xs.length ≤ sizeLine ∧ ∀ p, H1 p = none → Q (.ref p) (upd H1 p (.tup xs))
def tLst (t : TA) : TE := fun σ H Q => t σ H fun xs H1 => xs.length ≤ sizeLine ∧ ∀ p, H1 p = none → Q (.ref p) (upd H1 p (.lst xs))
theorem pe_tup {x1} (h : PA X es t) : PE X (.Tuple es x1 pos) (tTup t) := by
  intro pins s σ H Q I hq
  refine wpAny_Tuple_spliced (thn (h pos pins s σ H _ I hq) fun us s1 hm0 => ?_)
  obtain ⟨xs, H1, I1, r, z, q⟩ := hm0
  refine ⟨by rw [← r.length]; exact z, ?_⟩
  have hf : H1 s1.heap.objs.size = none := I1.hok.fresh (Nat.le_refl _)
  refine ⟨.ref s1.heap.objs.size, upd H1 s1.heap.objs.size (.tup xs), I1.laid (t' := s1.toks) (fun b u e => Heap.get?_push_of_some _ e) (Nat.le_refl _) ?_, rfl, q _ hf⟩
  exact ⟨z, us, r, ⟨_, Heap.get?_push_size _ rfl, rfl, _, rfl⟩⟩
theorem pe_lst (h : PA X es t) : PE X (.List es pos) (tLst t) := by
  intro pins s σ H Q I hq
  refine wpAny_List_spliced (thn (h pos pins s σ H _ I hq) fun us s1 hm0 => ?_)
  obtain ⟨xs, H1, I1, r, z, q⟩ := hm0
  refine ⟨by rw [← r.length]; exact z, ?_⟩
  have hf : H1 s1.heap.objs.size = none := I1.hok.fresh (Nat.le_refl _)
  refine ⟨.ref s1.heap.objs.size, upd H1 s1.heap.objs.size (.lst xs), I1.laid (t' := s1.toks) (fun b u e => Heap.get?_push_of_some _ e) (Nat.le_refl _) ?_, rfl, q _ hf⟩
  exact ⟨z, us, 0, r, Heap.get?_push_size _ rfl⟩
end
abbrev Sp := List V → Hp → VK → XK → Prop
abbrev CXT := List Env → Hp → Shared → XK → Value → Shared → Prop
structure Env0 (P : Program) (w : World) (K : PySem.W.Frag) (mg : Str → Option Value) (base : Heap) (A : Around) (outer : List Env) (s : Shared) (H : Hp) : Prop where
  frames : A.frames = some outer
  mod : Mod K mg base
  bs : ∀ b o, base.get? b = some o → s.heap.get? b = some o ∧ H b = none
  bsz : base.objs.size ≤ s.heap.objs.size
  funs : s.heap.FunFrames base outer
  frf : ∀ b ∈ frs outer, H b = none
  hok : HOk P w H s.heap
  bare : AllBare s.gens
def CE (outer : List Env) (P : Program) (w : World) (H : Hp) (s : Shared) (Q : VK) (u : Value) (s' : Shared) : Prop :=
  ∃ v H', s'.os = s.os ∧ AllBare s'.gens ∧ Un (frs outer) [] H H' s.heap s'.heap ∧ HOk P w H' s'.heap ∧ RelV v u ∧ Q v H'
def CR (CX : CXT) (outer : List Env) (P : Program) (w : World) (H : Hp) (s : Shared) (Q : VK) (E : XK) (r : Result) (s' : Shared) : Prop :=
  match r with
  | .ok (.ret u) => CE outer P w H s Q u s'
  | .ok _ => False
  | .error e => CX outer H s E e s'
structure FnOk (P : Program) (w : World) (K : PySem.W.Frag) (mg : Str → Option Value) (base : Heap) (CX : CXT) (k : Nat) (f : Addr) (fd : FuncData) (ps : List Str) (sp : Sp) : Prop where
  len : ∀ vs H Q E, sp vs H Q E → vs.length = ps.length
  run : ∀ (A : Around) (outer : List Env) (s : Shared) (H : Hp) (args : Args) (us : List Value) (vs : List V) (Q : VK) (E : XK), Room k A → Env0 P w K mg base A outer s H → BindsTo s fd args (ps.zip us) → Vals vs us → sp vs H Q E →
    codeAny (model P w) A (.call (.ref f) args) (CR CX outer P w H s Q E) s
section
variable {X : Cx} {pins : List (Addr × Obj)} {σ : St} {H : Hp} {s s' : Shared}
theorem Inv.env0 (I : Inv X pins σ H s) : Env0 X.prog X.w X.K X.mg X.base X.A X.stack s H :=
  ⟨I.ok.frames, I.ok.mod, I.bs, Nat.le_trans I.ok.bsz I.sz, I.stack, I.stkFree, I.hok, I.bare⟩
theorem Inv.after {Q : VK} {u : Value} (I : Inv X pins σ H s) (h : CE X.stack X.prog X.w H s Q u s') : EP X pins σ Q u s' := by
  obtain ⟨v, H', os, bare, un, hok, r, q⟩ := h
  obtain ⟨hh, g, d, t, os'⟩ := s'
  obtain rfl : os' = s.os := os
  exact ⟨v, H', I.call (h' := hh) (g' := g) (d' := d) (t' := t) (ch := []) un hok bare (fun b z => absurd z (by simp)), r, q⟩
end
def tCall (sp : Sp) (dvs : List V) (E : XK) (t : TA) : TE := fun σ H Q => t σ H fun vs H1 => sp (vs ++ dvs) H1 Q E
def Binds (K : PySem.W.Frag) (fd : FuncData) (ps : List Str) (ds : List Value) : Prop :=
  ∀ (s : Shared) (us : List Value), K.In s.heap → (us ++ ds).length = ps.length → BindsTo s fd ⟨us, []⟩ (ps.zip (us ++ ds))
theorem Binds.all {K : PySem.W.Frag} {fd : FuncData} {ps : List Str} (h : ∀ us : List Value, us.length = ps.length → bindArgs fd ⟨us, []⟩ = pure (ps.zip us)) : Binds K fd ps [] := fun s us _ hl => by
  rw [List.append_nil] at hl ⊢
  exact .of_eq (h us hl)
def Passes (CX : CXT) (X : Cx) (E : XK) : Prop := ∀ (pins : List (Addr × Obj)) (σ : St) (H : Hp) (s : Shared) (e : Value) (s' : Shared), Inv X pins σ H s → CX X.stack H s E e s' → X.xe e s'
section
variable {X : Cx} {CX : CXT} {k : Nat} {f C : Addr} {fd : FuncData} {ps : List Str} {sp : Sp} {dvs : List V} {ds : List Value} {E : XK} {x m : Str} {p pos apos : Pos} {e o : Expr} {es : List Expr} {ta : TE} {t : TA}
theorem run_fn {pins : List (Addr × Obj)} {σ : St} {H : Hp} {s : Shared} {Q : VK} {us : List Value} {vs : List V} (F : FnOk X.prog X.w X.K X.mg X.base CX k f fd ps sp) (hr : Room k X.A) (hb : Binds X.K fd ps ds) (hd : Vals dvs ds) (hx : Passes CX X E)
    (I : Inv X pins σ H s) (r : Vals vs us) (h : sp (vs ++ dvs) H Q E) : wpAny (model X.prog X.w) X.A (call (.ref f) us) (EP X pins σ Q) X.xe s := by
  have r2 : Vals (vs ++ dvs) (us ++ ds) := r.append hd
  have hl : (us ++ ds).length = ps.length := by rw [← r2.length]; exact F.len _ _ _ _ h
  refine wpAny_call (codeAny_mono (F.run X.A X.stack s H ⟨us, []⟩ (us ++ ds) (vs ++ dvs) Q E hr I.env0 (hb s us I.kIn hl) r2 h) fun r s' hq => ?_)
  cases r with
  | error e => exact hx pins σ H s e s' I hq
  | ok fl =>
    cases fl with
    | ret u => exact I.after hq
    | next => exact False.elim hq
    | brk => exact False.elim hq
    | cont => exact False.elim hq
theorem pe_call (F : FnOk X.prog X.w X.K X.mg X.base CX k f fd ps sp) (hr : Room k X.A) (hg : Gl X x) (hm : X.mg x = some (.ref f)) (hk : PySem.W.keepIn X.K (.ref f) = true) (hb : Binds X.K fd ps ds) (hd : Vals dvs ds) (hx : Passes CX X E)
    (ha : PA X (e :: es) t) (hdb : (x == ("__debug__" : Str)) = false := by decide) (he : starEach (e :: es) X.env = (false, eval e X.env) :: starEach es X.env := by rfl) (hpl : (backTo pos (starEach es X.env)).any (·.1) = false := by rfl) :
    PE X (.Call (.Name x p) (e :: es) [] pos) (tCall sp dvs E t) := by
  intro pins s σ H Q I h
  refine wpAny_Call_Name_kw (ld_glob I hg hm ?_ hdb)
  refine PySem.W.callWith_K (h₀ := X.base) I.ok.mod.kin hk (thn (ha pos pins s σ H _ I h) fun us s1 hm0 => ?_) he hpl
  obtain ⟨vs, H1, I1, r, q⟩ := hm0
  refine ⟨I1.kIn, ?_⟩
  exact run_fn F hr hb hd hx I1 r q
end
section
variable {X : Cx} {CX : CXT} {k : Nat} {f C : Addr} {fd : FuncData} {ps ks : List Str} {sp : Sp} {E : XK} {x m : Str} {p pos apos kpos : Pos} {e o : Expr} {es : List Expr} {kws : List Keyword} {te ta : TE} {t tk : TA} {nm : Option Str}
variable {g : List Value → List Value → List Value} {gV : List V → List V → List V}
end
structure FnScope (N P : List Str) (sc : Scope) : Prop where
  kind : sc.kind = .function
  co : sc.isCoroutine = false
  gen : sc.isGenerator = false
  nd : N.Nodup
  pre : N.take P.length = P
  par : ∀ x ∈ P, sc.names.lookup x = some .local ∨ sc.names.lookup x = some .cell
  nofree : ∀ y ∈ sc.names, y.2 ≠ .free
theorem bindL_out {kindOf : Str → Option NameKind} {x : Str} : ∀ {binds : List (Str × Value)} {m : Str → Option Value}, (∀ v, (x, v) ∉ binds) → bindL kindOf binds m x = m x
  | [], _, _ => rfl
  | (n, v) :: r, m, h => by
    unfold bindL
    rw [bindL_out fun w hw => h w (List.mem_cons_of_mem _ hw)]
    split
    · have : x ≠ n := by rintro rfl; exact h v List.mem_cons_self
      simp [this]
    · rfl
theorem bindC_out {kindOf : Str → Option NameKind} {x : Str} : ∀ {binds : List (Str × Value)} {m : Str → Option Value}, (∀ v, (x, v) ∉ binds) → bindC kindOf binds m x = m x
  | [], _, _ => rfl
  | (n, v) :: r, m, h => by
    unfold bindC
    rw [bindC_out fun w hw => h w (List.mem_cons_of_mem _ hw)]
    split
    · rfl
    · have : x ≠ n := by rintro rfl; exact h v List.mem_cons_self
      simp [this]
theorem bindL_get {kindOf : Str → Option NameKind} {x : Str} {v : Value} : ∀ {P : List Str} {vs : List Value} {i : Nat} {m : Str → Option Value}, P.Nodup → P[i]? = some x → vs[i]? = some v → kindOf x = some .local →
    bindL kindOf (P.zip vs) m x = some v
  | [], _, _, _, _, h, _, _ => by simp at h
  | _ :: _, [], _, _, _, _, h, _ => by simp at h
  | p :: P, w :: vs, 0, m, nd, h1, h2, hk => by
    simp at h1 h2; subst h1; subst h2
    show bindL kindOf ((p, w) :: P.zip vs) m p = _
    unfold bindL
    rw [bindL_out fun v hv => (List.nodup_cons.mp nd).1 (List.of_mem_zip hv).1, if_pos hk]
    simp
  | p :: P, w :: vs, i + 1, m, nd, h1, h2, hk => by
    show bindL kindOf ((p, w) :: P.zip vs) m x = _
    unfold bindL
    exact bindL_get (i := i) (List.nodup_cons.mp nd).2 (by simpa using h1) (by simpa using h2) hk
theorem bindC_get {kindOf : Str → Option NameKind} {x : Str} {v : Value} : ∀ {P : List Str} {vs : List Value} {i : Nat} {m : Str → Option Value}, P.Nodup → P[i]? = some x → vs[i]? = some v → kindOf x ≠ some .local →
    bindC kindOf (P.zip vs) m x = some v
  | [], _, _, _, _, h, _, _ => by simp at h
  | _ :: _, [], _, _, _, _, h, _ => by simp at h
  | p :: P, w :: vs, 0, m, nd, h1, h2, hk => by
    simp at h1 h2; subst h1; subst h2
    show bindC kindOf ((p, w) :: P.zip vs) m p = _
    unfold bindC
    rw [bindC_out fun v hv => (List.nodup_cons.mp nd).1 (List.of_mem_zip hv).1, if_neg hk]
    simp
  | p :: P, w :: vs, i + 1, m, nd, h1, h2, hk => by
    show bindC kindOf ((p, w) :: P.zip vs) m x = _
    unfold bindC
    exact bindC_get (i := i) (List.nodup_cons.mp nd).2 (by simpa using h1) (by simpa using h2) hk
def start (N : List Str) (vs : List V) : St := vs.map some ++ List.replicate (N.length - vs.length) none
def cxOf (CX : CXT) (P : Program) (w : World) (K : PySem.W.Frag) (mg : Str → Option Value) (base : Heap) (N : List Str) (qual : Str) (scope : Scope) (f : Addr) (cd : Value) (A : Around) (outer : List Env) (s : Shared) (H : Hp) (E : XK) : Cx where
  prog := P
  w := w
  K := K
  mg := mg
  base := base
  A := A.deeper (envOfC qual scope s.heap.objs.size f cd)
  N := N
  s₀ := s
  H₀ := H
  env := envOfC qual scope s.heap.objs.size f cd
  outer := outer
  stack := envOfC qual scope s.heap.objs.size f cd :: outer
  ex := []
  calm := true
  fn := fun _ => true
  pn := []
  xe := fun e s' => wpAny (model P w) (A.deeper (envOfC qual scope s.heap.objs.size f cd)) (leaving (envOfC qual scope s.heap.objs.size f cd) e) (fun _ s'' => CX outer H s E e s'') (fun e' s'' => CX outer H s E e' s'') s'
theorem cell_has {sc : Scope} {n : Nat} {x : Str} (h : sc.names.lookup x = some .cell) : ∃ c, (cellsFrom n sc.names []).lookup x = some c := by
  have q := PySem.W.cellsFrom_some sc.names n [] (.inl h)
  exact Option.isSome_iff_exists.mp q
theorem inv_start {CX : CXT} {P : Program} {w : World} {K : PySem.W.Frag} {mg : Str → Option Value} {base : Heap} {N ps : List Str} {qual : Str} {scope : Scope} {f : Addr} {cd : Value} {A : Around} {outer : List Env} {s s1 : Shared} {H : Hp} {E : XK} {us : List Value} {vs : List V}
    (S : FnScope N ps scope) (hd : A.handled = none) (e0 : Env0 P w K mg base A outer s H) (hl : vs.length = ps.length) (r : Vals vs us)
    (x : InCallC s s.heap.objs.size (bindL (envOfC qual scope s.heap.objs.size f cd).kindOf (ps.zip us) fun _ => none) (cellsFrom (s.heap.objs.size + 1) scope.names []) (bindC (envOfC qual scope s.heap.objs.size f cd).kindOf (ps.zip us) fun _ => none) s1) :
    Inv (cxOf CX P w K mg base N qual scope f cd A outer s H E) [] (start N vs) H s1 := by
  have hpl : ps.length ≤ N.length := by have := congrArg List.length S.pre; rw [List.length_take] at this; omega
  obtain ⟨h1, tk, rfl, hk⟩ := x.done
  have noA : ∀ b : Addr, b ∉ (cxOf CX P w K mg base N qual scope f cd A outer s H E).ex := fun b z => absurd (show b ∈ ([] : List Addr) from z) (by simp)
  refine ⟨⟨e0.mod, S.kind, rfl, rfl, Nat.le_refl _, fun y z c h1 h2 => ?_, fun y hy => ?_, fun y c _ h => ?_, fun _ => hd, Around.frames_deeper e0.frames, .inr ⟨rfl, rfl⟩, fun b z => absurd z (noA b), e0.bs, e0.bsz, fun b _ _ => noA b, fun b z => absurd z (noA b), e0.funs, e0.frf⟩,
    rfl, e0.bare, Un.kept hk, ⟨_, x.toInCall.ns, fun i y v h1 h2 h3 => ?_⟩, fun y c h => ⟨_, x.cell y c h⟩, e0.hok.fresh (Nat.le_refl _), fun y c h => ?_, fun p hp => absurd (show p ∈ ([] : List (Addr × Obj)) from hp) (by simp), e0.hok.kept hk, ?_⟩
  · exact name_of_addr x.apart (PySem.mem_of_lookup h1) (PySem.mem_of_lookup h2)
  · have hy : scope.names.lookup y = some .cell ∨ scope.names.lookup y = some .free := hy
    rcases hy with hy | hy
    · exact cell_has hy
    · exact absurd rfl (S.nofree _ (PySem.mem_of_lookup hy))
  · exact Nat.le_of_lt (x.above y c (PySem.mem_of_lookup h))
  · have hi : i < vs.length := by
      unfold start at h2
      by_cases hi : i < vs.length
      · exact hi
      · rw [List.getElem?_append_right (by simpa using hi)] at h2
        rw [List.getElem?_replicate] at h2
        split at h2 <;> cases h2
    have ha : vs[i]? = some v := by
      unfold start at h2
      rw [List.getElem?_append_left (by simpa using hi), List.getElem?_map] at h2
      cases e : vs[i]? with
      | none => rw [e] at h2; cases h2
      | some a => rw [e] at h2; cases h2; rfl
    obtain ⟨u, hu, rv⟩ := r.get ha
    have hp : ps[i]? = some y := by
      rw [← S.pre, List.getElem?_take_of_lt (by omega)]; exact h1
    have ndP : ps.Nodup := by rw [← S.pre]; exact S.nd.sublist (List.take_sublist _ _)
    refine ⟨u, rv, ?_⟩
    rcases S.par y (List.mem_of_getElem? hp) with k | k
    · exact .inl ⟨k, bindL_get ndP hp hu k⟩
    · obtain ⟨c, e⟩ := cell_has (n := s.heap.objs.size + 1) k
      refine .inr ⟨.inl k, c, e, ?_⟩
      have q := x.cell y c e
      rw [bindC_get ndP hp hu (by show scope.names.lookup y ≠ _; rw [k]; decide)] at q
      exact q
  · exact e0.hok.fresh (Nat.le_of_lt (x.above y c (PySem.mem_of_lookup h)))
  · unfold start
    show _ = N.length
    rw [List.length_append, List.length_map, List.length_replicate]
    omega
theorem fn_of {CX : CXT} {P : Program} {w : World} {K : PySem.W.Frag} {mg : Str → Option Value} {base : Heap} {k : Nat} {f : Addr} {name qual : Str} {params : Arguments} {body : List Stmt} {scope : Scope} {dV kV doc pm cdv ct oc : Value} {an od : Option Addr}
    {osl : Array (Option Value)} {N ps : List Str} {sp : Sp} (lk : K.lookup f = some ⟨oc, od, .func (PySem.W.fnOf name qual params body scope dV kV doc pm an cdv ct), osl⟩) (hcd : PySem.W.codeIn K cdv qual = true) (S : FnScope N ps scope)
    (len : ∀ vs H Q E, sp vs H Q E → vs.length = ps.length)
    (hbody : ∀ (A : Around) (outer : List Env) (s : Shared) (H : Hp) (vs : List V) (Q : VK) (E : XK), Room k (A.deeper (envOfC qual scope s.heap.objs.size f cdv)) → sp vs H Q E →
      ∃ t, PSs (cxOf CX P w K mg base N qual scope f cdv A outer s H E) body t ∧ t { nx := fun _ H' => Q .non H', rt := Q } (start N vs) H) :
    FnOk P w K mg base CX (k + 1) f (PySem.W.fnOf name qual params body scope dV kV doc pm an cdv ct) ps sp := by
  refine ⟨len, fun A outer s H args us vs Q E hr e0 hb r hsp => ?_⟩
  have hl := len _ _ _ _ hsp
  have KX : K.In s.heap := e0.mod.kin.keeps fun b o e => (e0.bs b o e).1
  have lim : s.heap.NoLimit := e0.mod.nolimit.keeps fun b o e => (e0.bs b o e).1
  have hkind : ∀ y ∈ ps.zip us, scope.names.lookup y.1 = some .local ∨ (scope.names.lookup y.1 = some .cell ∧ ((cellsFrom (s.heap.objs.size + 1) scope.names []).lookup y.1).isSome = true) := fun ⟨n, v⟩ hy => by
    rcases S.par n (List.of_mem_zip hy).1 with q | q
    · exact .inl q
    · exact .inr ⟨q, PySem.W.cellsFrom_some _ _ _ (.inl q)⟩
  refine codeAny_call_function hr.depth (KX _ _ lk) rfl S.co S.gen rfl (PySem.W.codeRec_of KX hcd) (hb _ _ _ _ ?_)
  refine wpAny_newFunctionEnv_cells S.kind hkind fun env he s1 x => ?_
  subst he
  refine ⟨lim.keeps x.toInCall.keep, codeAny_func ?_⟩
  obtain ⟨t, ht, hq⟩ := hbody A outer s H vs Q E (hr.deeper _) hsp
  have I : Inv (cxOf CX P w K mg base N qual scope f cdv A outer s H E) [] (start N vs) H s1 := inv_start S hr.hd e0 hl r x
  refine wpAny_mono (ht [] s1 (start N vs) H _ I hq) (fun fl s' hs => ?_) fun e s' hs => hs
  have fin : ∀ {σ' : St} {H' : Hp} {v : V} {u : Value}, Inv (cxOf CX P w K mg base N qual scope f cdv A outer s H E) [] σ' H' s' → RelV v u → Q v H' → CE outer P w H s Q u s' :=
    fun {σ' H' v u} J rv q => ⟨v, H', J.os, J.bare, J.base, J.hok, rv, q⟩
  cases fl with
  | ret u =>
    obtain ⟨v, σ', H', J, rv, q⟩ := hs
    exact fin J rv q
  | next =>
    obtain ⟨σ', H', J, q⟩ := hs
    exact fin (v := V.non) (u := Value.none) J rfl q
  | brk =>
    obtain ⟨_, _, _, q⟩ := hs
    exact False.elim q
  | cont =>
    obtain ⟨_, _, _, q⟩ := hs
    exact False.elim q
end L2
namespace L2
open PySem PySem.Spec PyProof.Rows
section
variable {X : Cx} {x : Str} {p pos : Pos} {e : Expr} {es : List Expr} {t : TA} {id T : String} {r : List V → Hp → VK → Prop}
def tCB (r : List V → Hp → VK → Prop) (t : TA) : TE := fun σ H Q => t σ H fun vs H1 => r vs H1 Q
theorem pe_callB (hc : CallR X (.builtin id) r) (hg : Gl X x) (hm : X.mg x = none) (hv : bootBuiltins x = some (.builtin id)) (ha : PA X (e :: es) t) (hn : x ≠ "__name__" := by decide) (hdb : (x == ("__debug__" : Str)) = false := by decide)
    (he : starEach (e :: es) X.env = (false, eval e X.env) :: starEach es X.env := by rfl) (hpl : (backTo pos (starEach es X.env)).any (·.1) = false := by rfl) : PE X (.Call (.Name x p) (e :: es) [] pos) (tCB r t) := by
  intro pins s σ H Q I h
  refine wpAny_Call_Name_kw (ld_blt I hg hm hv ?_ hn hdb)
  refine PyProof.Rows.callWith_builtin1 (thn (ha pos pins s σ H _ I h) fun us s1 hm0 => ?_) he hpl
  obtain ⟨vs, H1, I1, r1, q1⟩ := hm0
  exact hc pins s1 σ H1 vs us Q I1 r1 q1
theorem pe_callTy (hc : CallR X (.type T) r) (hg : Gl X x) (hm : X.mg x = none) (hv : bootBuiltins x = some (.type T)) (ha : PA X (e :: es) t) (hn : x ≠ "__name__" := by decide) (hdb : (x == ("__debug__" : Str)) = false := by decide)
    (he : starEach (e :: es) X.env = (false, eval e X.env) :: starEach es X.env := by rfl) (hpl : (backTo pos (starEach es X.env)).any (·.1) = false := by rfl) : PE X (.Call (.Name x p) (e :: es) [] pos) (tCB r t) := by
  intro pins s σ H Q I h
  refine wpAny_Call_Name_kw (ld_blt I hg hm hv ?_ hn hdb)
  refine PyProof.Rows.callWith_type1 (thn (ha pos pins s σ H _ I h) fun us s1 hm0 => ?_) he hpl
  obtain ⟨vs, H1, I1, r1, q1⟩ := hm0
  exact hc pins s1 σ H1 vs us Q I1 r1 q1
end
end L2
namespace HT
open PySem PyProof.Rows
section
open PySem.SeqAt
open PySem.AutoSeq1 (wpAny_loadPart')
open PySem.MeetsSeq PySem.MeetsSeq2 PySem.MeetsSeq3
end
section
variable {prog : Program} {w : World} {A : Around} {E : Value → Shared → Prop} {s : Shared}
def sIx (n d : Nat) : Option Int → Nat
  | none => d
  | some v => if v < 0 then (v + (n : Int)).toNat else min v.toNat n
theorem sIx_none (n d : Nat) : sIx n d none = d := rfl
theorem sIx_nat (n d k : Nat) : sIx n d (some (k : Int)) = min k n := by
  show (if (k : Int) < 0 then ((k : Int) + (n : Int)).toNat else min (k : Int).toNat n) = min k n
  rw [if_neg (by omega), Int.toNat_natCast]
end
end HT
namespace L2
open PySem PySem.Spec PyProof.Rows
abbrev TO := St → Hp → (Option Int → Hp → Prop) → Prop
def PO (X : Cx) (e : Option Expr) (t : TO) : Prop :=
  ∀ (pins : List (Addr × Obj)) (s : Shared) (σ : St) (H : Hp) (Q : Option Int → Hp → Prop), Inv X pins σ H s → t σ H Q →
    wpAny (model X.prog X.w) X.A (evalPart e X.env) (fun u s' => ∃ o H', Inv X pins σ H' s' ∧ IsPart u o ∧ Q o H') X.xe s
def tNoPart : TO := fun _ H Q => Q none H
def tPart (t : TE) : TO := fun σ H Q => t σ H fun x H1 => ∃ i, x = .int i ∧ Q (some i) H1
theorem intsAre_of {ns : List Int} : ∀ {us : List Value}, Vals (ns.map V.int) us → IntsAre us ns := by
  induction ns with
  | nil => intro us r; rw [List.map_nil] at r; cases r; exact .nil
  | cons n ns ih =>
    intro us r
    rw [List.map_cons] at r
    cases r with
    | cons r1 r2 =>
      obtain ⟨t, e⟩ := r1
      subst e
      exact .cons n t (ih r2)
section
variable {X : Cx} {e : Expr} {te : TE} {lo hi : Option Expr} {tl th : TO} {pos p2 : Pos}
theorem po_none : PO X none tNoPart := by
  intro pins s σ H Q I h
  rw [evalPart_none]
  exact wpAny_pure ⟨none, H, I, .none, h⟩
theorem po_some (h : PE X e te) : PO X (some e) (tPart te) := by
  intro pins s σ H Q I hw
  rw [evalPart_some]
  refine thn (h pins s σ H _ I hw) fun u s1 hm0 => ?_
  obtain ⟨x, H1, I1, r1, q1⟩ := hm0
  obtain ⟨i, rfl, q⟩ := q1
  obtain ⟨t, rfl⟩ := r1
  exact ⟨some i, H1, I1, .int i t, q⟩
def SlR (X : Cx) (r : V → Option Int → Option Int → Hp → VK → Prop) : Prop :=
  ∀ (pins : List (Addr × Obj)) (s : Shared) (σ : St) (H : Hp) (x : V) (v vl vu : Value) (lo hi : Option Int) (sl : Addr) (Q : VK), Inv X pins σ H s → RelV x v → s.heap.IsSliceOf sl vl vu .none → IsPart vl lo → IsPart vu hi → r x lo hi H Q →
    ∃ T id, typeLookup (.type T) "__getitem__" = pure (some (.builtin id)) ∧ s.TypeIs v T ∧ wpAny (model X.prog X.w) X.A (getItem v (.ref sl)) (EP X pins σ Q) X.xe s
def tSl (r : V → Option Int → Option Int → Hp → VK → Prop) (te : TE) (tl th : TO) : TE := fun σ H Q => te σ H fun x H1 => tl σ H1 fun l H2 => th σ H2 fun u H3 => r x l u H3 Q
theorem pe_slice {r : V → Option Int → Option Int → Hp → VK → Prop} (hr : SlR X r) (he : PE X e te) (hl : PO X lo tl) (hu : PO X hi th) : PE X (.Subscript e (.Slice lo hi none p2) pos) (tSl r te tl th) := by
  intro pins s σ H Q I h
  refine Subscript_ (thn (he pins s σ H _ I h) fun v s1 hm0 => ?_)
  obtain ⟨x, H1, I1, r1, q1⟩ := hm0
  refine wpAny_Slice (thn (hl pins s1 σ H1 _ I1 q1) fun vl s2 hm0 => ?_)
  obtain ⟨l, H2, I2, pl, q2⟩ := hm0
  refine thn (hu pins s2 σ H2 _ I2 q2) fun vu s3 hm1 => ?_
  obtain ⟨u, H3, I3, pu, q3⟩ := hm1
  rw [evalPart_none]
  refine wpAny_pure ?_
  have I4 : Inv X pins σ H3 { s3 with heap := s3.heap.push { cls := .type "slice", data := .fields #[vl, vu, .none] } } := I3.kept (t' := s3.toks) fun b ob q => Heap.get?_push_of_some _ q
  obtain ⟨T, id, hT, ht, hg⟩ := hr pins { s3 with heap := s3.heap.push { cls := .type "slice", data := .fields #[vl, vu, .none] } } σ H3 x v vl vu l u s3.heap.objs.size Q I4 r1 (Heap.IsSliceOf.new ..) pl pu q3
  show wpAny (model X.prog X.w) X.A (subscriptTail e (.Slice lo hi none p2) v (.ref s3.heap.objs.size)) (EP X pins σ Q) X.xe { s3 with heap := s3.heap.push { cls := .type "slice", data := .fields #[vl, vu, .none] } }
  exact tail_any (ops := [.ref s3.heap.objs.size, v]) ht hT hg (by with_unfolding_all rfl)
def cutV (xs : List V) (lo hi : Option Int) : List V := (xs.drop (HT.sIx xs.length 0 lo)).take (HT.sIx xs.length xs.length hi - HT.sIx xs.length 0 lo)
theorem cutV_length (xs : List V) (lo hi : Option Int) : (cutV xs lo hi).length ≤ xs.length := by
  unfold cutV
  rw [List.length_take, List.length_drop]
  omega
end
end L2
namespace L2
open PySem PySem.Spec PyProof.Rows
def ixN (n : Nat) (i : Int) : Option Nat := if 0 ≤ i then (if i < n then some i.toNat else none) else if -(n : Int) ≤ i then some (i + n).toNat else none
def atI {α : Type} (xs : List α) (i : Int) : Option α := (ixN xs.length i).bind fun j => xs[j]?
theorem ixN_seq {n : Nat} {i : Int} {j : Nat} (h : ixN n i = some j) : seqIndex? i n = some j ∧ j < n ∧ -(n : Int) ≤ i ∧ i < n := by
  unfold ixN at h
  by_cases h0 : 0 ≤ i
  · rw [if_pos h0] at h
    by_cases h1 : i < n
    · rw [if_pos h1] at h
      have e : i.toNat = j := Option.some.inj h
      exact ⟨by rw [seqIndex_of h0 h1, e], by omega, by omega, h1⟩
    · rw [if_neg h1] at h; cases h
  · rw [if_neg h0] at h
    by_cases h1 : -(n : Int) ≤ i
    · rw [if_pos h1] at h
      have e : (i + n).toNat = j := Option.some.inj h
      exact ⟨by rw [seqIndex_neg (by omega) h1, e], by omega, h1, by omega⟩
    · rw [if_neg h1] at h; cases h
theorem atI_get {α : Type} {xs : List α} {i : Int} {v : α} (h : atI xs i = some v) : ∃ j, seqIndex? i xs.length = some j ∧ xs[j]? = some v ∧ j < xs.length ∧ -(xs.length : Int) ≤ i ∧ i < xs.length := by
  unfold atI at h
  cases e : ixN xs.length i with
  | none => rw [e] at h; cases h
  | some j =>
    rw [e] at h
    obtain ⟨h1, h2, h3, h4⟩ := ixN_seq e
    exact ⟨j, h1, h, h2, h3, h4⟩
theorem atI_nat {α : Type} {xs : List α} {j : Nat} {v : α} (h : xs[j]? = some v) : atI xs (j : Int) = some v := by
  have hj : j < xs.length := (List.getElem?_eq_some_iff.mp h).1
  have e : ixN xs.length (j : Int) = some j := by
    unfold ixN
    rw [if_pos (by omega), if_pos (by omega)]; simp
  unfold atI; rw [e]; exact h
def PlainIx (b : Expr) : Prop := ∀ o i, subscripted b false o i = operate [o, i] (getItem o i)
def IxR (X : Cx) (r : R2) : Prop :=
  ∀ (value slice : Expr) (pins : List (Addr × Obj)) (s : Shared) (σ : St) (H : Hp) (x y : V) (v u : Value) (Q : VK), Inv X pins σ H s → RelV x v → RelV y u → r x y H Q →
    subscripted slice false v u = operate [v, u] (getItem v u) → wpAny (model X.prog X.w) X.A (subscriptTail value slice v u) (EP X pins σ Q) X.xe s
def MtR (X : Cx) (id : String) (r : V → List V → Hp → VK → Prop) : Prop :=
  ∀ (pins : List (Addr × Obj)) (s : Shared) (σ : St) (H : Hp) (x : V) (xs : List V) (v : Value) (us : List Value) (Q : VK), Inv X pins σ H s → RelV x v → Vals xs us → r x xs H Q →
    wpAny (model X.prog X.w) X.A (call (.builtin id) (v :: us)) (EP X pins σ Q) X.xe s
section
variable {X : Cx} {a b : Expr} {ta tb : TE} {pos : Pos}
theorem pe_ix {r : R2} (hr : IxR X r) (ha : PE X a ta) (hb : PE X b tb) (hs : PlainIx b) : PE X (.Subscript a b pos) (tOp r ta tb) := by
  intro pins s σ H Q I h
  exact Subscript_ (binT ha hb I h fun v u s2 x y H2 I2 rx ry q => hr a b pins s2 σ H2 x y v u Q I2 rx ry q (hs _ _))
def rIxL (K : PySem.W.Frag) : R2 := fun x y H Q => ∃ p xs i v, x = .ref p ∧ y = .int i ∧ SqL K H p xs ∧ atI xs i = some v ∧ Q v H
def rIxT (K : PySem.W.Frag) : R2 := fun x y H Q => ∃ p xs i v, x = .ref p ∧ y = .int i ∧ SqT K H p xs ∧ atI xs i = some v ∧ Q v H
def rIxS : R2 := fun x y H Q => ∃ z i c, x = .str z ∧ y = .int i ∧ z.length ≤ sizeLine ∧ atI z.cps.toList i = some c ∧ Q (.str ⟨#[c]⟩) H
theorem ix_list : IxR X (rIxL X.K) := by
  intro value slice pins s σ H x y v u Q I rx ry h hs
  obtain ⟨p, xs, i, z, rfl, rfl, hq, he, q⟩ := h
  cases rx
  obtain ⟨t, rfl⟩ := ry
  obtain ⟨its, r, pl, hz⟩ := I.list hq
  obtain ⟨j, h1, h2, h3, h4, h5⟩ := atI_get he
  obtain ⟨w, ew, rw'⟩ := r.get h2
  have hl := r.length
  have hn := line63
  have fin : EP X pins σ Q w s := ⟨z, H, I, rw', q⟩
  by_cases h0 : 0 ≤ i
  · have hj : i.toNat = j := by
      rw [seqIndex_of h0 h5] at h1
      exact Option.some.inj h1
    exact item_listR pl.isList h0 (by omega) (by rw [hj]; simpa using ew) fin hs
  · have hj : (i + (its.toArray.size : Int)).toNat = j := by
      rw [seqIndex_neg (by omega) h4] at h1
      rw [List.size_toArray, ← hl]
      exact Option.some.inj h1
    exact subscriptTail_builtinR (x := w) pl.isList.typeIs slot_list_getitem.lookup
      (wpAny_getItem_list_neg (Q := fun r s' => r = w ∧ EP X pins σ Q r s') pl.isList (by omega) (by rw [List.size_toArray] <;> omega) (by omega) (by rw [hj]; simpa using ew) ⟨rfl, fin⟩) hs
theorem ix_tup : IxR X (rIxT X.K) := by
  intro value slice pins s σ H x y v u Q I rx ry h hs
  obtain ⟨p, xs, i, z, rfl, rfl, hq, he, q⟩ := h
  cases rx
  obtain ⟨t, rfl⟩ := ry
  obtain ⟨its, r, pl, hz⟩ := I.tuple hq
  obtain ⟨j, h1, h2, h3, h4, h5⟩ := atI_get he
  obtain ⟨w, ew, rw'⟩ := r.get h2
  have hl := r.length
  have hn := line63
  have fin : EP X pins σ Q w s := ⟨z, H, I, rw', q⟩
  exact subscriptTail_builtinR (x := w) pl.typeIs slot_tuple_getitem.lookup
    (getItem_tuple (j := j) (Q := fun r s' => r = w ∧ EP X pins σ Q r s') pl (by omega) (by omega) (by rw [List.size_toArray, ← hl]; exact h1) (by simpa using ew) ⟨rfl, fin⟩) hs
theorem ix_str : IxR X rIxS := by
  intro value slice pins s σ H x y v u Q I rx ry h hs
  obtain ⟨z, i, c, rfl, rfl, hz, he, q⟩ := h
  obtain ⟨t, rfl⟩ := rx
  obtain ⟨t', rfl⟩ := ry
  obtain ⟨j, h1, h2, h3, h4, h5⟩ := atI_get he
  have hl : z.cps.toList.length = z.length := by simp [Str.length]
  rw [hl] at h1 h4 h5
  have hn := line63
  exact tail_any (typeIs_str s z t) slot_str_getitem.lookup (getItem_str (c := c) (by
    have e1 : decide (i < -(2 ^ 63 : Int)) = false := decide_eq_false (by omega)
    have e2 : decide (i ≥ 2 ^ 63) = false := decide_eq_false (by omega)
    rw [e1, e2, Bool.or_false]) (by rw [h1]; simpa using h2) ⟨.str ⟨#[c]⟩, H, I.tok _, ⟨_, rfl⟩, q⟩) hs
theorem mapSeq_set (its : List Value) (n j : Nat) (u : Value) : Obj.mapSeq (·.setIfInBounds j u) { cls := .type "list", data := .seq its.toArray n } = { cls := .type "list", data := .seq (its.set j u).toArray n } := by
  simp [Obj.mapSeq]
theorem Inv.lst {pins : List (Addr × Obj)} {σ : St} {H : Hp} {s : Shared} {p : Addr} {xs : List V} (I : Inv X pins σ H s) (h : H p = some (.lst xs)) :
    ∃ (its : List Value) (n : Nat), Vals xs its ∧ s.heap.get? p = some { cls := .type "list", data := .seq its.toArray n } ∧ xs.length ≤ sizeLine := by
  obtain ⟨z, its, n, r, e⟩ := I.hok p _ h
  exact ⟨its, n, r, e, z⟩
theorem Inv.lstUpd {pins : List (Addr × Obj)} {σ : St} {H : Hp} {s : Shared} {p : Addr} {xs ys : List V} {its its' : List Value} {n n' : Nat} {f : Obj → Obj} (I : Inv X pins σ H s) (h : H p = some (.lst xs))
    (ho : s.heap.get? p = some { cls := .type "list", data := .seq its.toArray n }) (hf : f { cls := .type "list", data := .seq its.toArray n } = { cls := .type "list", data := .seq its'.toArray n' }) (r : Vals ys its') (hz : ys.length ≤ sizeLine) (t : Nat) :
    Inv X pins σ (upd H p (.lst ys)) { s with heap := s.heap.update p f, toks := t } := by
  have e : (s.heap.update p f).get? p = some { cls := .type "list", data := .seq its'.toArray n' } := by
    rw [Heap.get?_update_self f ho (by rw [hf] <;> rfl), hf]
  refine I.write (x := p) (e := p) (by rw [h]; trivial) (.inl rfl) (fun b u hb q => (Heap.get?_update_other _ _ (Ne.symm hb)).trans q) ⟨_, e⟩ ?_
  exact ⟨hz, its', n', r, e⟩
def rSetL : V → V → V → Hp → (Hp → Prop) → Prop := fun o i v H Q => ∃ p xs k j, o = .ref p ∧ i = .int k ∧ H p = some (.lst xs) ∧ ixN xs.length k = some j ∧ Q (upd H p (.lst (xs.set j v)))
theorem set_list : PSet X rSetL := by
  intro pins s σ H o i v ov iv u Q I ro ri rv h
  obtain ⟨p, xs, k, j, rfl, rfl, hp, hj, q⟩ := h
  cases ro
  obtain ⟨t, rfl⟩ := ri
  obtain ⟨its, n, r, ho, hz⟩ := I.lst hp
  obtain ⟨h1, h2, h3, h4⟩ := ixN_seq hj
  have hl := r.length
  have hn := line63
  have I' : Inv X pins σ (upd H p (.lst (xs.set j v))) { s with heap := s.heap.update p (Obj.mapSeq (·.setIfInBounds j u)) } :=
    I.lstUpd hp ho (mapSeq_set its n j u) (r.set rv j) (by rw [List.length_set]; exact hz) s.toks
  by_cases h0 : 0 ≤ k
  · have hk : k.toNat = j := by
      rw [seqIndex_of h0 h4] at h1
      exact Option.some.inj h1
    exact PySem.W.ki_setAt ho h0 (by omega) (by rw [List.size_toArray, ← hl]; exact h4) (by rw [hk]; exact ⟨_, I', q⟩)
  · have hk : (k + (its.toArray.size : Int)).toNat = j := by
      rw [seqIndex_neg (by omega) h3] at h1
      rw [List.size_toArray, ← hl]
      exact Option.some.inj h1
    exact PySem.W.ki_setBack ho (by omega) (by rw [List.size_toArray, ← hl]; exact h3) (by omega) (by rw [hk]; exact ⟨_, I', q⟩)
theorem slice_bounds (lo hi : Option Int) (n : Nat) : (sliceBounds lo hi none n).1 = ((HT.sIx n 0 lo : Nat) : Int) ∧ (sliceBounds lo hi none n).2.1 = ((HT.sIx n n hi : Nat) : Int) ∧ (sliceBounds lo hi none n).2.2 = 1 := by
  refine ⟨?_, ?_, rfl⟩
  · cases lo with
    | none => simp [sliceBounds, HT.sIx]
    | some i =>
      simp only [sliceBounds, HT.sIx, Option.getD_none, show (1 : Int) > 0 by decide, if_true]
      by_cases h : i < 0
      · simp only [h, if_true] <;> omega
      · simp only [h, if_false] <;> omega
  · cases hi with
    | none => simp [sliceBounds, HT.sIx]
    | some i =>
      simp only [sliceBounds, HT.sIx, Option.getD_none, show (1 : Int) > 0 by decide, if_true]
      by_cases h : i < 0
      · simp only [h, if_true] <;> omega
      · simp only [h, if_false] <;> omega
theorem slicePick_cut (its : List Value) (lo hi : Option Int) : slicePick its.toArray lo hi none = ((its.drop (HT.sIx its.length 0 lo)).take (HT.sIx its.length its.length hi - HT.sIx its.length 0 lo)).toArray := by
  obtain ⟨h1, h2, h3⟩ := slice_bounds lo hi its.toArray.size
  unfold slicePick
  rw [h1, h2, h3]
  simp only [sliceRange_one, pick_run, List.size_toArray] <;> rfl
def rSlL (K : PySem.W.Frag) : V → Option Int → Option Int → Hp → VK → Prop := fun x lo hi H Q => ∃ a xs, x = .ref a ∧ SqL K H a xs ∧ ∀ p, H p = none → Q (.ref p) (upd H p (.lst (cutV xs lo hi)))
theorem sl_list : SlR X (rSlL X.K) := by
  intro pins s σ H x v vl vu lo hi sl Q I rx hs pl pu h
  obtain ⟨a, xs, rfl, hx, q⟩ := h
  cases rx
  obtain ⟨its, r, ht, hz⟩ := I.list hx
  have hlen := r.length
  refine ⟨"list", _, slot_list_getitem.lookup, ht.isList.typeIs, ?_⟩
  refine wpAny_getItem_list_slice ht.isList hs pl pu .none (by simp) ?_ (by rw [List.size_toArray] <;> omega)
  rw [slicePick_cut, ← hlen]
  refine ⟨.ref s.heap.objs.size, _, I.laid (t' := s.toks) (o := .lst (cutV xs lo hi)) (fun b ob q => Heap.get?_push_of_some _ q) (Nat.le_refl _) ?_, rfl, q _ (I.hok.fresh (Nat.le_refl _))⟩
  exact ⟨Nat.le_trans (cutV_length xs lo hi) hz, _, 0, (r.drop (HT.sIx xs.length 0 lo)).take (HT.sIx xs.length xs.length hi - HT.sIx xs.length 0 lo), Heap.get?_push_size _ rfl⟩
def flatV : V → Bool
  | .non => true
  | .bl _ => true
  | .int _ => true
  | .str _ => true
  | _ => false
def eqV : V → V → Bool
  | .non, .non => true
  | .bl a, .bl b => a == b
  | .bl a, .int b => (if a then 1 else 0) == b
  | .int a, .bl b => a == (if b then 1 else 0)
  | .int a, .int b => a == b
  | .str a, .str b => a == b
  | _, _ => false
theorem eqAt_V {A : Around} {s : Shared} {y x : V} {u v : Value} (ry : RelV y u) (rx : RelV x v) (fy : flatV y = true) (fx : flatV x = true) : SeqAt.EqAt A s u v (eqV y x) := by
  cases y with
  | non =>
    cases ry
    cases x with
    | non => cases rx; exact SeqAt.EqAt.same _
    | bl b => cases rx; exact SeqAt.EqAt.none_bool b
    | int b => obtain ⟨t, rfl⟩ := rx; exact SeqAt.EqAt.none_int b t
    | str b => obtain ⟨t, rfl⟩ := rx; exact SeqAt.EqAt.none_str b t
    | _ => exact absurd (show false = true from fx) Bool.false_ne_true
  | bl a =>
    cases ry
    cases x with
    | non => cases rx; exact SeqAt.EqAt.bool_none a
    | bl b => cases rx; exact SeqAt.EqAt.bool_bool a b
    | int b => obtain ⟨t, rfl⟩ := rx; exact SeqAt.EqAt.bool_int a b t
    | str b => obtain ⟨t, rfl⟩ := rx; exact SeqAt.EqAt.bool_str a b t
    | _ => exact absurd (show false = true from fx) Bool.false_ne_true
  | int a =>
    obtain ⟨t', rfl⟩ := ry
    cases x with
    | non => cases rx; exact SeqAt.EqAt.int_none a t'
    | bl b => cases rx; exact SeqAt.EqAt.int_bool a t' b
    | int b => obtain ⟨t, rfl⟩ := rx; exact SeqAt.EqAt.int_int a t' b t
    | str b => obtain ⟨t, rfl⟩ := rx; exact SeqAt.EqAt.int_str a t' b t
    | _ => exact absurd (show false = true from fx) Bool.false_ne_true
  | str a =>
    obtain ⟨t', rfl⟩ := ry
    cases x with
    | non => cases rx; exact SeqAt.EqAt.str_none a t'
    | bl b => cases rx; exact SeqAt.EqAt.str_bool a t' b
    | int b => obtain ⟨t, rfl⟩ := rx; exact SeqAt.EqAt.str_int a t' b t
    | str b => obtain ⟨t, rfl⟩ := rx; exact SeqAt.EqAt.str_str a t' b t
    | _ => exact absurd (show false = true from fx) Bool.false_ne_true
  | _ => exact absurd (show false = true from fy) Bool.false_ne_true
def eqU (x : V) (u : Value) : Bool := match u with
  | .none => eqV .non x
  | .bool b => eqV (.bl b) x
  | .int i _ => eqV (.int i) x
  | .str z _ => eqV (.str z) x
  | _ => false
theorem eqU_of {x y : V} {u : Value} (r : RelV y u) (f : flatV y = true) : eqU x u = eqV y x := by
  cases y with
  | non => cases r; rfl
  | bl b => cases r; rfl
  | int i => obtain ⟨t, rfl⟩ := r; rfl
  | str z => obtain ⟨t, rfl⟩ := r; rfl
  | _ => exact absurd (show false = true from f) Bool.false_ne_true
theorem any_eqU {x : V} : ∀ {xs : List V} {us : List Value}, Vals xs us → xs.all flatV = true → us.any (eqU x) = xs.any fun y => eqV y x
  | _, _, .nil, _ => rfl
  | y :: xs, u :: us, .cons r t, f => by
    rw [List.all_cons, Bool.and_eq_true] at f
    rw [List.any_cons, List.any_cons, eqU_of r f.1, any_eqU t f.2]
theorem mem_eqAt {A : Around} {s : Shared} {x : V} {v : Value} (rx : RelV x v) (fx : flatV x = true) : ∀ {xs : List V} {us : List Value}, Vals xs us → xs.all flatV = true → ∀ u ∈ us, SeqAt.EqAt A s u v (eqU x u)
  | _, _, .nil, _ => fun u hu => by cases hu
  | y :: xs, u :: us, .cons r t, f => fun u' hu => by
    rw [List.all_cons, Bool.and_eq_true] at f
    rcases List.mem_cons.mp hu with rfl | hu
    · rw [eqU_of r f.1]; exact eqAt_V r rx f.1 fx
    · exact mem_eqAt rx fx t f.2 u' hu
def inV (x : V) (xs : List V) : Bool := xs.any fun y => eqV y x
def rIn (K : PySem.W.Frag) (neg : Bool) : R2 := fun x y H Q => ∃ p xs, y = .ref p ∧ (SqL K H p xs ∨ SqT K H p xs) ∧ flatV x = true ∧ xs.all flatV = true ∧ Q (.bl (if neg then !inV x xs else inV x xs)) H
theorem op_in_seq : OpR X (compareOp .In) (rIn X.K false) := by
  intro pins s σ H x y v u Q I rx ry h
  obtain ⟨p, xs, rfl, hq, fx, fs, q⟩ := h
  cases ry
  rcases hq with hq | hq
  · obtain ⟨its, r, pl, hz⟩ := I.list hq
    refine SeqAt.in_listAt (eqU x) pl.isList (fun w hw => mem_eqAt rx fx r fs w (by simpa using hw)) ⟨.bl _, H, I, rfl, ?_⟩
    rw [show its.toArray.any (eqU x) = its.any (eqU x) by simp, any_eqU r fs]
    exact q
  · obtain ⟨its, r, pl, hz⟩ := I.tuple hq
    refine SeqAt.in_tupleAt (eqU x) pl (fun w hw => mem_eqAt rx fx r fs w (by simpa using hw)) ⟨.bl _, H, I, rfl, ?_⟩
    rw [show its.toArray.any (eqU x) = its.any (eqU x) by simp, any_eqU r fs]
    exact q
theorem op_notIn_seq : OpR X (compareOp .NotIn) (rIn X.K true) := by
  intro pins s σ H x y v u Q I rx ry h
  obtain ⟨p, xs, rfl, hq, fx, fs, q⟩ := h
  cases ry
  rcases hq with hq | hq
  · obtain ⟨its, r, pl, hz⟩ := I.list hq
    refine SeqAt.notIn_listAt (eqU x) pl.isList (fun w hw => mem_eqAt rx fx r fs w (by simpa using hw)) ⟨.bl _, H, I, rfl, ?_⟩
    rw [show its.toArray.any (eqU x) = its.any (eqU x) by simp, any_eqU r fs]
    exact q
  · obtain ⟨its, r, pl, hz⟩ := I.tuple hq
    refine SeqAt.notIn_tupleAt (eqU x) pl (fun w hw => mem_eqAt rx fx r fs w (by simpa using hw)) ⟨.bl _, H, I, rfl, ?_⟩
    rw [show its.toArray.any (eqU x) = its.any (eqU x) by simp, any_eqU r fs]
    exact q
theorem call_len_seq : CallR X (.builtin "len") (fun xs H Q => ∃ p ys, xs = [.ref p] ∧ (SqL X.K H p ys ∨ SqT X.K H p ys) ∧ Q (.int ys.length) H) := by
  intro pins s σ H xs us Q I r h
  obtain ⟨p, ys, rfl, hq, q⟩ := h
  obtain ⟨u, rfl, rx⟩ := vals1 r
  cases rx
  have hn := line63
  rcases hq with hq | hq
  · obtain ⟨its, r', pl, hz⟩ := I.list hq
    have hlen := r'.length
    exact Calls.call_len_list pl.isList (by simp only [List.size_toArray] <;> omega) ⟨.int ys.length, H, I.tok _, ⟨s.toks + 1, by rw [List.size_toArray, hlen]⟩, q⟩
  · obtain ⟨its, r', pl, hz⟩ := I.tuple hq
    have hlen := r'.length
    exact len_tuple pl (by simp only [List.size_toArray] <;> omega) ⟨.int ys.length, H, I.tok _, ⟨s.toks + 1, by rw [List.size_toArray, hlen]⟩, q⟩
theorem call_len_str : CallR X (.builtin "len") (fun xs H Q => ∃ z, xs = [.str z] ∧ z.length ≤ sizeLine ∧ Q (.int z.length) H) := by
  intro pins s σ H xs us Q I r h
  obtain ⟨z, rfl, hz, q⟩ := h
  obtain ⟨u, rfl, t, rfl⟩ := vals1 r
  have hn := line63
  exact len_str (by omega) ⟨.int z.length, H, I.tok _, ⟨_, rfl⟩, q⟩
def tyV (K : PySem.W.Frag) (T : String) (x : V) (H : Hp) : Prop := match x with
  | .str _ => T = "str"
  | .int _ => T = "int"
  | .ref p => (T = "list" ∧ ∃ xs, SqL K H p xs) ∨ (T = "tuple" ∧ ∃ o, K.lookup p = some o ∧ o.cls = .type "tuple" ∧ o.dict = none) ∨
      (T = "dict" ∧ ((∃ kvs, H p = some (.dK kvs)) ∨ ∃ kvs, H p = some (.dT kvs))) ∨ (T = "set" ∧ ∃ S n, H p = some (.set S n))
  | _ => False
theorem tyV_is {pins : List (Addr × Obj)} {σ : St} {H : Hp} {s : Shared} {T : String} {x : V} {v : Value} (I : Inv X pins σ H s) (r : RelV x v) (ty : tyV X.K T x H) :
    s.TypeIs v T ∧ ∀ a, v = .ref a → ∃ ob, s.heap.get? a = some ob ∧ ob.dict = none := by
  cases x with
  | str z =>
    obtain ⟨t, rfl⟩ := r
    cases (show T = "str" from ty)
    exact ⟨typeIs_str s z t, fun _ e => nomatch e⟩
  | int i =>
    obtain ⟨t, rfl⟩ := r
    cases (show T = "int" from ty)
    exact ⟨typeIs_int s i t, fun _ e => nomatch e⟩
  | ref p =>
    cases r
    rcases ty with ⟨rfl, xs, hq⟩ | ⟨rfl, o, hk, hc, hd⟩ | ⟨rfl, hk⟩ | ⟨rfl, S, n, hk⟩
    · obtain ⟨its, _, pl, _⟩ := I.list hq
      refine ⟨pl.isList.typeIs, fun a e => ?_⟩
      cases e
      obtain ⟨o, n, e, c, hd, _⟩ := pl
      exact ⟨o, e, hd⟩
    · refine ⟨⟨o, I.kIn p o hk, hc⟩, fun a e => ?_⟩
      cases e
      exact ⟨o, I.kIn _ o hk, hd⟩
    · have z : ∃ o, s.heap.get? p = some o ∧ o.ExactDict := by
        rcases hk with ⟨kvs, hk⟩ | ⟨kvs, hk⟩
        · obtain ⟨_, _, _, _, o, _, _, e, ex, _⟩ := I.hok p _ hk
          exact ⟨o, e, ex⟩
        · obtain ⟨_, _, _, _, o, _, _, e, ex, _⟩ := I.hok p _ hk
          exact ⟨o, e, ex⟩
      obtain ⟨o, e, ex⟩ := z
      refine ⟨⟨o, e, ex.1⟩, fun a e2 => ?_⟩
      cases e2
      exact ⟨o, e, ex.2.1⟩
    · obtain ⟨o, _, _, _, e, ex, _⟩ := I.hok p _ hk
      refine ⟨⟨o, e, ex.1⟩, fun a e2 => ?_⟩
      cases e2
      exact ⟨o, e, ex.2.1⟩
  | _ => exact False.elim ty
def tBM0 (K : PySem.W.Frag) (T : String) (r : V → List V → Hp → VK → Prop) (to : TE) : TE := fun σ H Q => to σ H fun x H1 => tyV K T x H1 ∧ r x [] H1 Q
def tBM (K : PySem.W.Frag) (T : String) (r : V → List V → Hp → VK → Prop) (to : TE) (t : TA) : TE := fun σ H Q => to σ H fun x H1 => tyV K T x H1 ∧ t σ H1 fun xs H2 => r x xs H2 Q
variable {o e : Expr} {es : List Expr} {to : TE} {t : TA} {name : Str} {apos cpos : Pos} {T id : String} {r : V → List V → Hp → VK → Prop}
theorem pe_bm0 (pa : PlainAttrs T) (slot : Slot T name id) (hty : typeOf (.builtin id) = pure (.type "method_descriptor")) (hm : MtR X id r) (ho : PE X o to)
    (hbase : attributeBase o name X.env (eval o X.env) = eval o X.env := by rfl) (hline : (apos.endLine == cpos.line) = true := by rfl) : PE X (.Call (.Attribute o name apos) [] [] cpos) (tBM0 X.K T r to) := by
  intro pins s σ H Q I h
  refine wpAny_Call_method0_late hbase hline (thn (ho pins s σ H _ I h) fun v s1 hm0 => ?_)
  obtain ⟨x, H1, I1, r1, ty, q1⟩ := hm0
  obtain ⟨h1, h2⟩ := tyV_is I1 r1 ty
  exact ⟨T, id, pa, slot, hty, h1, h2, Calls.callWith_builtin rfl (PySem.evalArgs_none (hm pins s1 σ H1 x [] v [] Q I1 r1 .nil q1))⟩
theorem pe_bm (pa : PlainAttrs T) (slot : Slot T name id) (hty : typeOf (.builtin id) = pure (.type "method_descriptor")) (hm : MtR X id r) (ho : PE X o to) (ha : PA X (e :: es) t)
    (hbase : attributeBase o name X.env (eval o X.env) = eval o X.env := by rfl)
    (hfew : ((backTo cpos (starEach (e :: es) X.env)).all (fun x => !x.1) && (backToKw cpos (keywordEach [] X.env)).all (fun x => x.1.isSome)
      && decide ((e :: es).length + ([] : List Keyword).length + (if ([] : List Keyword).isEmpty then 0 else 1) < 30)) = true := by rfl)
    (hline : (apos.endLine == cpos.line) = true := by rfl) (hs : starEach (e :: es) X.env = (false, eval e X.env) :: starEach es X.env := by rfl) (hplain : (backTo cpos (starEach es X.env)).any (·.1) = false := by rfl) :
    PE X (.Call (.Attribute o name apos) (e :: es) [] cpos) (tBM X.K T r to t) := by
  intro pins s σ H Q I h
  refine wpAny_Call_method_late hbase hfew hline rfl (thn (ho pins s σ H _ I h) fun v s1 hm0 => ?_)
  obtain ⟨x, H1, I1, r1, ty, q1⟩ := hm0
  obtain ⟨h1, h2⟩ := tyV_is I1 r1 ty
  refine ⟨T, id, pa, slot, hty, h1, h2, ?_⟩
  have hA := ha cpos pins s1 σ H1 _ I1 q1
  rw [hs] at hA ⊢
  refine Calls.callWith_builtin (by show (false || (backTo cpos (starEach es X.env)).any (·.1)) = false; rw [hplain] <;> rfl) (Calls.evalArgs_plain ?_)
  refine thn hA fun us s2 hm0 => ?_
  obtain ⟨vs, H2, I2, r2, q2⟩ := hm0
  exact hm pins s2 σ H2 x vs v us Q I2 r1 r2 q2
/- xs.append(e), list.index on a module's tuple .. are MtR facts of 06m -/
end
end L2
namespace L2
open PySem PySem.Spec PyProof.Rows
def MtM (X : Cx) (id : String) (r : V → List V → Hp → VK → Prop) : Prop :=
  ∀ (pins : List (Addr × Obj)) (s : Shared) (σ : St) (H : Hp) (x : V) (xs : List V) (v : Value) (us : List Value) (Q : VK), Inv X pins σ H s → RelV x v → Vals xs us → r x xs H Q →
    wpAny (model X.prog X.w) X.A (call (.builtin id) (v :: us)) (EP X pins σ Q) X.xe s
theorem Vals.one {x : V} {us : List Value} (h : Vals [x] us) : ∃ u, us = [u] ∧ RelV x u := by
  cases h with
  | cons r e => cases e; exact ⟨_, rfl, r⟩
theorem Vals.two {x y : V} {us : List Value} (h : Vals [x, y] us) : ∃ u v, us = [u, v] ∧ RelV x u ∧ RelV y v := by
  cases h with
  | cons r e =>
    obtain ⟨v, e1, q⟩ := Vals.one e
    subst e1
    exact ⟨_, _, rfl, r, q⟩
theorem Vals.zero : ∀ {us : List Value}, Vals [] us → us = []
  | _, .nil => rfl
theorem Vals.dropLast {xs : List V} {us : List Value} (h : Vals xs us) : Vals xs.dropLast us.dropLast := by
  induction h with
  | nil => exact .nil
  | cons r t ih =>
    cases t with
    | nil => exact .nil
    | cons q t' => exact .cons r ih
theorem erase_last {α : Type} (l : List α) : l.eraseIdx (l.length - 1) = l.dropLast := by
  induction l with
  | nil => rfl
  | cons a r ih =>
    cases r with
    | nil => rfl
    | cons b r =>
      have e : (a :: b :: r).length - 1 = ((b :: r).length - 1) + 1 := by
        have h1 : (a :: b :: r).length = r.length + 2 := rfl
        have h2 : (b :: r).length = r.length + 1 := rfl
        omega
      rw [e, List.eraseIdx_cons_succ, ih]
      all_goals rfl
section
variable {X : Cx} {pins : List (Addr × Obj)} {σ : St} {H : Hp} {s : Shared} {l b : Addr} {xs ys zs : List V}
theorem Inv.lset {its its' : List Value} {n : Nat} {f : Array Value → Array Value} {t' : Nat} (I : Inv X pins σ H s) (hH : H l = some (.lst xs))
    (e : s.heap.get? l = some { cls := .type "list", data := .seq its.toArray n }) (hf : f its.toArray = its'.toArray) (hv : Vals ys its') (hz : ys.length ≤ sizeLine) :
    Inv X pins σ (upd H l (.lst ys)) { s with heap := s.heap.update l (Obj.mapSeq f), toks := t' } := by
  have q := PySem.IsL.update e f
  rw [hf] at q
  refine I.write (x := l) (e := l) (by rw [hH]; exact trivial) (.inl rfl) (fun b' u hb hu => (Heap.get?_update_other s.heap (Obj.mapSeq f) (Ne.symm hb)).trans hu) ⟨_, q⟩ ?_
  exact ⟨hz, its', _, hv, q⟩
theorem Inv.lnew {its : List Value} {t' : Nat} (I : Inv X pins σ H s) (hv : Vals ys its) (hz : ys.length ≤ sizeLine) :
    Inv X pins σ (upd H s.heap.objs.size (.lst ys)) { s with heap := s.heap.push { cls := .type "list", data := .seq its.toArray }, toks := t' } :=
  I.laid (fun _ _ q => Heap.get?_push_of_some _ q) (Nat.le_refl _) ⟨hz, its, 0, hv, Heap.get?_push_size _ rfl⟩
theorem Inv.fresh (I : Inv X pins σ H s) : H s.heap.objs.size = none := I.hok.fresh (Nat.le_refl _)
theorem Inv.lstM (I : Inv X pins σ H s) (hH : H l = some (.lst xs)) : xs.length ≤ sizeLine ∧ ∃ (its : List Value) (n : Nat), Vals xs its ∧ xs.length = its.length ∧ s.heap.get? l = some { cls := .type "list", data := .seq its.toArray n } := by
  obtain ⟨z, its, n, r, e⟩ := I.hok l _ hH
  exact ⟨z, its, n, r, r.length, e⟩
end
section
variable {X : Cx}
def rAppend : V → List V → Hp → VK → Prop := fun x vs H Q => ∃ l xs y, x = .ref l ∧ vs = [y] ∧ H l = some (.lst xs) ∧ xs.length < sizeLine ∧ Q .non (upd H l (.lst (xs ++ [y])))
theorem mt_append : MtM X "list.append" rAppend := by
  intro pins s σ H x vs v us Q I rx rv h
  obtain ⟨l, xs, y, rfl, rfl, hH, hz, q⟩ := h
  cases rx
  obtain ⟨u, rfl, ru⟩ := rv.one
  obtain ⟨z, its, n, r, hl, e⟩ := I.lstM hH
  refine call_meets F.slot_list_append ⟨_, e, rfl⟩ F.entry_list_append (F.args_list_append_2 _ _) (PySem.list_append l its.toArray n u (by rw [List.size_toArray]; omega)) ⟨e, ?_⟩
  refine ⟨.non, _, I.lset (its' := its ++ [u]) hH e (by simp) (r.append (.cons ru .nil)) ?_, rfl, q⟩
  rw [List.length_append, List.length_singleton]
  omega
def rPop : V → List V → Hp → VK → Prop := fun x vs H Q => ∃ l xs y, x = .ref l ∧ vs = [] ∧ H l = some (.lst xs) ∧ xs[xs.length - 1]? = some y ∧ Q y (upd H l (.lst xs.dropLast))
theorem mt_pop : MtM X "list.pop" rPop := by
  intro pins s σ H x vs v us Q I rx rv h
  obtain ⟨l, xs, y, rfl, rfl, hH, hy, q⟩ := h
  cases rx
  have hus := rv.zero
  subst hus
  obtain ⟨z, its, n, r, hl, e⟩ := I.lstM hH
  obtain ⟨u, hu, ru⟩ := r.get hy
  have hy' : its.toArray[its.toArray.size - 1]? = some u := by
    show its.toArray[its.length - 1]? = some u
    rw [← Array.getElem?_toList, ← hl]
    exact hu
  refine call_meets F.slot_list_pop ⟨_, e, rfl⟩ F.entry_list_pop (F.args_list_pop_1 _) (MeetsSeq.list_pop_last l its.toArray n u hy' (by rw [List.size_toArray]; omega)) ⟨e, ?_⟩
  refine ⟨y, _, I.lset (its' := its.dropLast) hH e ?_ r.dropLast ?_, ru, q⟩
  · show its.toArray.eraseIdxIfInBounds (its.toArray.size - 1) = its.dropLast.toArray
    rw [List.size_toArray, List.eraseIdxIfInBounds_toArray, erase_last]
  · rw [List.length_dropLast]
    omega
def rClear : V → List V → Hp → VK → Prop := fun x vs H Q => ∃ l xs, x = .ref l ∧ vs = [] ∧ H l = some (.lst xs) ∧ Q .non (upd H l (.lst []))
theorem mt_clear : MtM X "list.clear" rClear := by
  intro pins s σ H x vs v us Q I rx rv h
  obtain ⟨l, xs, rfl, rfl, hH, q⟩ := h
  cases rx
  have hus := rv.zero
  subst hus
  obtain ⟨z, its, n, r, hl, e⟩ := I.lstM hH
  refine call_meets F.slot_list_clear ⟨_, e, rfl⟩ F.entry_list_clear (F.args_list_clear_1 _) (AutoSeq1.list_clear_list_0 l its.toArray n (by rw [List.size_toArray]; omega)) ⟨e, ?_⟩
  exact ⟨.non, _, I.lset (its' := []) (ys := []) hH e rfl .nil (Nat.zero_le _), rfl, q⟩
def rCat : R2 := fun x y H Q => ∃ l b xs zs, x = .ref l ∧ y = .ref b ∧ H l = some (.lst xs) ∧ H b = some (.lst zs) ∧ xs.length + zs.length ≤ sizeLine ∧ ∀ p, H p = none → Q (.ref p) (upd H p (.lst (xs ++ zs)))
theorem op_cat : OpR X (binaryOp .Add) rCat := by
  intro pins s σ H x y v u Q I rx ry h
  obtain ⟨l, b, xs, zs, rfl, rfl, hH, hB, hz, q⟩ := h
  cases rx
  cases ry
  obtain ⟨z, its, n, r, hl, e⟩ := I.lstM hH
  obtain ⟨z2, its2, n2, r2, hl2, e2⟩ := I.lstM hB
  refine PySem.P.add_list e e2 ?_ (by rw [List.size_toArray, List.size_toArray]; omega)
  have ea : its.toArray ++ its2.toArray = (its ++ its2).toArray := by simp
  rw [ea]
  exact ⟨.ref _, _, I.lnew (t' := s.toks) (r.append r2) (by rw [List.length_append]; omega), rfl, q _ I.fresh⟩
end
section
variable {prog : Program} {w : World} {A : Around} {E : Value → Shared → Prop} {s : Shared}
set_option maxRecDepth 100000 in
end
section
variable {X : Cx}
end
end L2
namespace L2
open PySem PySem.Spec PyProof.Rows
section
variable {κ : Type} [DecidableEq κ]
def valV (kvs : List (κ × V)) (k : κ) : Option V := (kvs.find? fun kv => decide (kv.1 = k)).map (·.2)
def putK (kvs : List (κ × V)) (k : κ) (v : V) : List (κ × V) :=
  if (kvs.any fun kv => decide (kv.1 = k)) = true then kvs.map (fun kv => if kv.1 = k then (kv.1, v) else kv) else kvs ++ [(k, v)]
theorem valV_pos {p : κ × V} {r : List (κ × V)} {k : κ} (e : p.1 = k) : valV (p :: r) k = some p.2 := by simp [valV, List.find?_cons, e]
theorem valV_neg {p : κ × V} {r : List (κ × V)} {k : κ} (e : ¬ p.1 = k) : valV (p :: r) k = valV r k := by simp [valV, List.find?_cons, e]
theorem length_putK (kvs : List (κ × V)) (k : κ) (v : V) : (putK kvs k v).length ≤ kvs.length + 1 := by
  unfold putK
  split
  · rw [List.length_map]; omega
  · rw [List.length_append, List.length_cons, List.length_nil]; omega
theorem RelO.isSome_eq {o : Option V} {u : Option Value} (r : RelO o u) : o.isSome = u.isSome := by
  cases o with
  | none => cases u with
    | none => rfl
    | some _ => exact (show False from r).elim
  | some _ => cases u with
    | none => exact (show False from r).elim
    | some _ => rfl
theorem KV.val {kvs : List (κ × V)} {vs : List (κ × Value)} (r : KV kvs vs) (k : κ) : RelO (valV kvs k) (valueAt vs k) := by
  unfold KV at r
  induction r with
  | nil => exact True.intro
  | @cons p q ps qs h t ih =>
    obtain ⟨h1, h2⟩ := h
    by_cases e : p.1 = k
    · have e' : q.1 = k := h1.symm.trans e
      have b : valueAt (q :: qs) k = some q.2 := by simp [valueAt, List.find?_cons, e']
      rw [valV_pos e, b]; exact h2
    · have e' : ¬ q.1 = k := fun z => e (h1.trans z)
      have b : valueAt (q :: qs) k = valueAt qs k := by simp [valueAt, List.find?_cons, e']
      rw [valV_neg e, b]; exact ih
theorem KV.any {kvs : List (κ × V)} {vs : List (κ × Value)} (r : KV kvs vs) (k : κ) : (kvs.any fun kv => decide (kv.1 = k)) = vs.any fun kv => decide (kv.1 = k) := by
  unfold KV at r
  induction r with
  | nil => rfl
  | cons h t ih => rw [List.any_cons, List.any_cons, ih, h.1]
theorem KV.repl {kvs : List (κ × V)} {vs : List (κ × Value)} (r : KV kvs vs) (k : κ) {y : V} {u : Value} (ry : RelV y u) :
    KV (kvs.map fun kv => if kv.1 = k then (kv.1, y) else kv) (vs.map fun kv => if kv.1 = k then (kv.1, u) else kv) := by
  unfold KV at r ⊢
  induction r with
  | nil => exact .nil
  | @cons p q ps qs h t ih =>
    rw [List.map_cons, List.map_cons]
    refine .cons ?_ ih
    obtain ⟨h1, h2⟩ := h
    by_cases e : p.1 = k
    · rw [if_pos e, if_pos (h1.symm.trans e)]; exact ⟨h1, ry⟩
    · rw [if_neg e, if_neg (fun z => e (h1.trans z))]; exact ⟨h1, h2⟩
theorem KV.put {kvs : List (κ × V)} {vs : List (κ × Value)} (r : KV kvs vs) (k : κ) {y : V} {u : Value} (ry : RelV y u) : KV (putK kvs k y) (stored vs k u) := by
  unfold putK stored
  rw [r.any k]
  by_cases e : (vs.any fun kv => decide (kv.1 = k)) = true
  · rw [if_pos e, if_pos e]; exact r.repl k ry
  · rw [if_neg e, if_neg e]; exact Paired.snoc r ⟨rfl, ry⟩
theorem KV.length {kvs : List (κ × V)} {vs : List (κ × Value)} (r : KV kvs vs) : kvs.length = vs.length := Paired.length r
end
theorem kV_is {P : Program} {w : World} {k : Key} {u : Value} (r : RelV (kV k) u) : (mixKind P w).is k u = true := by
  cases k with
  | inl i => obtain ⟨t, e⟩ := (show ∃ t, u = Value.int i t from r); subst e; exact mixKind_int P w i t
  | inr x => obtain ⟨t, e⟩ := (show ∃ t, u = Value.str x t from r); subst e; exact mixKind_str P w x t
theorem items_are {P : Program} {w : World} : ∀ {ks : List Key} {us : List Value}, Vals (ks.map kV) us → ItemsAre (mixKind P w) ks us
  | [], _, r => by rw [List.map_nil] at r; cases r; exact .nil
  | k :: ks, _, r => by
    rw [List.map_cons] at r
    cases r with
    | cons h t => exact .cons (kV_is h) (items_are t)
abbrev KT (H : Hp) : List (List Key × V) → List (List Key × Addr × Value) → Prop := Paired fun p q => p.1 = q.1 ∧ H q.2.1 = some (.tup (p.1.map kV)) ∧ RelV p.2 q.2.2
theorem KT.val {H : Hp} {kvs : List (List Key × V)} {xs : List (List Key × Addr × Value)} (r : KT H kvs xs) (k : List Key) : RelO (valV kvs k) ((atKey xs k).map (·.2)) := by
  induction r with
  | nil => exact True.intro
  | @cons p q ps qs h t ih =>
    obtain ⟨h1, _, h2⟩ := h
    by_cases e : p.1 = k
    · have e' : q.1 = k := h1.symm.trans e
      have b : atKey (q :: qs) k = some q.2 := by simp [atKey, List.find?_cons, e']
      rw [valV_pos e, b]; exact h2
    · have e' : ¬ q.1 = k := fun z => e (h1.trans z)
      have b : atKey (q :: qs) k = atKey qs k := by simp [atKey, List.find?_cons, e']
      rw [valV_neg e, b]; exact ih
section
variable {P : Program} {w : World} {H : Hp} {h : Heap} {a : Addr}
theorem rd_of {u : HO} (ok : HOk P w H h) (e : Rd H a u) : ObjOk P w H h a u := e.ok ok
theorem dk_rd {kvs : List (Key × V)} (ok : HOk P w H h) (e : Rd H a (.dK kvs)) : kvs.length ≤ sizeLine ∧ (a == sysModules) = false ∧ ∃ vs, KV kvs vs ∧ h.DictOf (mixKind P w) a vs :=
  show ObjOk P w H h a (.dK kvs) from rd_of ok e
theorem key_of {ks : List Key} (ok : HOk P w H h) (e : H a = some (.tup (ks.map kV))) : (tupleKind (mixKind P w)).is h ks a := by
  obtain ⟨_, its, r, o, h1, h2, n, h3⟩ := (show ObjOk P w H h a (.tup (ks.map kV)) from ok a _ e)
  exact ⟨o, its.toArray, n, h1, h2, h3, by simpa using items_are r⟩
theorem dt_rd {kvs : List (List Key × V)} (ok : HOk P w H h) (e : Rd H a (.dT kvs)) : kvs.length ≤ sizeLine ∧ (a == sysModules) = false ∧
    ∃ xs, KT H kvs xs ∧ h.DictOfH (tupleKind (mixKind P w)) a xs := by
  obtain ⟨z, y, xs, r, o, es, ep, h1, h2, h3, h4, h5⟩ := (show ObjOk P w H h a (.dT kvs) from rd_of ok e)
  refine ⟨z, y, xs, r, o, es, ep, h1, h2, h3, h4, fun x hx => ?_, h5⟩
  have all : ∀ {l : List (List Key × V)} {m : List (List Key × Addr × Value)}, KT H l m → ∀ x ∈ m, (tupleKind (mixKind P w)).is h x.1 x.2.1 := by
    intro l m q
    induction q with
    | nil => intro x hx; exact nomatch hx
    | @cons p q ps qs hq t ih =>
      intro x hx
      rcases List.mem_cons.mp hx with e | hx
      · subst e
        exact key_of ok (by rw [← hq.1]; exact hq.2.1)
      · exact ih x hx
  exact all r x hx
end
def DGet (H : Hp) (a : Addr) (y : V) (r : Option V) : Prop :=
  (∃ kvs k, Rd H a (.dK kvs) ∧ y = kV k ∧ r = valV kvs k) ∨ ∃ kvs k b, Rd H a (.dT kvs) ∧ y = .ref b ∧ H b = some (.tup (k.map kV)) ∧ r = valV kvs k
section
variable {X : Cx} {pins : List (Addr × Obj)} {σ : St} {H : Hp} {s : Shared} {a : Addr} {y v : V} {u r : Value} {o : Option V} {A : Around} {E : Value → Shared → Prop}
theorem Inv.big (I : Inv X pins σ H s) : sysModules < s.heap.objs.size := by
  have h : mainGlobals < s.heap.objs.size := (I.mod.glob.keeps I.bk).lt
  exact Nat.lt_trans (by decide) h
theorem d_getItem {Q : Value → Shared → Prop} (hu : A.units + 1 < cLine) (I : Inv X pins σ H s) (g : DGet H a y (some v)) (ry : RelV y u) (h : ∀ w' s', Inv X pins σ H s' → RelV v w' → Q w' s') :
    wpAny (model X.prog X.w) A (getItem (.ref a) u) Q E s := by
  rcases g with ⟨kvs, k, e, ey, l⟩ | ⟨kvs, k, b, e, ey, eb, l⟩
  · subst ey
    obtain ⟨z, hd, vs, rel, dd⟩ := dk_rd I.hok e
    obtain ⟨w', hw, rw'⟩ := RelO.some_of (v := v) (o := valueAt vs k) (by rw [l]; exact rel.val k)
    exact wpAny_getItem_of (kV_is ry) dd.mapOf hw (h w' _ (I.tok _) rw')
  · subst ey
    cases (show u = Value.ref b from ry)
    obtain ⟨z, hd, xs, rel, dd⟩ := dt_rd I.hok e
    obtain ⟨w', hw, rw'⟩ := RelO.some_of (v := v) (o := (atKey xs k).map (·.2)) (by rw [l]; exact rel.val k)
    obtain ⟨p, hp, hp2⟩ := Option.map_eq_some_iff.mp hw
    refine wpAny_getItem_heap (tupleKind_room_in1 hu) (key_of I.hok eb) dd hp ?_
    rw [hp2]
    exact h w' _ (I.tok _) rw'
theorem d_notIn {Q : Value → Shared → Prop} (hu : A.units + 1 < cLine) (I : Inv X pins σ H s) (g : DGet H a y o) (ry : RelV y u) (h : ∀ s', Inv X pins σ H s' → Q (.bool (!o.isSome)) s') :
    wpAny (model X.prog X.w) A (compareOp .NotIn u (.ref a)) Q E s := by
  rcases g with ⟨kvs, k, e, ey, l⟩ | ⟨kvs, k, b, e, ey, eb, l⟩
  · subst ey
    obtain ⟨z, hd, vs, rel, dd⟩ := dk_rd I.hok e
    refine wpAny_notIn_of (kV_is ry) hd dd.mapOf ?_
    rw [← (rel.val k).isSome_eq, ← l]
    exact h _ (I.tok _)
  · subst ey
    cases (show u = Value.ref b from ry)
    obtain ⟨z, hd, xs, rel, dd⟩ := dt_rd I.hok e
    refine wpAny_notIn_heap (tupleKind_room_in1 hu) (key_of I.hok eb) hd dd ?_
    have q := (rel.val k).isSome_eq
    rw [Option.isSome_map] at q
    rw [← q, ← l]
    exact h _ (I.tok _)
theorem dk_new {P : Program} {w : World} {H' : Hp} {h' : Heap} {kvs : List (Key × V)} {vs : List (Key × Value)} (z : kvs.length ≤ sizeLine) (hd : (a == sysModules) = false) (rel : KV kvs vs) (dd : h'.DictOf (mixKind P w) a vs) :
    ObjOk P w H' h' a (.dK kvs) := ⟨z, hd, vs, rel, dd⟩
end
section
variable {X : Cx} {pins : List (Addr × Obj)} {σ : St} {H : Hp} {s : Shared} {a : Addr} {kvs : List (Key × V)} {k : Key} {u : Value} {A : Around} {E : Value → Shared → Prop}
theorem d_len {Q : Value → Shared → Prop} (I : Inv X pins σ H s) (e : Rd H a (.dK kvs)) (h : ∀ t s', Inv X pins σ H s' → Q (.int kvs.length t) s') : wpAny (model X.prog X.w) A (call (.builtin "len") [.ref a]) Q E s := by
  obtain ⟨z, hd, vs, rel, dd⟩ := dk_rd I.hok e
  refine call_len_dict hd dd (by rw [← rel.length]; rw [sizeLine_eq] at z; omega) ?_
  rw [← rel.length]
  exact h _ _ (I.tok _)
end
def NoSl (i : Expr) : Prop := ∀ ov iv, subscripted i false ov iv = operate [ov, iv] (getItem ov iv)
theorem subD_of {prog : Program} {w : World} {A : Around} {E : Value → Shared → Prop} {s : Shared} {env : Env} {value slice : Expr} {pos : Pos} {T id : String} {Q : Value → Shared → Prop}
    (hl : typeLookup (.type T) "__getitem__" = pure (some (.builtin id))) (hs : NoSl slice)
    (h : wpAny (model prog w) A (eval value env) (fun o s₁ => wpAny (model prog w) A (eval slice env) (fun i s₂ => s₂.TypeIs o T ∧ wpAny (model prog w) A (getItem o i) Q E s₂) E s₁) E s) :
    wpAny (model prog w) A (eval (.Subscript value slice pos) env) Q E s := by
  refine Subscript_ (wpAny_mono h (fun o s₁ h₁ => wpAny_mono h₁ (fun i s₂ h₂ => ?_) fun _ _ x => x) fun _ _ x => x)
  obtain ⟨hT, h₂⟩ := h₂
  unfold subscriptTail
  refine wpAny_bind ?_
  rw [getitemInPython_of_ne hT.not_modules]
  refine wpAny_bind (wpAny_specialOf hT hl ?_)
  have fin : wpAny (model prog w) A (subscripted slice false o i) (fun r s₃ => wpAny (model prog w) A (letTemporaryGo value o r >>= fun _ => pure r) Q E s₃) E s₂ := by
    rw [hs o i]
    exact wpAny_operating (wpAny_mono h₂ (fun r s₃ h₃ => wpAny_bind (wpAny_letTemporaryGo (wpAny_pure h₃))) fun _ _ x => x)
  first
    | exact wpAny_pure (wpAny_bind fin)
    | exact wpAny_bind (wpAny_pure (wpAny_bind fin))
    | exact wpAny_bind fin
theorem dict_typeIs {X : Cx} {pins : List (Addr × Obj)} {σ : St} {H : Hp} {s : Shared} {a : Addr} {y : V} {o : Option V} (I : Inv X pins σ H s) (g : DGet H a y o) : s.TypeIs (.ref a) "dict" := by
  rcases g with ⟨kvs, k, e, _, _⟩ | ⟨kvs, k, b, e, _, _, _⟩
  · obtain ⟨_, _, vs, _, dd⟩ := dk_rd I.hok e
    exact dd.typeIs
  · obtain ⟨_, _, xs, _, dd⟩ := dt_rd I.hok e
    exact dd.typeIs
def tDGet (td ty : TE) : TE := fun σ H Q => td σ H fun x H1 => ty σ H1 fun y H2 => ∃ a v, x = .ref a ∧ DGet H2 a y (some v) ∧ Q v H2
def tDNotIn (ty td : TE) : TE := fun σ H Q => ty σ H fun y H1 => td σ H1 fun x H2 => ∃ a o, x = .ref a ∧ DGet H2 a y o ∧ Q (.bl (!o.isSome)) H2
section
variable {X : Cx} {o i e value : Expr} {pos pos' tpos : Pos} {td ty tv : TE}
theorem pe_dget (hu : X.A.units + 1 < cLine) (ho : PE X o td) (hi : PE X i ty) (hs : NoSl i) : PE X (.Subscript o i pos) (tDGet td ty) := by
  intro pins s σ H Q I h
  refine subD_of PySem.F.slot_dict_getitem.lookup hs (thn (ho pins s σ H _ I h) fun u s1 hm0 => ?_)
  obtain ⟨x, H1, I1, rx, q1⟩ := hm0
  refine thn (hi pins s1 σ H1 _ I1 q1) fun iv s2 hm1 => ?_
  obtain ⟨y, H2, I2, ry, a, v, ex, g, q2⟩ := hm1
  subst ex
  obtain rfl : u = Value.ref a := rx
  exact ⟨dict_typeIs I2 g, d_getItem hu I2 g ry fun w' s3 I3 rw' => ⟨v, H2, I3, rw', q2⟩⟩
theorem pc_dnotin (hu : X.A.units + 1 < cLine) (hi : PE X i ty) (ho : PE X o td) : PC X .NotIn i o (tDNotIn ty td) := by
  intro pins s σ H Q I h
  refine thn (hi pins s σ H _ I h) fun iv s1 hm0 => ?_
  obtain ⟨y, H1, I1, ry, q1⟩ := hm0
  refine thn (ho pins s1 σ H1 _ I1 q1) fun u s2 hm1 => ?_
  obtain ⟨x, H2, I2, rx, a, ov, ex, g, q2⟩ := hm1
  subst ex
  obtain rfl : u = Value.ref a := rx
  exact d_notIn hu I2 g ry fun s3 I3 => ⟨.bl (!ov.isSome), H2, I3, rfl, q2⟩
end
section
variable {X : Cx} {pos : Pos}
end
section
variable {X : Cx} {pins : List (Addr × Obj)} {σ : St} {H : Hp} {s : Shared} {a : Addr} {y d : V} {u r : Value} {o : Option V} {A : Around} {E : Value → Shared → Prop}
end
section
variable {X : Cx} {o e f : Expr} {apos cpos : Pos} {td ty tx : TE}
end
section
variable {X : Cx} {pins : List (Addr × Obj)} {σ : St} {H : Hp} {s : Shared} {a : Addr} {kvs : List (Key × V)} {A : Around} {E : Value → Shared → Prop}
end
section
variable {X : Cx} {pins : List (Addr × Obj)} {σ : St} {H : Hp} {s : Shared} {a : Addr} {y : V} {u : Value} {A : Around} {E : Value → Shared → Prop}
end
end L2
namespace Att
open PySem PySem.W PySem.Calls PyProof.Rows
theorem ints_of_wellAll {P : Params} {h : Heap} : ∀ (ns : List Int) (vs : List Value), WellAll P h vs (ns.map WData.int) → IntsAre vs ns := by
  intro ns
  induction ns with
  | nil =>
    intro vs w
    rw [List.map_nil] at w
    cases w
    exact .nil
  | cons n ns ih =>
    intro vs w
    rw [List.map_cons] at w
    cases w with
    | cons a b =>
      cases a
      exact .cons _ _ (ih _ b)
theorem script_of {l : OpenLaw} {n : Nat} (hn : l.most = some n) {P : Params} {h : Heap} {args : List WData} {vals : List Value}
    (hpre : l.row.toRowW.claim.pre args = true) (hwl : WellAll P h vals args) :
    ∃ a vs ns, vals = [Value.ref a] ∧ args = [WData.list (ns.map WData.int)] ∧ h.get? a = some { cls := .type "list", data := .seq vs.toArray } ∧ IntsAre vs ns ∧ ns.length ≤ n := by
  have hsh : WShape.hasAll [] args [.list .int] = true := (pre_splitW hpre).1
  have hc : l.pre.holds [] { args := args } = true := (pre_splitW hpre).2
  obtain ⟨d, r, rfl, h1, h2⟩ := hasAllW_cons hsh
  obtain rfl := hasAllW_nil h2
  obtain ⟨xs, rfl, h3⟩ := hasW_list h1
  obtain ⟨ns, rfl⟩ := items_int h3
  have hlen : ns.length ≤ n := by
    unfold OpenLaw.pre at hc
    have h4 : (WTm.not (.lt (.lit (.int (n : Int))) (.len (.arg 0)))).holds [] { args := [.list (ns.map .int)] } = true := by
      have h4 := (holds_andW hc).1
      rw [hn] at h4
      exact h4
    have h5 := condW_of h4 (w_not (w_lt w_lit (w_len_list (w_arg rfl))))
    rw [List.length_map] at h5
    refine Nat.le_of_not_lt fun q => ?_
    have q' : (n : Int) < ((ns.length : Nat) : Int) := by omega
    first
      | (rw [decide_eq_true q'] at h5; exact absurd h5 (by decide))
      | (simp at h5; omega)
  cases hwl with
  | cons w1 w2 =>
    cases w2
    cases w1 with
    | list ho hall => exact ⟨_, _, ns, rfl, rfl, ho, ints_of_wellAll ns _ hall, hlen⟩
theorem post_true (l : OpenLaw) (args : List WData) : l.row.toRowW.claim.post args (.bool true) args = true :=
  postW_of (r := l.row.toRowW) (X := (true == true))
    (show WShape.has [] (.bool true) .bool = true by first | rfl | decide | simp [WShape.has, WShape.arms, WShape.armsAll])
    (show (WTm.eq .res (.lit (.bool true))).value [] { args := args, res := some (.bool true), after := args } = some (.bool (true == true)) from w_eq_bool (w_res rfl) w_lit) rfl
theorem attach_call {l : OpenLaw} {n : Nat} {q : Program} {loose : List Str} {XP : (Str → Option Value) → Heap → Prop} {YP : World → Heap → Prop} {d : DefRec}
    (hn : l.most = some n) (hdf : d.params.defaults = [])
    (call : ∀ (w : World) (s₀ s₁ : Shared) (mg mb : Str → Option Value) (fa : Addr) (o : Obj) (pm cd doc : Value) (a : Addr) (vs : List Value) (ns : List Int),
      Ground q loose [] XP w s₀ mg mb s₁.heap → YP w s₁.heap →
      s₁.heap.get? fa = some o → o.data = .func (docDef d.name d.params d.body d.scope pm cd doc) → s₁.heap.CodeRec cd d.name → mg d.name = some (.ref fa) →
      s₁.heap.get? a = some { cls := .type "list", data := .seq vs.toArray } → IntsAre vs ns → ns.length ≤ n → s₁.gens = #[] →
      codeAny (model l.prog w) callerA (.call (.ref fa) ⟨[.ref a], []⟩) (fun r s' => r = .ok (.ret (.bool true)) ∧ OldK s₁.heap s'.heap ∧ s'.os = s₁.os ∧ AllBare s'.gens) s₁) :
    WalkO q loose XP YP l.row.toRowW d [] (fun f vs => PySem.call f vs) := by
  intro w s₀ s₁ mg mb G Y fa o pm cd doc dV kV ho hd hcd hD hmg hg args vals as hpre hlay hrd hwl hlo
  obtain rfl : dV = .none := Dflts.none hD hdf
  obtain rfl : kV = .none := Dflts.noKw hD
  obtain ⟨a, vs, ns, rfl, rfl, hobj, hints, hlen⟩ := script_of hn hpre hwl
  refine enter_call (codeAny_mono (call w s₀ s₁ mg mb fa o pm cd doc a vs ns G Y ho (fd_plain hd) hcd hmg hobj hints hlen hg) fun r s' hq => ?_)
  obtain ⟨rfl, h2, h3, h4⟩ := hq
  exact ⟨.inl ⟨.bool true, .bool true, [], rfl, fun _ => rfl, .bool true, post_true l _, fun _ => ⟨List.Pairwise.nil, fun _ hm => (nomatch hm)⟩⟩, h2, h3, h4⟩
section
variable {prog : Program} {w : World} {A : Around} {E : Value → Shared → Prop} {s : Shared} {K : Frag}
end
end Att
namespace L2
open PySem PySem.Spec PyProof.Rows
theorem vals_ints : ∀ {vs : List Value} {ns : List Int}, IntsAre vs ns → Vals (ns.map V.int) vs
  | _, _, .nil => .nil
  | _, _, .cons n t h => .cons ⟨t, rfl⟩ (vals_ints h)
def Only (H : Hp) : Prop := ∀ b, H b = none ∨ ∃ o xs, H b = some (.frz o (.lst xs))
theorem law_call {P : Program} {w : World} {K : PySem.W.Frag} {mg mb : Str → Option Value} {CX : CXT} {k : Nat} {fa a : Addr} {fd : FuncData} {x : Str} {sp : Sp} {s₁ : Shared} {vs : List Value} {ns : List Int}
    (KX : K.In s₁.heap) (hns : s₁.heap.Ns mainGlobals mg) (hb : s₁.heap.Ns builtinsNs mb) (hbb : ∀ x : Str, x ≠ "__name__" → mb x = bootBuiltins x) (hlim : s₁.heap.NoLimit) (hg : s₁.gens = #[])
    (ha : s₁.heap.get? a = some { cls := .type "list", data := .seq vs.toArray }) (hi : IntsAre vs ns) (hl : ns.length ≤ sizeLine) (hr : Room k callerA)
    (F : ∀ base : Heap, K.In base → base.Ns mainGlobals mg → FnOk P w K mg base CX k fa fd [x] sp) (hbind : ∀ (s : Shared) (u : Value), BindsTo s fd ⟨[u], []⟩ [(x, u)])
    (hsp : ∀ H : Hp, Only H → SqL K H a (ns.map V.int) → sp [.ref a] H (fun v _ => v = .bl true) fun _ _ _ => False)
    (hCX : ∀ H e s', CX [] H s₁ (fun _ _ _ => False) e s' → False) :
    codeAny (model P w) callerA (.call (.ref fa) ⟨[.ref a], []⟩) (fun r s' => r = .ok (.ret (.bool true)) ∧ OldK s₁.heap s'.heap ∧ s'.os = s₁.os ∧ AllBare s'.gens) s₁ := by
  have rv := vals_ints hi
  have lenV := hi.length
  have core : ∀ H : Hp, Only H → SqL K H a (ns.map V.int) → HOk P w H s₁.heap → (∀ b, H b ≠ none → b = a) → (H a ≠ none → K.lookup a = none) →
      codeAny (model P w) callerA (.call (.ref fa) ⟨[.ref a], []⟩) (fun r s' => r = .ok (.ret (.bool true)) ∧ OldK s₁.heap s'.heap ∧ s'.os = s₁.os ∧ AllBare s'.gens) s₁ := by
    intro H hO hS hok hA hK
    have base_of : ∀ {b : Addr} {o : Obj}, s₁.heap.get? b = some o → H b = none → (hidT s₁.heap H).get? b = some o := fun e n => hidT_get e n
    have noA : ∀ {b : Addr} {o : Obj} {es : Array DictEntry} {ep : Nat}, s₁.heap.get? b = some o → o.data = .dict es ep → H b = none := fun {b o es ep} e d => by
      cases q : H b with
      | none => rfl
      | some u =>
        have e' : b = a := hA b (by rw [q]; simp)
        subst e'
        rw [ha] at e; cases e
        have d' : Data.seq vs.toArray _ = Data.dict es ep := d
        cases d'
    have nsK : ∀ {b : Addr} {m : Str → Option Value}, s₁.heap.Ns b m → (hidT s₁.heap H).Ns b m := fun {b m} ⟨o, es, ep, e, d, r⟩ => ⟨o, es, ep, base_of e (noA e d), d, r⟩
    have hKb : K.In (hidT s₁.heap H) := fun b o e => base_of (KX b o e) (by
      cases q : H b with
      | none => rfl
      | some u =>
        have e' : b = a := hA b (by rw [q]; simp)
        subst e'
        rw [hK (by rw [q]; simp)] at e; cases e)
    have hM : Mod K mg (hidT s₁.heap H) := ⟨hKb, nsK hns, ⟨mb, nsK hb, hbb⟩, let ⟨mc, h1, h2⟩ := hlim; ⟨mc, nsK h1, h2⟩⟩
    have e0 : Env0 P w K mg (hidT s₁.heap H) callerA [] s₁ H := ⟨rfl, hM, fun b o e => of_hidT e, Nat.le_of_eq (hidT_size _ _), trivial, fun b hb => absurd (show b ∈ ([] : List Addr) from hb) (by simp), hok, .of_eq hg⟩
    refine codeAny_mono ((F _ hKb (nsK hns)).run callerA [] s₁ H ⟨[.ref a], []⟩ [.ref a] [.ref a] _ _ hr e0 (hbind s₁ (.ref a)) (.cons rfl .nil) (hsp H hO hS)) fun r s' h => ?_
    cases r with
    | error e => exact (hCX H e s' h).elim
    | ok fl =>
      cases fl with
      | next => exact False.elim h
      | brk => exact False.elim h
      | cont => exact False.elim h
      | ret u =>
        obtain ⟨v, H', os, bare, un, hok', r', q⟩ := h
        have q' : v = .bl true := q
        subst q'
        obtain rfl : u = Value.bool true := r'
        refine ⟨rfl, OldK.of_keep fun b o e => ?_, os, bare⟩
        cases q : H b with
        | none => exact un.keep b o e q (by intro z; exact absurd (show b ∈ ([] : List Addr) from z) (by simp)) (by simp)
        | some u =>
          rcases hO b with z | ⟨ob, xs, z⟩
          · rw [q] at z; cases z
          · have z2 := un.frzs b ob _ z
            obtain ⟨e1, _⟩ := hok b _ z
            obtain ⟨e2, _⟩ := hok' b _ z2
            rw [e] at e1; cases e1
            exact e2
  cases hk : K.lookup a with
  | some o =>
    have e := KX a o hk
    rw [ha] at e
    cases e
    refine core (fun _ => none) (fun _ => .inl rfl) (.inr ⟨_, vs.toArray, _, hk, rfl, rfl, rfl, by rw [List.size_toArray, lenV]; exact hl, by simpa using rv⟩) (fun b u z => by have z' : (none : Option HO) = some u := z; cases z') (fun b z => absurd rfl z) fun z => absurd rfl z
  | none =>
    refine core (fun b => if b = a then some (.frz { cls := .type "list", data := .seq vs.toArray } (.lst (ns.map V.int))) else none) (fun b => ?_) (.inl (.inr ⟨{ cls := .type "list", data := .seq vs.toArray }, if_pos rfl⟩)) (fun b u z => ?_) (fun b z => ?_) fun _ => hk
    · by_cases hb : b = a
      · exact .inr ⟨_, _, if_pos hb⟩
      · exact .inl (if_neg hb)
    · by_cases hb : b = a
      · have z' := (if_pos hb).symm.trans z
        cases z'
        subst hb
        exact ⟨ha, by rw [List.length_map]; exact hl, vs, _, rv, ha⟩
      · have z' := (if_neg hb).symm.trans z
        cases z'
    · by_cases hb : b = a
      · exact hb
      · exact absurd (if_neg hb) z
end L2
namespace L2
open PySem PySem.Spec PyProof.Rows
end L2
/- THE LAST THEOREM (shape; LID, My.* are yours):
   My.Adr: a structure of the addresses that your layer names (classes, functions); My.Txt K t: a structure (Prop) of the equations over K;
   My.txt_mk : {K} {implicit addresses ..} (e1 : nsIn K mainGlobals "law" = some (some (.ref f))) (e2 : K.lookup f = some ⟨oc, od, .func (fnOf "law" "law" params body scope dV kV doc pm an cdv ct), sl⟩) (e3 : codeIn K cdv "law" = true) .. : ∃ t, My.Txt K t
set_option maxRecDepth 100000 in
set_option maxHeartbeats 0 in
theorem PySem.Challenge.cw_LID_holds : PySem.Challenge.rw_LID.Holds := by
  w_on; o_law; k_head; (case hw => w_witness2)
  k_fill
  refine L2.walk_of (l := PySem.Challenge.rw_LID) (n := 63) (k := 40) (x := "script") (CX := fun w => ..) (sp := fun _ => My.sp_law) rfl (by decide) rfl ⟨rfl, by decide, by decide⟩ (fun w h Y => PySem.W.kIn_of Y) ?F ?S ?C
  case F =>
    intro w mg fa h KX G hmg
    have T : ∃ t, My.Txt (L2.KOf KX) t := by
      dsimp only [L2.KOf]                          -- K must stand as «<heap const> w.params» for k_is
      refine' My.txt_mk ?e1 ?e2 ?e3 ..
      (case e1 => PySem.W.k_is)                    -- in the order: a name -> its address -> its object -> its parts
      (case e2 => PySem.W.k_is)
      ..
    obtain ⟨t, T⟩ := T
    have e0 := hmg.symm.trans (PySem.W.mg_of KX G T.law)
    cases e0                                       -- fa is the law's own address
    exact ⟨_, fun s u => .of_eq rfl, fun base kb nb => My.law_fn T kb nb⟩     -- if «.of_eq rfl» comes too early: refine' ⟨_, ?b, fun base kb nb => My.law_fn T kb nb⟩; exact fun s u => .of_eq rfl
  case S => exact fun w H a ns hl hO hS => ..
  case C => exact ..
(the tactic k_is has no namespace: write k_is) -/
namespace L2
open PySem PySem.Spec PyProof.Rows
def defArgs (s : Stmt) : Arguments := match s with
  | .FunctionDef _ a _ _ _ _ _ _ _ _ => a
  | _ => { posonlyargs := [], args := [], vararg := none, kwonlyargs := [], kw_defaults := [], kwarg := none, defaults := [] }
def defBody (s : Stmt) : List Stmt := match s with
  | .FunctionDef _ _ b _ _ _ _ _ _ _ => b
  | _ => []
def defScope (s : Stmt) : Scope := match s with
  | .FunctionDef _ _ _ _ _ _ sc _ _ _ => sc
  | _ => { kind := .function, names := [], isGenerator := false, isCoroutine := false }
abbrev CX0 : CXT := fun _ _ _ _ _ _ => False
abbrev E0 : XK := fun _ _ _ => False
theorem pass0 {X : Cx} : Passes CX0 X E0 := fun _ _ _ _ _ _ _ h => h.elim
structure Fun (K : PySem.W.Frag) (x qual : Str) (st : Stmt) (f : Addr) (fd : FuncData) : Prop where
  ex : ∃ (oc : Value) (od : Option Addr) (kV doc pm : Value) (an : Option Addr) (cdv ct : Value) (osl : Array (Option Value)),
    fd = PySem.W.fnOf x qual (defArgs st) (defBody st) (defScope st) .none kV doc pm an cdv ct ∧ K.lookup f = some ⟨oc, od, .func fd, osl⟩ ∧ PySem.W.codeIn K cdv qual = true
  kp : PySem.W.keepIn K (.ref f) = true
section
variable {P : Program} {w : World} {K : PySem.W.Frag} {mg : Str → Option Value} {base : Heap}
theorem Fun.ok {x qual : Str} {st : Stmt} {f : Addr} {fd : FuncData} {N ps : List Str} {k : Nat} {sp : Sp} (F : Fun K x qual st f fd) (S : FnScope N ps (defScope st)) (len : ∀ vs H Q E, sp vs H Q E → vs.length = ps.length)
    (hbody : ∀ (cdv : Value) (A : Around) (outer : List Env) (s : Shared) (H : Hp) (vs : List V) (Q : VK) (E : XK), Room k (A.deeper (envOfC qual (defScope st) s.heap.objs.size f cdv)) → sp vs H Q E →
      ∃ t, PSs (cxOf CX0 P w K mg base N qual (defScope st) f cdv A outer s H E).nox (defBody st) t ∧ t { nx := fun _ H' => Q .non H', rt := Q } (start N vs) H) : FnOk P w K mg base CX0 (k + 1) f fd ps sp := by
  obtain ⟨oc, od, kV, doc, pm, an, cdv, ct, osl, rfl, lk, hcd⟩ := F.ex
  refine fn_of lk hcd S len fun A outer s H vs Q E hr hsp => ?_
  obtain ⟨t, h, q⟩ := hbody cdv A outer s H vs Q E hr hsp
  exact ⟨t, h.nox, q⟩
theorem Fun.binds {x qual : Str} {st : Stmt} {f : Addr} {fd : FuncData} {ps : List Str} (F : Fun K x qual st f fd)
    (h : ∀ (kV doc pm : Value) (an : Option Addr) (cdv ct : Value) (us : List Value), us.length = ps.length → bindArgs (PySem.W.fnOf x qual (defArgs st) (defBody st) (defScope st) .none kV doc pm an cdv ct) ⟨us, []⟩ = pure (ps.zip us)) : Binds K fd ps [] := by
  obtain ⟨oc, od, kV, doc, pm, an, cdv, ct, osl, rfl, lk, hcd⟩ := F.ex
  exact .all (h kV doc pm an cdv ct)
theorem fun_mk {x qual : Str} {st : Stmt} {f : Addr} {oc : Value} {od an : Option Addr} {osl : Array (Option Value)} {kV doc pm cdv ct : Value} (l : K.lookup f = some ⟨oc, od, .func (PySem.W.fnOf x qual (defArgs st) (defBody st) (defScope st) .none kV doc pm an cdv ct), osl⟩)
    (c : PySem.W.codeIn K cdv qual = true) (k : PySem.W.keepIn K (.ref f) = true) : Fun K x qual st f (PySem.W.fnOf x qual (defArgs st) (defBody st) (defScope st) .none kV doc pm an cdv ct) := ⟨⟨oc, od, kV, doc, pm, an, cdv, ct, osl, rfl, l, c⟩, k⟩
end
section
variable {X : Cx}
theorem pv (i : Nat) {x : Str} {pos : Pos} (hN : X.N[i]? = some x := by rfl) (hv : Vis X.env.scope x := by first | exact Or.inl rfl | exact Or.inr (Or.inl rfl) | exact Or.inr (Or.inr rfl)) (hd : (x == ("__debug__" : Str)) = false := by decide)
    (hcd : (x == ("__classdict__" : Str)) = false := by decide) : PE X (.Name x pos) (tVar i) := pe_var hN hv hd hcd
theorem call_lenD : CallR X (.builtin "len") (fun xs H Q => ∃ a kvs, xs = [V.ref a] ∧ H a = some (.dK kvs) ∧ Q (.int kvs.length) H) := by
  intro pins s σ H xs us Q I r h
  obtain ⟨a, kvs, rfl, ha, q⟩ := h
  obtain ⟨u, rfl, ru⟩ := vals1 r
  cases ru
  exact d_len I (.inl ha) fun t s' I' => ⟨.int kvs.length, H, I', ⟨t, rfl⟩, q⟩
end
theorem iteF {A B : Prop} (h : B) : if false = true then A else B := by
  rw [if_neg Bool.false_ne_true]
  exact h
theorem iteT {A B : Prop} (h : A) : if true = true then A else B := by
  rw [if_pos rfl]
  exact h
theorem ite2 {c A B : Prop} [Decidable c] (h1 : c → A) (h2 : ¬ c → B) : if c then A else B := by
  by_cases h : c
  · rw [if_pos h]
    exact h1 h
  · rw [if_neg h]
    exact h2 h
def Same (H H' : Hp) : Prop := ∀ b o, H b = some o → H' b = some o
theorem Same.refl (H : Hp) : Same H H := fun _ _ h => h
theorem Same.trans {H H1 H2 : Hp} (a : Same H H1) (b : Same H1 H2) : Same H H2 := fun c o h => b c o (a c o h)
theorem Same.free {H H' : Hp} (e : Same H H') {l : Addr} (h : H' l = Option.none) : H l = Option.none := by
  cases q : H l with
  | none => rfl
  | some o =>
    rw [e l o q] at h
    cases h
theorem Same.seq {K : PySem.W.Frag} {H H' : Hp} {a : Addr} {xs : List V} (e : Same H H') (h : SqL K H a xs) : SqL K H' a xs := by
  rcases h with (h | ⟨o, h⟩) | h
  · exact .inl (.inl (e _ _ h))
  · exact .inl (.inr ⟨o, e _ _ h⟩)
  · exact .inr h
section
variable {κ : Type} [DecidableEq κ]
end
end L2
set_option Elab.async false
set_option linter.all false
set_option maxRecDepth 100000
set_option maxHeartbeats 4000000
namespace L2
open PySem PySem.Spec PyProof.Rows
theorem clos_aux {env : Env} : ∀ (names : List (Str × NameKind)) (cs : List (Str × Addr)), (∀ x ∈ names, x.2 = .free → ∃ c, env.cells.lookup x.1 = some c) → (∀ x c, cs.lookup x = some c → env.cells.lookup x = some c) →
    ∃ cl : List (Str × Addr), (forIn names cs fun x r => if (x.snd == NameKind.free) = true then (do let a ← cellOf env x.fst; pure (ForInStep.yield ((x.fst, a) :: r)) : Sem (ForInStep (List (Str × Addr)))) else pure (ForInStep.yield r)) = pure cl ∧
      (∀ x c, cl.lookup x = some c → env.cells.lookup x = some c) ∧ ∀ x, ((x, NameKind.free) ∈ names ∨ ∃ c, cs.lookup x = some c) → ∃ c, cl.lookup x = some c
  | [], cs, _, h2 => ⟨cs, rfl, h2, fun x hx => hx.elim (fun z => nomatch z) id⟩
  | (n, k) :: r, cs, h1, h2 => by
    rw [List.forIn_cons]
    by_cases hk : k = .free
    · subst hk
      obtain ⟨c, hc⟩ := h1 (n, .free) List.mem_cons_self rfl
      obtain ⟨cl, e, q1, q2⟩ := clos_aux r ((n, c) :: cs) (fun x hx => h1 x (List.mem_cons_of_mem _ hx)) (fun x d hd => by
        rw [List.lookup_cons] at hd
        split at hd
        · rename_i hx
          cases hd
          have : x = n := by simpa using hx
          subst this; exact hc
        · exact h2 x d hd)
      refine ⟨cl, ?_, q1, fun x hx => q2 x ?_⟩
      · simp only [beq_self_eq_true, if_true]
        rw [show cellOf env n = pure c by unfold cellOf; rw [hc]]
        simp only [pure_bind]
        exact e
      · rcases hx with hx | ⟨d, hd⟩
        · rcases List.mem_cons.mp hx with z | z
          · cases z
            exact .inr ⟨c, by rw [List.lookup_cons]; simp⟩
          · exact .inl z
        · refine .inr ?_
          rw [List.lookup_cons]
          split
          · exact ⟨_, rfl⟩
          · exact ⟨d, hd⟩
    · obtain ⟨cl, e, q1, q2⟩ := clos_aux r cs (fun x hx => h1 x (List.mem_cons_of_mem _ hx)) h2
      have hb : (k == NameKind.free) = false := by simpa using hk
      refine ⟨cl, ?_, q1, fun x hx => q2 x ?_⟩
      · simp only [hb, Bool.false_eq_true, if_false, pure_bind]
        exact e
      · rcases hx with hx | hx
        · rcases List.mem_cons.mp hx with z | z
          · cases z; exact absurd rfl hk
          · exact .inl z
        · exact .inr hx
theorem clos_of {env : Env} {scope : Scope} (h : ∀ x ∈ scope.names, x.2 = .free → ∃ c, env.cells.lookup x.1 = some c) :
    ∃ cl : List (Str × Addr), closureFor scope env = pure cl ∧ (∀ x c, cl.lookup x = some c → env.cells.lookup x = some c) ∧ ∀ x, (x, NameKind.free) ∈ scope.names → ∃ c, cl.lookup x = some c := by
  obtain ⟨cl, e, q1, q2⟩ := clos_aux scope.names [] h (fun x c z => by simp at z)
  refine ⟨cl, ?_, q1, fun x hx => q2 x (.inl hx)⟩
  simp only [closureFor]
  rw [e]
  rfl
theorem comp_loop {prog : Program} {w : World} {A : Around} {R : Result → Shared → Prop} {s : Shared} {elt target iter : Expr} {ifs : List Expr} {scope : Scope} {pos : Pos} {it acc : Value} {env : Env} (I : Nat → Shared → Prop)
    (turn : ∀ n s, I n s → wpAny (model prog w) A (pyNext it) (fun r s₁ => match r with
      | none => R (.ok .next) s₁
      | some v => wpAny (model prog w) A (letOwnedTupleGo target it v) (fun _ s₁' => wpAny (model prog w) A (assign target env v) (fun _ s₂ =>
          wpAny (model prog w) A (forIn ifs true fun c r => if r = true then do let ok ← isTrue c env (eval c env); pure (ForInStep.yield ok) else pure (ForInStep.yield r)) (fun ok s₃ =>
            if ok = true then wpAny (model prog w) A (eval elt env) (fun x s₄ =>
              wpAny (model prog w) A (call (.builtin "list.append") [acc, x]) (fun _ s₅ => ∃ m, m < n ∧ I m s₅) (fun _ _ => False) s₄) (fun _ _ => False) s₃
            else ∃ m, m < n ∧ I m s₃) (fun _ _ => False) s₂) (fun _ _ => False) s₁') (fun _ _ => False) s₁) (fun _ _ => False) s)
    (n : Nat) (h : I n s) :
    codeAny (model prog w) A (.compLoop (.ListComp elt [⟨target, iter, ifs, 0⟩] scope pos) 0 it acc env) R s := by
  refine codeAny_loop rfl I (fun n s hI => ?_) n h
  show wpAny _ A ((compTurn (.ListComp elt [⟨target, iter, ifs, 0⟩] scope pos) 0 it acc env).onRaise (fun x => do noteFrame x env; theTreesLotGoes x)) _ _ s
  refine wpAny_noted ?_
  rw [compTurn_list]
  refine wpAny_bind (wpAny_standAt (wpAny_bind (wpAny_mono (turn n s hI) (fun r s₁ h₁ => ?_) fun _ _ h' => h'.elim)))
  cases r with
  | none => exact wpAny_pure h₁
  | some v =>
    refine wpAny_bind (wpAny_mono h₁ (fun _ s₁' h₁' => ?_) fun _ _ h' => h'.elim)
    refine wpAny_bind (wpAny_mono h₁' (fun _ s₂ h₂ => wpAny_bind (wpAny_mono h₂ (fun ok s₃ h₃ => ?_) fun _ _ h' => h'.elim)) fun _ _ h' => h'.elim)
    cases ok with
    | false => exact wpAny_pure ⟨rfl, h₃⟩
    | true =>
      exact wpAny_bind (wpAny_bind (wpAny_mono h₃ (fun x s₄ h₄ => wpAny_bind (wpAny_mono h₄ (fun _ s₅ h₅ => wpAny_pure (wpAny_pure ⟨rfl, h₅⟩)) fun _ _ h' => h'.elim)) fun _ _ h' => h'.elim))
end L2
set_option maxRecDepth 100000
namespace L2
open PySem PySem.Spec PyProof.Rows
abbrev compCx (X : Cx) (scope : Scope) (N : List Str) (cl : List (Str × Addr)) (C : Addr) (s : Shared) (H : Hp) (ex : List Addr) (pn : List (Addr × Obj)) : Cx where
  prog := X.prog
  w := X.w
  K := X.K
  mg := X.mg
  base := X.base
  A := X.A
  N := N
  s₀ := s
  H₀ := H
  env := compEnvC scope cl C X.env
  outer := X.stack
  stack := X.stack
  ex := ex
  calm := X.calm
  fn := fun _ => false
  pn := pn
  xe := fun _ _ => False
def PTs (X : Cx) (ifs : List Expr) (t : TT) : Prop :=
  ∀ (pins : List (Addr × Obj)) (s : Shared) (σ : St) (H : Hp) (Q : Bool → Hp → Prop), Inv X pins σ H s → t σ H Q →
    wpAny (model X.prog X.w) X.A (forIn ifs true fun c r => if r = true then do let ok ← isTrue c X.env (eval c X.env); pure (ForInStep.yield ok) else pure (ForInStep.yield r)) (TP X pins σ Q) X.xe s
def tYes : TT := fun _ H Q => Q true H
theorem pts_nil {X : Cx} : PTs X [] tYes := fun _ _ _ H _ I h => wpAny_tests_nil ⟨H, I, h⟩
theorem pts_one {X : Cx} {c : Expr} {t : TT} (h : PT X c t) : PTs X [c] t := fun pins s σ H Q I hq => wpAny_tests_one (h pins s σ H Q I hq)
abbrev TTg := V → Hp → (List V → Prop) → Prop
def PTg (X : Cx) (k : Nat) (tg : Expr) (tt : TTg) : Prop :=
  ∀ (pins : List (Addr × Obj)) (s : Shared) (σ : St) (H : Hp) (v : V) (u : Value) (Q : List V → Prop), Inv X pins σ H s → k ≤ σ.length → RelV v u → tt v H Q →
    wpAny (model X.prog X.w) X.A (assign tg X.env u) (fun _ s' => ∃ ws, ws.length = k ∧ Q ws ∧ Inv X pins (ws.map some ++ σ.drop k) H s') X.xe s
def ttName : TTg := fun v _ Q => Q [v]
theorem ptg_name {X : Cx} {x : Str} {pos : Pos} (hN : X.N.Nodup) (hi : X.N[0]? = some x) (hx : X.env.scope.names.lookup x = some .local) : PTg X 1 (.Name x pos) ttName := by
  intro pins s σ H v u Q I hl r h
  refine wpAny_assign_Name (store_ok I hN hi (.inl hx) r (fun s' I' => ⟨[v], rfl, h, ?_⟩) (.inr hx))
  cases σ with
  | nil => simp at hl
  | cons a t => exact I'
end L2
set_option maxRecDepth 100000
set_option maxHeartbeats 400000
namespace L2
open PySem PySem.Spec PyProof.Rows
def ttTup (K : PySem.W.Frag) (n : Nat) : TTg := fun v H Q => ∃ a xs, v = .ref a ∧ SqT K H a xs ∧ xs.length = n ∧ Q xs
theorem set_two {α : Type} (a b : α) : ∀ (σ : List α), 2 ≤ σ.length → (σ.set 0 a).set 1 b = [a, b] ++ σ.drop 2
  | _ :: _ :: _, _ => rfl
theorem len_two {α : Type} : ∀ (xs : List α), xs.length = 2 → ∃ a b, xs = [a, b]
  | [a, b], _ => ⟨a, b, rfl⟩
theorem ptg_tup2 {X : Cx} {x y : Str} {p1 p2 pos : Pos} {k : Nat} (hc : X.calm = true) (hN : X.N.Nodup) (h0 : X.N[0]? = some x) (h1 : X.N[1]? = some y) (hx : X.env.scope.names.lookup x = some .local) (hy : X.env.scope.names.lookup y = some .local) :
    PTg X 2 (.Tuple [.Name x p1, .Name y p2] k pos) (ttTup X.K 2) := by
  have g : PG X (.Tuple [.Name x p1, .Name y p2] k pos) (gTup X.K 2 (gCons (gName 0) (gCons (gName 1) gNil))) := by
    have a1 : PG X (.Name x p1) (gName 0) := pg_name hN h0 (.inl hx) (.inr hx)
    have a2 : PG X (.Name y p2) (gName 1) := pg_name hN h1 (.inl hy) (.inr hy)
    have a3 : PGs X [.Name x p1, .Name y p2] (gCons (gName 0) (gCons (gName 1) gNil)) := pgs_cons a1 (pgs_cons a2 pgs_nil)
    exact pg_tup hc a3
  intro pins s σ H v u Q I hl r h
  obtain ⟨a, xs, rfl, hq, hlen, q⟩ := h
  obtain ⟨x0, x1, e⟩ := len_two xs hlen
  subst e
  have w : gTup X.K 2 (gCons (gName 0) (gCons (gName 1) gNil)) (.ref a) σ H (fun σ' H' => σ' = (σ.set 0 (some x0)).set 1 (some x1) ∧ H' = H) := ⟨a, [x0, x1], rfl, hq, rfl, x0, [x1], rfl, x1, [], rfl, rfl, rfl, rfl⟩
  refine thn (g pins s σ H _ _ _ I r w) ?_
  intro _ s' z
  obtain ⟨σ', H', I', e1, e2⟩ := z
  subst e2
  rw [set_two _ _ _ hl] at e1
  subst e1
  exact ⟨[x0, x1], rfl, q, I'⟩
end L2
set_option Elab.async false
set_option linter.all false
set_option maxRecDepth 100000
set_option maxHeartbeats 1000000
namespace L2
open PySem PySem.Spec PyProof.Rows
theorem HOk.adopt {P : Program} {w : World} {H : Hp} {h : Heap} {a : Addr} {o : HO} (x : HOk P w H h) (hn : H a = none) (new : ObjOk P w (upd H a o) h a o) : HOk P w (upd H a o) h := fun b u e => by
  by_cases hb : b = a
  · subst hb; rw [upd_same] at e; cases e; exact new
  · rw [upd_ne hb] at e
    exact (x b u e).stay (fun c v _ q => q) (fun c q => by rw [upd_ne (ne_of_none q hn)]; exact q) fun c xs q => by rw [upd_ne (ne_of_none q hn)]; exact q
theorem relabel_free {env : Env} {x : Str} : ∀ {names : List (Str × NameKind)}, names.lookup x = some .free →
    (names.map fun (n, k) => if (k == NameKind.free && env.scope.kind == .function && env.kindOf n == some .cell) then (n, NameKind.cell) else (n, k)).lookup x = some .cell ∨
    (names.map fun (n, k) => if (k == NameKind.free && env.scope.kind == .function && env.kindOf n == some .cell) then (n, NameKind.cell) else (n, k)).lookup x = some .free
  | [], h => by simp at h
  | (n, k) :: r, h => by
    have ih := @relabel_free env x r
    show (List.lookup x ((if (k == NameKind.free && env.scope.kind == .function && env.kindOf n == some .cell) = true then (n, NameKind.cell) else (n, k)) :: _) = _) ∨ (List.lookup x ((if (k == NameKind.free && env.scope.kind == .function && env.kindOf n == some .cell) = true then (n, NameKind.cell) else (n, k)) :: _) = _)
    cases hx : x == n with
    | true =>
      simp only [List.lookup_cons, hx] at h
      cases h
      split
      · left; simp [List.lookup_cons, hx]
      · right; simp [List.lookup_cons, hx]
    | false =>
      simp only [List.lookup_cons, hx] at h
      split
      · simp only [List.lookup_cons, hx]; exact ih h
      · simp only [List.lookup_cons, hx]; exact ih h
theorem relabel_back {env : Env} {x : Str} : ∀ {names : List (Str × NameKind)}, (∀ y ∈ names, y.2 ≠ .cell) →
    ((names.map fun (n, k) => if (k == NameKind.free && env.scope.kind == .function && env.kindOf n == some .cell) then (n, NameKind.cell) else (n, k)).lookup x = some .cell ∨
    (names.map fun (n, k) => if (k == NameKind.free && env.scope.kind == .function && env.kindOf n == some .cell) then (n, NameKind.cell) else (n, k)).lookup x = some .free) → (x, NameKind.free) ∈ names
  | [], _, h => by simp at h
  | (n, k) :: r, hc, h => by
    have ih := @relabel_back env x r (fun y hy => hc y (List.mem_cons_of_mem _ hy))
    have hk : k ≠ .cell := hc (n, k) List.mem_cons_self
    have h' : (List.lookup x ((if (k == NameKind.free && env.scope.kind == .function && env.kindOf n == some .cell) = true then (n, NameKind.cell) else (n, k)) :: _) = _) ∨ (List.lookup x ((if (k == NameKind.free && env.scope.kind == .function && env.kindOf n == some .cell) = true then (n, NameKind.cell) else (n, k)) :: _) = _) := h
    cases hx : x == n with
    | true =>
      have e : x = n := by simpa using hx
      subst e
      by_cases hc2 : (k == NameKind.free && env.scope.kind == .function && env.kindOf x == some .cell) = true
      · have : k = .free := by
          have := (Bool.and_eq_true_iff.mp (Bool.and_eq_true_iff.mp hc2).1).1
          simpa using this
        subst this; exact List.mem_cons_self
      · rw [if_neg hc2] at h'
        simp only [List.lookup_cons, hx] at h'
        rcases h' with h' | h'
        · exact absurd (Option.some.inj h') hk
        · cases h'; exact List.mem_cons_self
    | false =>
      refine List.mem_cons_of_mem _ (ih ?_)
      split at h' <;> (simp only [List.lookup_cons, hx] at h'; exact h')
structure CompOk (scope psc : Scope) (N PN : List Str) (k : Nat) (cap : List Nat) : Prop where
  kind : scope.kind = .function
  len : N.length = k + cap.length
  cell : ∀ y ∈ scope.names, y.2 ≠ .cell
  loc : ∀ y ∈ scope.names, y.2 = .local → scope.names.lookup y.1 = some .local
  free : ∀ y ∈ scope.names, y.2 = .free → psc.names.lookup y.1 = some .cell ∨ psc.names.lookup y.1 = some .free
  cap : ∀ j ∈ List.range cap.length, ∃ x i, N[k + j]? = some x ∧ cap[j]? = some i ∧ PN[i]? = some x ∧ scope.names.lookup x = some .free
  free2 : ∀ y ∈ scope.names, y.2 = .free → scope.names.lookup y.1 = some .free
def capS (σ : St) (cap : List Nat) : St := cap.map fun j => (σ[j]?).join
def tComp (wi : TI) (tt : TTg) (tc : TT) (te : TE) (cap : List Nat) : TE := fun σ H Q => wi σ H fun J H1 =>
  ∃ W : Nat → Nat → List V → Hp → Prop, (∃ m, W 0 m [] H1) ∧ ∀ i m ys H2, W i m ys H2 →
    (J.stop i H2 ∧ ys.length ≤ sizeLine ∧ ∀ p, H2 p = none → Q (.ref p) (upd H2 p (.lst ys))) ∨
    (J.go i H2 ∧ ∃ N : List V → Hp → Prop, (∀ ys' H', N ys' H' → ys'.length ≤ sizeLine ∧ ∃ m', m' < m ∧ W (i + 1) m' ys' H') ∧
      ∀ x H3, J.yld i H2 x H3 → tt x H3 fun ws => tc (ws.map some ++ capS σ cap) H3 fun b H4 =>
        if b = true then te (ws.map some ++ capS σ cap) H4 fun y H5 => N (ys ++ [y]) H5 else N ys H4)
structure Blk (X : Cx) (pins : List (Addr × Obj)) (H : Hp) (s : Shared) (C : Addr) : Prop where
  ns : ∃ m, s.heap.Ns C m
  un : H C = none
  ne : C ≠ X.env.locals
  new : X.s₀.heap.objs.size ≤ C
  cells : ∀ x c, X.env.cells.lookup x = some c → c ≠ C
  pins : ∀ p ∈ X.pn ++ pins, p.1 ≠ C
theorem Blk.turn {X : Cx} {pins : List (Addr × Obj)} {H : Hp} {σ : St} {s : Shared} {C : Addr} {h' : Heap} (B : Blk X pins H s C) (I : Inv X pins σ H s) (hs : Heap.SameBut C s.heap h') : Inv X pins σ H { s with heap := h' } :=
  I.turned (t' := s.toks) (fun b o hb e => hs.extBut b o hb e) B.un B.ne (.inr B.new) B.cells B.pins
theorem comp_start {X : Cx} {pins : List (Addr × Obj)} {σ : St} {H : Hp} {s : Shared} {scope : Scope} {N : List Str} {k : Nat} {cap : List Nat} {cl : List (Str × Addr)} {h₁ : Heap} {fp : List Addr} {tk : Nat} (I : Inv X pins σ H s) (S : CompOk scope X.env.scope N X.N k cap)
    (hcl1 : ∀ x c, cl.lookup x = some c → X.env.cells.lookup x = some c) (hcl2 : ∀ x, (x, NameKind.free) ∈ scope.names → ∃ c, cl.lookup x = some c)
    (hf : ∀ b ∈ fp, FpOk X pins H b) (ho : ∀ b ∈ fp, ∃ o, s.heap.get? b = some o)
    {m : Str → Option Value} (hns : h₁.Ns (s.heap.objs.size + 1) m)
    (hsb : ∀ b o, (s.heap.push { cls := .type "list", data := .seq #[] }).get? b = some o → h₁.get? b = some o) :
    Inv (compCx X scope N cl (s.heap.objs.size + 1) { s with heap := s.heap.push { cls := .type "list", data := .seq #[] } } H (s.heap.objs.size :: fp) (X.pn ++ pins))
      [(s.heap.objs.size, { cls := .type "list", data := .seq #[] })] (List.replicate k none ++ capS σ cap) H { s with heap := h₁, toks := tk } := by
  have Ik : Inv X pins σ H { s with heap := s.heap.push { cls := .type "list", data := .seq #[] } } := I.kept (t' := s.toks) fun b o e => Heap.get?_push_of_some _ e
  have hold : ∀ b o, s.heap.get? b = some o → h₁.get? b = some o := fun b o e => hsb b o (Heap.get?_push_of_some _ e)
  have ltD : ∀ {b o}, s.heap.get? b = some o → b < s.heap.objs.size := fun e => Heap.lt_size e
  have sizeP : (s.heap.push { cls := .type "list", data := .seq #[] }).objs.size = s.heap.objs.size + 1 := Heap.size_push ..
  have nD : H s.heap.objs.size = none := I.fresh
  have nC : H (s.heap.objs.size + 1) = none := I.hok.fresh (Nat.le_succ _)
  have cellLt : ∀ x c, X.env.cells.lookup x = some c → c < s.heap.objs.size := fun x c e => by
    obtain ⟨v, q⟩ := I.cell x c e
    exact q.lt
  have stkNe : ∀ b, b ≠ X.env.locals → b ∉ X.fs → b ∉ frs X.stack := fun b h1 h2 hb => (List.mem_cons.mp (I.stkSub b hb)).elim h1 h2
  have fpLt : ∀ b ∈ fp, b < s.heap.objs.size := fun b hb => by obtain ⟨o, e⟩ := ho b hb; exact Heap.lt_size e
  have hfn : ∀ {x : Str}, scope.names.lookup x = some .free → (x, NameKind.free) ∈ scope.names := fun e => PySem.mem_of_lookup e
  refine ⟨⟨I.ok.mod, S.kind, I.ok.glob, I.ok.blt, ?_, fun x y c h1 h2 => I.ok.inj x y c (hcl1 x c h1) (hcl1 y c h2), fun x hx => hcl2 x (relabel_back S.cell hx), fun x c z => (by cases z), I.ok.hd, I.ok.frames, .inl rfl, ?_, ?_, ?_, ?_, ?_, Ik.stack, I.stkFree⟩,
    rfl, I.bare, Un.kept hsb, ?_, ?_, nC, fun x c e => I.freeC x c (hcl1 x c e), ?_, I.hok.kept hold, ?_⟩
  · exact Nat.le_of_eq sizeP
  · intro b hb
    rcases List.mem_cons.mp hb with rfl | hb
    · exact ⟨Nat.ne_of_lt (Nat.lt_succ_self _), fun x c e => Nat.ne_of_lt (cellLt x c (hcl1 x c e))⟩
    · exact ⟨Nat.ne_of_lt (Nat.lt_succ_of_lt (fpLt b hb)), fun x c e => (hf b hb).2.2.2.2.1 x c (hcl1 x c e)⟩
  · intro b o e
    obtain ⟨e1, e2⟩ := I.bs b o e
    exact ⟨Heap.get?_push_of_some _ e1, e2⟩
  · show X.base.objs.size ≤ (s.heap.push _).objs.size
    rw [sizeP]
    exact Nat.le_succ_of_le (Nat.le_trans I.ok.bsz I.sz)
  · intro b o e hb
    obtain ⟨e1, e2⟩ := I.bs b o e
    rcases List.mem_cons.mp hb with rfl | hb
    · exact absurd (ltD e1) (Nat.lt_irrefl _)
    · rcases (hf b hb).2.2.2.1 with z | z
      · exact I.ok.noex b o e z
      · exact absurd (Nat.lt_of_lt_of_le (Heap.lt_size (I.ok.bs b o e).1) z) (Nat.lt_irrefl _)
  · intro b hb
    rcases List.mem_cons.mp hb with rfl | hb
    · exact stkNe _ (Nat.ne_of_gt I.lt) (I.nofs (Nat.le_refl _))
    · exact stkNe b (hf b hb).2.1 (hf b hb).2.2.1
  · refine ⟨m, hns, fun i x v h1 h2 h3 => ?_⟩
    have hik : k ≤ i := by
      refine Nat.le_of_not_lt fun hlt => ?_
      rw [List.getElem?_append_left (by simpa using hlt), List.getElem?_replicate] at h2
      split at h2 <;> cases h2
    obtain ⟨j, rfl⟩ := Nat.exists_eq_add_of_le hik
    rw [List.getElem?_append_right (by simp), List.length_replicate, Nat.add_sub_cancel_left] at h2
    have hj : j < cap.length := by
      have := (List.getElem?_eq_some_iff.mp h2).1
      simpa [capS] using this
    obtain ⟨x', i, e1, e2, e3, e4⟩ := S.cap j (List.mem_range.mpr hj)
    rw [show N[k + j]? = some x from h1] at e1
    cases e1
    have h2' : σ[i]? = some (some v) := by
      unfold capS at h2
      rw [List.getElem?_map, e2] at h2
      have h2' : (σ[i]?).join = some v := Option.some.inj h2
      cases q : σ[i]? with
      | none => rw [q] at h2'; cases h2'
      | some z => rw [q] at h2'; exact congrArg some h2'
    have hfm := hfn e4
    have pk := S.free _ hfm rfl
    obtain ⟨m0, _, hl⟩ := I.loc
    obtain ⟨u, r, lk⟩ := hl i x v e3 h2' (pk.elim (fun z => .inr (.inl z)) fun z => .inr (.inr z))
    refine ⟨u, r, ?_⟩
    rcases lk with ⟨kl, _⟩ | ⟨_, c, e, ic⟩
    · rcases pk with z | z
      · have : X.env.scope.names.lookup x = some .local := kl
        rw [z] at this; cases this
      · have : X.env.scope.names.lookup x = some .local := kl
        rw [z] at this; cases this
    · obtain ⟨c', ec⟩ := hcl2 x hfm
      have := hcl1 x c' ec
      rw [e] at this; cases this
      refine .inr ⟨?_, c, ec, ?_⟩
      · exact relabel_free e4
      · obtain ⟨ob, h3, h4⟩ := ic
        exact ⟨ob, hold _ _ h3, h4⟩
  · intro x c e
    obtain ⟨v, ob, h3, h4⟩ := I.cell x c (hcl1 x c e)
    exact ⟨v, ob, hold _ _ h3, h4⟩
  · intro p hp
    rcases List.mem_append.mp hp with hp | hp
    · obtain ⟨e, n, ne, nf, d⟩ := I.pin p hp
      exact ⟨hold _ _ e, n, Nat.ne_of_lt (Nat.lt_succ_of_lt (ltD e)), stkNe _ ne nf, d⟩
    · have : p = (s.heap.objs.size, { cls := .type "list", data := .seq #[] }) := by simpa using hp
      subst this
      refine ⟨hsb _ _ (Heap.get?_push_size _ rfl), nD, Nat.ne_of_lt (Nat.lt_succ_self _), stkNe _ (Nat.ne_of_gt I.lt) (I.nofs (Nat.le_refl _)), fun v z => by cases z⟩
  · show _ = N.length
    rw [S.len]
    simp [capS]
end L2
set_option Elab.async false
set_option linter.all false
set_option maxRecDepth 100000
set_option maxHeartbeats 1000000
namespace L2
open PySem PySem.Spec PyProof.Rows
theorem comp_core {X : Cx} {elt tg iter : Expr} {ifs : List Expr} {scope : Scope} {pos : Pos} {N : List Str} {k : Nat} {cap : List Nat} {wi : TI} {tt : TTg} {tc : TT} {te : TE} {cl : List (Str × Addr)}
    (hc : X.calm = true) (hi : PI X tg iter wi) (hg : ∀ cl C s H ex pn, PTg (compCx X scope N cl C s H ex pn) k tg tt) (ht : ∀ cl C s H ex pn, PTs (compCx X scope N cl C s H ex pn) ifs tc)
    (he : ∀ cl C s H ex pn, PE (compCx X scope N cl C s H ex pn) elt te) (S : CompOk scope X.env.scope N X.N k cap)
    (hcl1 : ∀ x c, cl.lookup x = some c → X.env.cells.lookup x = some c) (hcl2 : ∀ x, (x, NameKind.free) ∈ scope.names → ∃ c, cl.lookup x = some c)
    {pins : List (Addr × Obj)} {s : Shared} {σ : St} {H : Hp} {Q : VK} (I : Inv X pins σ H s) (h : tComp wi tt tc te cap σ H Q) {RR : Value → Addr → Result → Shared → Prop}
    (hRR : ∀ D C s1 H', Inv X pins σ H' s1 → Blk X pins H' s1 C → Q (.ref D) H' → RR (.ref D) C (.ok .next) s1) :
    wpAny (model X.prog X.w) X.A (eval iter X.env) (fun x s₁ => wpAny (model X.prog X.w) X.A (pyIter x) (fun it s₂ => wpAny (model X.prog X.w) X.A (newList []) (fun acc s₃ =>
      wpAny (model X.prog X.w) X.A (newFunctionEnv scope X.env.globals cl [] X.env.qual none .none (some X.env)) (fun cenv s₄ =>
        codeAny (model X.prog X.w) X.A (.compStart (.ListComp elt [⟨tg, iter, ifs, 0⟩] scope pos) 0 it acc { cenv with scope := relabel scope X.env }) (RR acc cenv.locals) s₄) X.xe s₃) X.xe s₂) X.xe s₁) X.xe s := by
  refine thn (hi pins s σ H _ I h) fun v s1 h1 => thn h1 fun itv s2 h2 => ?_
  obtain ⟨it, fp, tn, J, H2, e, I2, T, st2, f2, W, ⟨m0, w0⟩, turn⟩ := h2
  subst e
  refine wpAny_newObj_type (wpAny_newFunctionEnv S.cell (by intro y hy; simp at hy) (fun h₁ hns₁ hsb₁ => ?_) S.kind)
  dsimp only at hns₁ hsb₁ ⊢
  have hP : s2.heap.push { cls := .type "list", dict := none, data := .seq ([] : List Value).toArray } = s2.heap.push { cls := .type "list", data := .seq #[] } := rfl
  rw [hP] at hns₁ hsb₁ ⊢
  have hC : (s2.heap.push { cls := .type "list", data := .seq #[] }).objs.size = s2.heap.objs.size + 1 := Heap.size_push ..
  rw [hC] at hns₁ hsb₁ ⊢
  have hsb : ∀ b o, (s2.heap.push { cls := .type "list", data := .seq #[] }).get? b = some o → h₁.get? b = some o := fun b o e =>
    hsb₁.extBut b o (by have := Heap.lt_size e; rw [hC] at this; exact Nat.ne_of_lt this) (Heap.get?_push_of_some _ e)
  have hob : ∀ b ∈ fp, ∃ o, s2.heap.get? b = some o := fun b hb => by obtain ⟨o, e, _⟩ := T.obj _ _ st2 b hb; exact ⟨o, e⟩
  have IY := comp_start (N := N) (k := k) (cap := cap) (tk := s2.toks + ([] : List (Str × Value)).length) I2 S hcl1 hcl2 f2 hob hns₁ hsb
  generalize hY : compCx X scope N cl (s2.heap.objs.size + 1) { s2 with heap := s2.heap.push { cls := .type "list", data := .seq #[] } } H2 (s2.heap.objs.size :: fp) (X.pn ++ pins) = Y at IY
  have yp : Y.prog = X.prog := by rw [← hY]
  have yw : Y.w = X.w := by rw [← hY]
  have yK : Y.K = X.K := by rw [← hY]
  have yA : Y.A = X.A := by rw [← hY]
  have yc : Y.calm = true := by rw [← hY]; exact hc
  have yl : Y.env.locals = s2.heap.objs.size + 1 := by rw [← hY]; rfl
  have yenv : Y.env = compEnvC scope cl (s2.heap.objs.size + 1) X.env := by rw [← hY]
  have yex : Y.ex = s2.heap.objs.size :: fp := by rw [← hY]
  have yfs : Y.fs = frs X.stack := by rw [← hY]
  have ypn : Y.pn = X.pn ++ pins := by rw [← hY]
  have ycl : Y.env.cells = cl := by rw [← hY]; rfl
  have yxe : Y.xe = fun _ _ => False := by rw [← hY]
  have gT : PTg Y k tg tt := by rw [← hY]; exact hg _ _ _ _ _ _
  have gC : PTs Y ifs tc := by rw [← hY]; exact ht _ _ _ _ _ _
  have gE : PE Y elt te := by rw [← hY]; exact he _ _ _ _ _ _
  have yH : Y.H₀ = H2 := by rw [← hY]
  have ys0 : Y.s₀ = { s2 with heap := s2.heap.push { cls := .type "list", data := .seq #[] } } := by rw [← hY]
  have fpLt : ∀ b ∈ fp, b < s2.heap.objs.size := fun b hb => by obtain ⟨o, e⟩ := hob b hb; exact Heap.lt_size e
  have pinLt : ∀ p ∈ X.pn ++ pins, p.1 < s2.heap.objs.size := fun p hp => Heap.lt_size (I2.pin p hp).1
  have cellLt : ∀ x c, X.env.cells.lookup x = some c → c < s2.heap.objs.size := fun x c e => by
    obtain ⟨v, q⟩ := I2.cell x c e
    exact q.lt
  have stkNe : ∀ b, b ≠ X.env.locals → b ∉ X.fs → b ∉ frs X.stack := fun b h1 h2 hb => (List.mem_cons.mp (I2.stkSub b hb)).elim h1 h2
  have fpY : ∀ {H' : Hp} {pl : List (Addr × Obj)}, (∀ b ∈ fp, H' b = none) → (∀ p ∈ pl, p.1 = s2.heap.objs.size) → ∀ b ∈ fp, FpOk Y pl H' b := fun {H' pl} hn hpl b hb => by
    refine ⟨hn b hb, ?_, ?_, .inl ?_, fun x c e => ?_, fun p hp => ?_⟩
    · rw [yl]; exact Nat.ne_of_lt (Nat.lt_succ_of_lt (fpLt b hb))
    · rw [yfs]; exact stkNe b (f2 b hb).2.1 (f2 b hb).2.2.1
    · rw [yex]; exact List.mem_cons_of_mem _ hb
    · rw [ycl] at e; exact (f2 b hb).2.2.2.2.1 x c (hcl1 x c e)
    · rcases List.mem_append.mp hp with hp | hp
      · rw [ypn] at hp; exact (f2 b hb).2.2.2.2.2 p hp
      · rw [hpl p hp]; exact Nat.ne_of_gt (fpLt b hb)
  have loop : ∀ s₃ : Shared, s₃ = { s2 with heap := h₁, toks := s2.toks + ([] : List (Str × Value)).length } →
      codeAny (model X.prog X.w) X.A (.compLoop (.ListComp elt [⟨tg, iter, ifs, 0⟩] scope pos) 0 (.ref it) (.ref s2.heap.objs.size) (compEnvC scope cl (s2.heap.objs.size + 1) X.env)) (RR (.ref s2.heap.objs.size) (s2.heap.objs.size + 1)) s₃ := by
    rintro s₃ rfl
    refine comp_loop (fun n s' => ∃ i ys its H' c, Inv Y [(s2.heap.objs.size, { cls := .type "list", data := .seq (List.toArray its) c })] (List.replicate k none ++ capS σ cap) H' s' ∧ tn i s'.heap ∧ (∀ b ∈ fp, H' b = none) ∧ Vals ys its ∧ W i n ys H') ?_ m0
      ⟨0, [], [], H2, _, IY, T.keep _ _ _ st2 fun b hb o e => hsb b o (Heap.get?_push_of_some _ e), fun b hb => (f2 b hb).1, .nil, w0⟩
    rintro n s3 ⟨i, ys, its, H3, c3, I3, st3, fr3, rv3, w3⟩
    have onlyD : ∀ p ∈ [(s2.heap.objs.size, ({ cls := .type "list", data := .seq its.toArray c3 } : Obj))], p.1 = s2.heap.objs.size := fun p hp => by
      have : p = (s2.heap.objs.size, { cls := .type "list", data := .seq its.toArray c3 }) := by simpa using hp
      rw [this]
    have pinD : ∀ {pl : List (Addr × Obj)} {σ' : St} {H' : Hp} {s' : Shared}, Inv Y ([(s2.heap.objs.size, ({ cls := .type "list", data := .seq its.toArray c3 } : Obj))] ++ pl) σ' H' s' → s'.heap.get? s2.heap.objs.size = some { cls := .type "list", data := .seq its.toArray c3 } ∧ H' s2.heap.objs.size = none := fun I' => by
      obtain ⟨e, n, _⟩ := I'.pin (s2.heap.objs.size, { cls := .type "list", data := .seq its.toArray c3 }) (List.mem_append_right _ (List.mem_append_left _ (by simp)))
      exact ⟨e, n⟩
    rcases turn i n ys H3 w3 with ⟨stop, hz, qn⟩ | ⟨go, Nx, hNx, step⟩
    · have hd := T.done Y yp yw yK yc i _ s3 _ H3 (fun _ _ => False) I3 (fpY fr3 onlyD) st3 stop
      rw [yA] at hd
      refine thn hd fun r s4 hm0 => ?_
      obtain ⟨hr, I4⟩ := hm0
      subst hr
      obtain ⟨eD, nD⟩ := pinD (pl := []) (by simpa using I4)
      have nC : H3 (s2.heap.objs.size + 1) = none := by have := I4.free; rw [yl] at this; exact this
      obtain ⟨mC, nsC, _⟩ := I4.loc
      rw [yl] at nsC
      have U := I4.base
      rw [yfs, yex, yH, ys0] at U
      have old : ∀ {b o}, s2.heap.get? b = some o → b < s2.heap.objs.size := fun e => Heap.lt_size e
      have Un2 : Un (frs X.stack) (s2.heap.objs.size :: fp) H2 (upd H3 s2.heap.objs.size (.lst ys)) s2.heap s4.heap :=
        ⟨fun b o e n hb hx => U.keep b o (Heap.get?_push_of_some _ e) n hb hx, fun b o e n hb hx => U.slot b o (Heap.get?_push_of_some _ e) n hb hx,
          fun b o e n hx => by rw [upd_ne (Nat.ne_of_lt (old e))]; exact U.free b o (Heap.get?_push_of_some _ e) n hx, fun b o e hx => U.there b o (Heap.get?_push_of_some _ e) hx,
          fun b xs e => by have q := U.tups b xs e; rw [upd_ne (ne_of_none q nD)]; exact q, fun b o u e => by have q := U.frzs b o u e; rw [upd_ne (ne_of_none q nD)]; exact q,
          fun b ps e => by obtain ⟨mo, q⟩ := U.tbls b ps e; exact ⟨mo, by rw [upd_ne (ne_of_none q nD)]; exact q⟩⟩
      have hok4 := I4.hok
      rw [yp, yw] at hok4
      have IX : Inv X pins σ (upd H3 s2.heap.objs.size (.lst ys)) s4 := by
        refine I2.call' (ch := s2.heap.objs.size :: fp) ?_ Un2 (hok4.adopt nD ⟨hz, its, c3, rv3, eD⟩) I4.bare fun b hb => ?_
        · have := I4.os; rw [ys0] at this; exact this
        · rcases List.mem_cons.mp hb with rfl | hb
          · exact ⟨.inr I2.sz, Nat.ne_of_gt I2.lt, fun x c e => Nat.ne_of_lt (cellLt x c e), fun p hp => Nat.ne_of_lt (pinLt p hp)⟩
          · exact ⟨(f2 b hb).2.2.2.1, (f2 b hb).2.1, (f2 b hb).2.2.2.2.1, (f2 b hb).2.2.2.2.2⟩
      refine hRR _ _ s4 _ IX ⟨⟨mC, nsC⟩, ?_, ?_, Nat.le_succ_of_le I2.sz, fun x c e => Nat.ne_of_lt (Nat.lt_succ_of_lt (cellLt x c e)), fun p hp => Nat.ne_of_lt (Nat.lt_succ_of_lt (pinLt p hp))⟩ (qn _ nD)
      · rw [upd_ne (Nat.succ_ne_self _)]; exact nC
      · exact Nat.ne_of_gt (Nat.lt_succ_of_lt I2.lt)
    · have hd := T.item Y yp yw yK yc i _ s3 _ H3 (fun _ _ => False) I3 (fpY fr3 onlyD) st3 go
      rw [yA] at hd
      refine thn hd fun r s4 hm0 => ?_
      obtain ⟨u, hr, h4⟩ := hm0
      subst hr
      refine thn h4 fun _ s5 hm0 => ?_
      obtain ⟨x, H5, I5, r5, y5, st5, fr5⟩ := hm0
      have I5' := I5.pinned (fpY fr5 onlyD) (T.obj _ _ st5)
      have a5 := gT _ s5 _ H5 x u _ I5' (by simp) r5 (step x H5 y5)
      rw [yp, yw, yA, yxe, yenv] at a5
      refine thn a5 fun _ s6 hm0 => ?_
      obtain ⟨ws, hlw, q6, I6⟩ := hm0
      have dr : (List.replicate k (none : Option V) ++ capS σ cap).drop k = capS σ cap := by
        rw [List.drop_append_of_le_length (by simp)]; simp
      rw [dr] at I6
      have a6 := gC _ s6 _ H5 _ I6 q6
      rw [yp, yw, yA, yxe, yenv] at a6
      refine thn a6 fun ok s7 hm0 => ?_
      obtain ⟨H7, I7, q7⟩ := hm0
      have wk : ∀ (j : Nat) v, (List.replicate k (none : Option V) ++ capS σ cap)[j]? = some (some v) → (ws.map some ++ capS σ cap)[j]? = some (some v) := fun j v e => by
        have hik : k ≤ j := by
          refine Nat.le_of_not_lt fun hlt => ?_
          rw [List.getElem?_append_left (by simpa using hlt), List.getElem?_replicate] at e
          split at e <;> cases e
        rw [List.getElem?_append_right (by simpa using hik), List.length_replicate] at e
        rw [List.getElem?_append_right (by simpa [hlw] using hik), List.length_map, hlw]
        exact e
      have wl : (List.replicate k (none : Option V) ++ capS σ cap).length = (ws.map some ++ capS σ cap).length := by simp [hlw]
      have stn : ∀ {H' : Hp} {s' : Shared}, Inv Y ([(s2.heap.objs.size, ({ cls := .type "list", data := .seq its.toArray c3 } : Obj))] ++ pinsAt fp s5.heap) (ws.map some ++ capS σ cap) H' s' → tn (i + 1) s'.heap ∧ ∀ b ∈ fp, H' b = none := fun {H' s'} I' => by
        refine ⟨T.keep _ _ _ st5 fun b hb o e => (I'.pin (b, o) (List.mem_append_right _ (List.mem_append_right _ (mem_pinsAt hb e)))).1, fun b hb => ?_⟩
        obtain ⟨o, e, d⟩ := T.obj _ _ st5 b hb
        exact (I'.pin (b, o) (List.mem_append_right _ (List.mem_append_right _ (mem_pinsAt hb e)))).2.1
      cases ok with
      | false =>
        obtain ⟨_, m', hm, w'⟩ := hNx _ _ q7
        obtain ⟨t7, f7⟩ := stn I7
        exact ⟨m', hm, i + 1, ys, its, H7, c3, (I7.weak wl wk).unpinned, t7, f7, rv3, w'⟩
      | true =>
        have a7 := gE _ s7 _ H7 _ I7 q7
        rw [yp, yw, yA, yxe, yenv] at a7
        rw [if_pos rfl]
        refine thn a7 fun yv s8 hm0 => ?_
        obtain ⟨y, H8, I8, r8, q8⟩ := hm0
        obtain ⟨hz8, m', hm, w'⟩ := hNx _ _ q8
        rw [List.length_append, List.length_singleton] at hz8
        obtain ⟨eD, nD⟩ := pinD I8
        obtain ⟨t8, f8⟩ := stn I8
        refine wpAny_list_append_plain (hsz := by rw [List.size_toArray, ← rv3.length]; omega) ⟨c3, eD⟩ fun h9 pl9 sb9 => ?_
        obtain ⟨c9, e9⟩ := pl9
        have I8' : Inv Y [] (List.replicate k none ++ capS σ cap) H8 s8 := (I8.weak wl wk).pins_of fun p hp => by cases hp
        have I9 : Inv Y [] (List.replicate k none ++ capS σ cap) H8 { s8 with heap := h9 } :=
          I8'.turned (t' := s8.toks) (it := s2.heap.objs.size) (fun b o hb e => sb9.extBut b o hb e) nD (by rw [yl]; exact Nat.ne_of_lt (Nat.lt_succ_self _)) (.inl (by rw [yex]; exact List.mem_cons_self)) (fun x c e => by rw [ycl] at e; exact Nat.ne_of_lt (cellLt x c (hcl1 x c e)))
            fun p hp => by
              rw [List.append_nil, ypn] at hp
              exact Nat.ne_of_lt (pinLt p hp)
        have e9' : h9.get? s2.heap.objs.size = some { cls := .type "list", data := .seq (its ++ [yv]).toArray c9 } := by rw [e9]; simp
        refine ⟨m', hm, i + 1, ys ++ [y], its ++ [yv], H8, c9, I9.pins_of fun p hp => ?_, T.keep _ _ _ t8 fun b hb o e => sb9.extBut b o (Nat.ne_of_lt (fpLt b hb)) e, f8, rv3.append (.cons r8 .nil), w'⟩
        have : p = (s2.heap.objs.size, { cls := .type "list", data := .seq (its ++ [yv]).toArray c9 }) := by simpa using hp
        subst this
        refine ⟨e9', nD, ?_, ?_, fun v z => by cases z⟩
        · rw [yl]; exact Nat.ne_of_lt (Nat.lt_succ_self _)
        · rw [yfs]; exact stkNe _ (Nat.ne_of_gt I2.lt) (I2.nofs (Nat.le_refl _))
  exact codeAny_compStart_list (loop _ rfl) (T.self _ 0 _ _ _ (T.keep _ _ _ st2 fun b hb o e => hsb b o (Heap.get?_push_of_some _ e)) (loop _ rfl))
section
variable {X : Cx} {elt tg iter : Expr} {ifs : List Expr} {scope : Scope} {pos : Pos} {N : List Str} {k : Nat} {cap : List Nat} {wi : TI} {tt : TTg} {tc : TT} {te : TE}
theorem pe_comp (hc : X.calm = true) (S : CompOk scope X.env.scope N X.N k cap) (hi : PI X tg iter wi) (hg : ∀ cl C s H ex pn, PTg (compCx X scope N cl C s H ex pn) k tg tt) (ht : ∀ cl C s H ex pn, PTs (compCx X scope N cl C s H ex pn) ifs tc)
    (he : ∀ cl C s H ex pn, PE (compCx X scope N cl C s H ex pn) elt te) (hs : ∀ x, foldedSetIterable iter X.env x = pure x := by intro _; rfl) :
    PE X (.ListComp elt [⟨tg, iter, ifs, 0⟩] scope pos) (tComp wi tt tc te cap) := by
  intro pins s σ H Q I h
  obtain ⟨cl, hclos, hcl1, hcl2⟩ := clos_of (scope := scope) (env := X.env) fun y hy hf => I.ok.has y.1 (S.free y hy hf)
  rw [eval_ListComp]
  refine wpAny_comprehension_free (use := none) rfl hs hclos S.kind S.loc ?_
  refine comp_core hc hi hg ht he S hcl1 hcl2 I h fun D C s1 H' I1 B q => ?_
  obtain ⟨m, hm⟩ := B.ns
  exact ⟨m, hm, fun h' sb => ⟨.ref D, H', B.turn I1 sb, rfl, q⟩⟩
theorem ps_setC {i : Nat} {y : Str} {py spos : Pos} (hc : X.calm = true) (S : CompOk scope X.env.scope N X.N k cap) (hN : X.N.Nodup) (hiy : X.N[i]? = some y) (hy : X.env.scope.names.lookup y = some .local) (hi : PI X tg iter wi)
    (hg : ∀ cl C s H ex pn, PTg (compCx X scope N cl C s H ex pn) k tg tt) (ht : ∀ cl C s H ex pn, PTs (compCx X scope N cl C s H ex pn) ifs tc)
    (he : ∀ cl C s H ex pn, PE (compCx X scope N cl C s H ex pn) elt te)
    (hsw : swapsWith (.ListComp elt [⟨tg, iter, ifs, 0⟩] scope pos) (some (.Name y py)) spos.line X.env = pure true := by rfl) (hs : ∀ x, foldedSetIterable iter X.env x = pure x := by intro _; rfl) :
    PS X (.Assign [.Name y py] (.ListComp elt [⟨tg, iter, ifs, 0⟩] scope pos) spos) (tAsg (tComp wi tt tc te cap) (gName i)) := by
  intro pins s σ H D I h
  obtain ⟨cl, hclos, hcl1, hcl2⟩ := clos_of (scope := scope) (env := X.env) fun y hy hf => I.ok.has y.1 (S.free y hy hf)
  rw [exec_Assign_Name_used _ _ _ _ hsw]
  refine wpAny_bind (wpAny_standAt (wpAny_bind ?_))
  show wpAny _ X.A (do let _ ← comprehension (.ListComp elt [⟨tg, iter, ifs, 0⟩] scope pos) scope X.env _ (newList []) false (eval iter X.env) (some (assign (.Name y py) X.env))) _ _ s
  refine wpAny_bind (wpAny_mono (wpAny_comprehension_free (use := some (assign (.Name y py) X.env)) (Q := fun _ s' => SP X pins D .next s') rfl hs hclos S.kind S.loc ?_) (fun _ s' hq => wpAny_pure (wpAny_pure hq)) fun _ _ e => e)
  refine comp_core hc hi hg ht he S hcl1 hcl2 I h fun Da C s1 H' I1 B q => ?_
  show wpAny _ X.A (assign (.Name y py) X.env (.ref Da)) _ _ _
  refine wpAny_assign_Name (store_ok2 (v := .ref Da) I1 hN hiy (.inl hy) rfl (fun s' I' z => ?_) (.inr hy))
  obtain ⟨a, hsb, ha⟩ := z
  have hCa : C ≠ a := by
    rcases ha with rfl | ha
    · exact B.ne
    · exact fun e => B.cells _ _ ha e.symm
  obtain ⟨m, hm⟩ := B.ns
  refine ⟨m, hm.sameBut hsb hCa, fun h' sb => ?_⟩
  exact ⟨_, H', I'.turned (t' := s'.toks) (fun b o hb e => sb.extBut b o hb e) B.un B.ne (.inr B.new) B.cells B.pins, q⟩
end
end L2
set_option Elab.async false
set_option linter.all false
set_option maxRecDepth 100000
set_option maxHeartbeats 1000000
namespace L2
open PySem PySem.Spec PyProof.Rows
abbrev Rel (α : Type) := Hp → α → V → Prop
def rInt : Rel Int := fun _ i v => v = .int i
def rBool : Rel Bool := fun _ b v => v = .bl b
def rLst {α : Type} (R : Rel α) : Rel (List α) := fun H xs v => ∃ a vs, v = .ref a ∧ H a = some (.lst vs) ∧ Paired (R H) xs vs
def rT3 {α β γ : Type} (R : Rel α) (S : Rel β) (T : Rel γ) : Rel (α × β × γ) := fun H p v => ∃ a x y z, v = .ref a ∧ H a = some (.tup [x, y, z]) ∧ R H p.1 x ∧ S H p.2.1 y ∧ T H p.2.2 z
structure MonoR {α : Type} (R : Rel α) : Prop where
  go : ∀ (H H' : Hp) (x : α) (v : V), Same H H' → R H x v → R H' x v
theorem MonoR.up {α : Type} {R : Rel α} (m : MonoR R) {H H' : Hp} {x : α} {v : V} (s : Same H H') (h : R H x v) : R H' x v := m.go H H' x v s h
theorem mono_int : MonoR rInt := ⟨fun _ _ _ _ _ h => h⟩
theorem paired_mono {α : Type} {R : Rel α} (m : MonoR R) {H H' : Hp} (s : Same H H') {xs : List α} {vs : List V} (p : Paired (R H) xs vs) : Paired (R H') xs vs := Paired.mapP p fun _ _ q => m.up s q
theorem mono_lst {α : Type} {R : Rel α} (m : MonoR R) : MonoR (rLst R) := ⟨fun H H' x v s h => by
  obtain ⟨a, vs, e, h1, p⟩ := h
  exact ⟨a, vs, e, s _ _ h1, paired_mono m s p⟩⟩
theorem mono_t3 {α β γ : Type} {R : Rel α} {S : Rel β} {T : Rel γ} (m : MonoR R) (n : MonoR S) (o : MonoR T) : MonoR (rT3 R S T) := ⟨fun H H' x v s h => by
  obtain ⟨a, x, y, z, e, h1, p, q, r⟩ := h
  exact ⟨a, x, y, z, e, s _ _ h1, m.up s p, n.up s q, o.up s r⟩⟩
theorem paired_map {α β : Type} {F : α → β → Prop} {f : α → β} (h : ∀ a, F a (f a)) : ∀ xs : List α, Paired F xs (xs.map f)
  | [] => .nil
  | a :: r => .cons (h a) (paired_map h r)
theorem paired_ints {H : Hp} : ∀ {xs : List Int} {vs : List V}, Paired (rInt H) xs vs → vs = xs.map V.int
  | _, _, .nil => rfl
  | _, _, .cons h t => by rw [List.map_cons, ← paired_ints t]; exact congrArg (· :: _) h
theorem ints_paired {H : Hp} (xs : List Int) : Paired (rInt H) xs (xs.map V.int) := paired_map (F := rInt H) (f := V.int) (fun _ => rfl) xs
theorem rLst_ints {H : Hp} {xs : List Int} {v : V} : rLst rInt H xs v ↔ ∃ a, v = .ref a ∧ H a = some (.lst (xs.map V.int)) := by
  constructor
  · rintro ⟨a, vs, rfl, h, p⟩
    rw [paired_ints p] at h
    exact ⟨a, rfl, h⟩
  · rintro ⟨a, rfl, h⟩
    exact ⟨a, _, rfl, h, ints_paired xs⟩
theorem Paired.at {α β : Type} {F : α → β → Prop} : ∀ {xs : List α} {ys : List β} {i : Nat} {x : α}, Paired F xs ys → xs[i]? = some x → ∃ y, ys[i]? = some y ∧ F x y
  | _, _, _, _, .nil, e => by simp at e
  | _, _, 0, _, .cons r _, e => by simp at e; subst e; exact ⟨_, rfl, r⟩
  | _, _, i + 1, x, .cons _ t, e => by
    obtain ⟨u, h1, h2⟩ := Paired.at (i := i) (x := x) t (by simpa using e)
    exact ⟨u, by simpa using h1, h2⟩
theorem Paired.ta {α β : Type} {F : α → β → Prop} : ∀ {xs : List α} {ys : List β} {i : Nat} {y : β}, Paired F xs ys → ys[i]? = some y → ∃ x, xs[i]? = some x ∧ F x y
  | _, _, _, _, .nil, e => by simp at e
  | _, _, 0, _, .cons r _, e => by simp at e; subst e; exact ⟨_, rfl, r⟩
  | _, _, i + 1, x, .cons _ t, e => by
    obtain ⟨u, h1, h2⟩ := Paired.ta (i := i) (y := x) t (by simpa using e)
    exact ⟨u, by simpa using h1, h2⟩
theorem Paired.app {α β : Type} {F : α → β → Prop} : ∀ {xs xs' : List α} {ys ys' : List β}, Paired F xs ys → Paired F xs' ys' → Paired F (xs ++ xs') (ys ++ ys')
  | _, _, _, _, .nil, s => s
  | _, _, _, _, .cons r t, s => .cons r (Paired.app t s)
structure EqOk {α : Type} (n : Nat) (R : Rel α) : Prop where
  go : ∀ (X : Cx) (pins : List (Addr × Obj)) (σ : St) (H : Hp) (s : Shared) (A : Around) (x : α) (v w : V) (u1 u2 : Value),
    Inv X pins σ H s → A.units + n < cLine → R H x v → R H x w → RelV v u1 → RelV w u2 → SeqAt.EqAt A s u1 u2 true
theorem EqOk.at {α : Type} {n : Nat} {R : Rel α} (h : EqOk n R) {X : Cx} {pins : List (Addr × Obj)} {σ : St} {H : Hp} {s : Shared} {A : Around} {x : α} {v w : V} {u1 u2 : Value} (I : Inv X pins σ H s) (hu : A.units + n < cLine) (h1 : R H x v) (h2 : R H x w) (r1 : RelV v u1) (r2 : RelV w u2) : SeqAt.EqAt A s u1 u2 true :=
  h.go X pins σ H s A x v w u1 u2 I hu h1 h2 r1 r2
structure RcOk {α : Type} (n : Nat) (R : Rel α) : Prop where
  go : ∀ (X : Cx) (pins : List (Addr × Obj)) (σ : St) (H : Hp) (s : Shared) (A : Around) (x : α) (v w : V) (u1 u2 : Value),
    Inv X pins σ H s → A.units + n < cLine → R H x v → R H x w → RelV v u1 → RelV w u2 → SeqAt.RcAt A s u1 u2 true ∧ SeqAt.RcNeAt A s u1 u2 false
theorem RcOk.at {α : Type} {n : Nat} {R : Rel α} (h : RcOk n R) {X : Cx} {pins : List (Addr × Obj)} {σ : St} {H : Hp} {s : Shared} {A : Around} {x : α} {v w : V} {u1 u2 : Value} (I : Inv X pins σ H s) (hu : A.units + n < cLine) (h1 : R H x v) (h2 : R H x w) (r1 : RelV v u1) (r2 : RelV w u2) : SeqAt.RcAt A s u1 u2 true ∧ SeqAt.RcNeAt A s u1 u2 false :=
  h.go X pins σ H s A x v w u1 u2 I hu h1 h2 r1 r2
theorem eqok_bool : EqOk 0 rBool := by
  refine ⟨fun X pins σ H s A x v w u1 u2 I hu h1 h2 r1 r2 => ?_⟩
  have e1 : v = .bl x := h1
  have e2 : w = .bl x := h2
  subst e1; subst e2
  have := eqAt_V (A := A) (s := s) r1 r2 rfl rfl
  simpa [eqV] using this
theorem all_true (n : Nat) : (List.range n).all (fun _ => true) = true := by simp
theorem vals_two {α : Type} {R : Rel α} {H : Hp} {xs : List α} {vs ws : List V} {us1 us2 : List Value} (p1 : Paired (R H) xs vs) (p2 : Paired (R H) xs ws) (r1 : Vals vs us1) (r2 : Vals ws us2) :
    us1.length = us2.length ∧ ∀ (j : Nat) (a b : Value), us1[j]? = some a → us2[j]? = some b → ∃ x v w, R H x v ∧ R H x w ∧ RelV v a ∧ RelV w b := by
  induction p1 generalizing ws us1 us2 with
  | nil =>
    cases p2
    cases r1; cases r2
    exact ⟨rfl, fun j a b e => by simp at e⟩
  | cons h t ih =>
    cases p2 with
    | cons h' t' =>
      cases r1 with
      | cons q1 s1 =>
        cases r2 with
        | cons q2 s2 =>
          obtain ⟨e, f⟩ := ih t' s1 s2
          refine ⟨by simp [e], fun j a b ea eb => ?_⟩
          cases j with
          | zero => simp at ea eb; subst ea; subst eb; exact ⟨_, _, _, h, h', q1, q2⟩
          | succ j => exact f j a b (by simpa using ea) (by simpa using eb)
theorem rcok_lst {α : Type} {n : Nat} {R : Rel α} (h : EqOk n R) : RcOk (n + 1) (rLst R) := by
  refine ⟨fun X pins σ H s A xs v w u1 u2 I hu h1 h2 r1 r2 => ?_⟩
  obtain ⟨a, vs, e1, ha, p1⟩ := h1
  obtain ⟨b, ws, e2, hb, p2⟩ := h2
  subst e1; subst e2
  cases r1; cases r2
  obtain ⟨its, n1, rv1, o1, z1⟩ := I.lst ha
  obtain ⟨its2, n2, rv2, o2, z2⟩ := I.lst hb
  obtain ⟨el, f⟩ := vals_two p1 p2 rv1 rv2
  have hl1 : s.heap.IsList a its.toArray := ⟨_, o1, rfl, n1, rfl⟩
  have hl2 : s.heap.IsList b its2.toArray := ⟨_, o2, rfl, n2, rfl⟩
  have he : ∀ j (h1 : j < its.toArray.size) (h2 : j < its2.toArray.size), SeqAt.EqAt A.in1 s its.toArray[j] its2.toArray[j] ((fun _ => true) j) := fun j h1 h2 => by
    obtain ⟨x, v, w, q1, q2, q3, q4⟩ := f j (its.toArray[j]) (its2.toArray[j]) (by simp) (by simp)
    exact h.at I (by show A.units + 1 + n < cLine; omega) q1 q2 q3 q4
  have A1 := SeqAt.RcAt.lists hl1 hl2 (by simpa using el) (by omega) he
  have A2 := SeqAt.RcNeAt.lists hl1 hl2 (by simpa using el) (by omega) he
  rw [all_true] at A1 A2
  exact ⟨A1, A2⟩
section
variable {X : Cx}
theorem op_neR {α : Type} {n : Nat} {R : Rel α} (ok : RcOk n R) (hu : X.A.units + n < cLine) : OpR X (compareOp .NotEq) (fun v w H Q => ∃ x, R H x v ∧ R H x w ∧ Q (.bl false) H) := by
  intro pins s σ H v w u1 u2 Q I r1 r2 h
  obtain ⟨x, h1, h2, q⟩ := h
  exact (ok.at I hu h1 h2 r1 r2).2 _ _ _ _ ⟨.bl false, H, I, rfl, q⟩
def kindV (H : Hp) : V → String → Prop
  | .non, T => T = "NoneType"
  | .bl _, T => T = "bool"
  | .int _, T => T = "int"
  | .str _, T => T = "str"
  | .ref a, T => (T = "list" ∧ ((∃ xs, H a = some (.lst xs)) ∨ ∃ o xs, H a = some (.frz o (.lst xs)))) ∨ (T = "tuple" ∧ ∃ xs, H a = some (.tup xs)) ∨ (T = "dict" ∧ ∃ kvs, H a = some (.dK kvs))
  | _, _ => False
theorem kindV.ty {K : PySem.W.Frag} {H : Hp} {x : V} {T : String} (h : kindV H x T) : TyOf K H x (.type T) := by
  cases x with
  | non => cases (show T = "NoneType" from h); exact .non
  | bl b => cases (show T = "bool" from h); exact .bl b
  | int i => cases (show T = "int" from h); exact .int i
  | str z => cases (show T = "str" from h); exact .str z
  | ref a =>
    rcases h with ⟨rfl, ⟨xs, e⟩ | ⟨o, xs, e⟩⟩ | ⟨rfl, xs, e⟩ | ⟨rfl, kvs, e⟩
    · exact .lst e
    · exact .frz e
    · exact .tup e
    · exact .dK e
  | _ => exact False.elim h
theorem call_isi {T : String} : CallR X (.builtin "isinstance") (fun xs H Q => ∃ x S b, xs = [x, .ty T] ∧ kindV H x S ∧ PySem.W.kitOne X.K (.type S) (.type T) = some b ∧ Q (.bl b) H) := by
  intro pins s σ H xs us Q I r h
  obtain ⟨x, S, b, rfl, hk, e, q⟩ := h
  obtain ⟨u, c, rfl, ru, rc⟩ := r.two
  cases (show c = Value.type T from rc)
  exact isinst_ok I ru hk.ty e fun tk => ⟨.bl b, H, I.tok _, rfl, q⟩
theorem isi_same {K : PySem.W.Frag} (T : String) : PySem.W.kitOne K (.type T) (.type T) = some true := by
  unfold PySem.W.kitOne
  rw [if_pos (by simp)]
theorem isi_int_bool {K : PySem.W.Frag} : PySem.W.kitOne K (.type "int") (.type "bool") = some false := rfl
end
end L2
set_option Elab.async false
set_option linter.all false
set_option maxRecDepth 100000
set_option maxHeartbeats 1000000
namespace L2
open PySem PySem.Spec PyProof.Rows
def compOkB (scope psc : Scope) (N PN : List Str) (k : Nat) (cap : List Nat) : Bool :=
  (scope.kind == .function) && (N.length == k + cap.length) &&
  (scope.names.all fun y => (y.2 != .cell) && (y.2 != .local || scope.names.lookup y.1 == some .local) &&
    (y.2 != .free || (scope.names.lookup y.1 == some .free && (psc.names.lookup y.1 == some .cell || psc.names.lookup y.1 == some .free)))) &&
  ((List.range cap.length).all fun j => match N[k + j]?, cap[j]? with
    | some x, some i => PN[i]? == some x && scope.names.lookup x == some .free
    | _, _ => false)
theorem compOk_of {scope psc : Scope} {N PN : List Str} {k : Nat} {cap : List Nat} (h : compOkB scope psc N PN k cap = true) : CompOk scope psc N PN k cap := by
  unfold compOkB at h
  simp only [Bool.and_eq_true] at h
  obtain ⟨⟨⟨h1, h2⟩, h3⟩, h4⟩ := h
  rw [List.all_eq_true] at h3 h4
  have q : ∀ y ∈ scope.names, y.2 ≠ .cell ∧ (y.2 = .local → scope.names.lookup y.1 = some .local) ∧ (y.2 = .free → scope.names.lookup y.1 = some .free ∧ (psc.names.lookup y.1 = some .cell ∨ psc.names.lookup y.1 = some .free)) := fun y hy => by
    have := h3 y hy
    simp only [Bool.and_eq_true, Bool.or_eq_true, bne_iff_ne, beq_iff_eq] at this
    obtain ⟨⟨a, b⟩, c⟩ := this
    exact ⟨a, fun e => b.elim (fun z => absurd e z) id, fun e => c.elim (fun z => absurd e z) id⟩
  refine ⟨by simpa using h1, by simpa using h2, fun y hy => (q y hy).1, fun y hy => (q y hy).2.1, fun y hy e => ((q y hy).2.2 e).2, fun j hj => ?_, fun y hy e => ((q y hy).2.2 e).1⟩
  have := h4 j hj
  split at this
  · rename_i x i e1 e2
    simp only [Bool.and_eq_true, beq_iff_eq] at this
    exact ⟨x, i, e1, e2, this.1, this.2⟩
  · cases this
section
variable {X : Cx} {elt tg iter : Expr} {ifs : List Expr} {scope : Scope} {pos : Pos} {wi : TI} {tt : TTg} {tc : TT} {te : TE}
theorem pe_lc (psc : Scope) (PN N : List Str) (k : Nat) (cap : List Nat) (hi : PI X tg iter wi) (hg : ∀ cl C s H ex pn, PTg (compCx X scope N cl C s H ex pn) k tg tt) (ht : ∀ cl C s H ex pn, PTs (compCx X scope N cl C s H ex pn) ifs tc)
    (he : ∀ cl C s H ex pn, PE (compCx X scope N cl C s H ex pn) elt te) (hc : X.calm = true := by rfl) (h1 : X.env.scope = psc := by rfl) (h2 : X.N = PN := by rfl) (S : compOkB scope psc N PN k cap = true := by decide +kernel)
    (hs : ∀ x, foldedSetIterable iter X.env x = pure x := by intro _; rfl) :
    PE X (.ListComp elt [⟨tg, iter, ifs, 0⟩] scope pos) (tComp wi tt tc te cap) := pe_comp hc (by rw [h1, h2]; exact compOk_of S) hi hg ht he hs
theorem ps_lc {i : Nat} {y : Str} {py spos : Pos} (psc : Scope) (PN N : List Str) (k : Nat) (cap : List Nat) (hN : X.N.Nodup) (hiy : X.N[i]? = some y) (hy : X.env.scope.names.lookup y = some .local) (hi : PI X tg iter wi)
    (hg : ∀ cl C s H ex pn, PTg (compCx X scope N cl C s H ex pn) k tg tt) (ht : ∀ cl C s H ex pn, PTs (compCx X scope N cl C s H ex pn) ifs tc)
    (he : ∀ cl C s H ex pn, PE (compCx X scope N cl C s H ex pn) elt te) (hc : X.calm = true := by rfl) (h1 : X.env.scope = psc := by rfl) (h2 : X.N = PN := by rfl) (S : compOkB scope psc N PN k cap = true := by decide +kernel)
    (hsw : swapsWith (.ListComp elt [⟨tg, iter, ifs, 0⟩] scope pos) (some (.Name y py)) spos.line X.env = pure true := by rfl) (hs : ∀ x, foldedSetIterable iter X.env x = pure x := by intro _; rfl) :
    PS X (.Assign [.Name y py] (.ListComp elt [⟨tg, iter, ifs, 0⟩] scope pos) spos) (tAsg (tComp wi tt tc te cap) (gName i)) := ps_setC hc (by rw [h1, h2]; exact compOk_of S) hN hiy hy hi hg ht he hsw hs
end
structure Dn (P : Program) (w : World) (K : PySem.W.Frag) (mg : Str → Option Value) (base : Heap) (x : Str) (n : Nat) (ps : List Str) (sp : Sp) : Prop where
  ex : ∃ f fd, FnOk P w K mg base CX0 n f fd ps sp ∧ mg x = some (.ref f) ∧ PySem.W.keepIn K (.ref f) = true ∧ Binds K fd ps []
structure DefAt (K : PySem.W.Frag) (mg : Str → Option Value) (x : Str) (st : Stmt) (ps : List Str) : Prop where
  ex : ∃ f fd, Fun K x x st f fd ∧ mg x = some (.ref f) ∧ Binds K fd ps []
section
variable {P : Program} {w : World} {K : PySem.W.Frag} {mg : Str → Option Value} {base : Heap}
theorem DefAt.ok {x : Str} {st : Stmt} {N ps : List Str} {k : Nat} {sp : Sp} (F : DefAt K mg x st ps) (S : FnScope N ps (defScope st)) (len : ∀ vs H Q E, sp vs H Q E → vs.length = ps.length)
    (hbody : ∀ (f : Addr) (cdv : Value) (A : Around) (outer : List Env) (s : Shared) (H : Hp) (vs : List V) (Q : VK) (E : XK), Room k (A.deeper (envOfC x (defScope st) s.heap.objs.size f cdv)) → sp vs H Q E →
      ∃ t, PSs (cxOf CX0 P w K mg base N x (defScope st) f cdv A outer s H E).nox (defBody st) t ∧ t { nx := fun _ H' => Q .non H', rt := Q } (start N vs) H) : Dn P w K mg base x (k + 1) ps sp := by
  obtain ⟨f, fd, F, hm, hb⟩ := F.ex
  exact ⟨f, fd, F.ok S len fun cdv A outer s H vs Q E => hbody f cdv A outer s H vs Q E, hm, F.kp, hb⟩
end
theorem pe_dn {X : Cx} {x : Str} {n k : Nat} {ps : List Str} {sp : Sp} {e : Expr} {es : List Expr} {t : TA} {p pos : Pos} (D : Dn X.prog X.w X.K X.mg X.base x n ps sp) (hr : Room k X.A) (ha : PA X (e :: es) t) (hk : n ≤ k := by decide) (hg : Gl X x := by rfl)
    (hdb : (x == ("__debug__" : Str)) = false := by decide) (he : starEach (e :: es) X.env = (false, eval e X.env) :: starEach es X.env := by rfl) (hpl : (backTo pos (starEach es X.env)).any (·.1) = false := by rfl) :
    PE X (.Call (.Name x p) (e :: es) [] pos) (tCall sp [] E0 t) := by
  obtain ⟨f, fd, F, hm, kp, hb⟩ := D.ex
  exact pe_call F (hr.mono hk) hg hm kp hb .nil pass0 ha hdb he hpl
theorem hu_n {A : Around} {k : Nat} (hr : Room k A) (n : Nat) (h : n ≤ 64 := by decide) : A.units + n < cLine := Nat.lt_of_le_of_lt (Nat.add_le_add_left h _) hr.units
def tSeqM (t u : TS) : TS := fun D σ H => ∃ M : St → Hp → Prop, t { D with nx := M } σ H ∧ ∀ σ' H', M σ' H' → u D σ' H'
theorem pss_cut {X : Cx} {st : Stmt} {rest : List Stmt} {t u : TS} (h1 : PS X st t) (h2 : PSs X rest u) : PSs X (st :: rest) (tSeqM t u) := by
  intro pins s σ H D I h
  obtain ⟨M, h, k⟩ := h
  refine wpAny_execs_cons (thn (h1 pins s σ H { D with nx := M } I h) fun f s1 q => ?_)
  cases f with
  | next =>
    obtain ⟨σ', H', I', q⟩ := q
    exact h2 pins s1 σ' H' D I' (k σ' H' q)
  | ret v => exact q
  | brk => exact q
  | cont => exact q
def newp (H H' : Hp) : Hp := fun b => match H b with
  | none => H' b
  | some _ => none
theorem newp_same (H H' : Hp) : Same (newp H H') H' := fun b o e => by
  unfold newp at e
  cases q : H b with
  | none => rw [q] at e; exact e
  | some u => rw [q] at e; cases e
theorem newp_none {H H' : Hp} {b : Addr} {o : HO} (h : H b = some o) : newp H H' b = none := by unfold newp; rw [h]
theorem newp_at {H H' : Hp} {b : Addr} (h : H b = none) : newp H H' b = H' b := by unfold newp; rw [h]
theorem newp_mono {H H1 H' H2 : Hp} (a : Same H H1) (b : Same H' H2) : Same (newp H1 H') (newp H H2) := fun c o e => by
  cases q : H1 c with
  | some u => rw [newp_none q] at e; cases e
  | none =>
    rw [newp_at q] at e
    rw [newp_at (a.free q)]
    exact b c o e
theorem same_upd {H : Hp} {p : Addr} (h : H p = none) (o : HO) : Same H (upd H p o) := fun b u q => by rw [upd_ne (ne_of_none q h)]; exact q
theorem Same.put {Hs H : Hp} {p : Addr} (s : Same Hs H) (h : Hs p = none) (o : HO) : Same Hs (upd H p o) := fun b u q => by
  rw [upd_ne (ne_of_none q h)]; exact s b u q
theorem small {n m : Nat} (h : n ≤ m) (hm : m ≤ 1000000 := by decide) : n ≤ sizeLine := Nat.le_trans h (Nat.le_trans hm (by decide))
theorem atI_ints {ns : List Int} {k : Int} (h0 : 0 ≤ k) (h1 : k < ns.length) : atI (ns.map V.int) k = some (.int (ns.getD k.toNat 0)) := by
  have hk : k.toNat < ns.length := by omega
  have ek : k = ((k.toNat : Nat) : Int) := by omega
  rw [ek]
  refine (atI_nat (v := V.int (ns.getD k.toNat 0)) ?_)
  simp [hk]
theorem comp_yes {x : V} {H : Hp} {f : List V → St} {A B : List V → Hp → Prop} (h : A [x] H) : ttName x H fun ws => tYes (f ws) H fun b H4 => if b = true then A ws H4 else B ws H4 := by
  show if true = true then A [x] H else B [x] H
  rw [if_pos rfl]; exact h
theorem comp_yesT {K : PySem.W.Frag} {n : Nat} {a : Addr} {xs : List V} {H : Hp} {f : List V → St} {A B : List V → Hp → Prop} (hq : SqT K H a xs) (hn : xs.length = n) (h : A xs H) : ttTup K n (.ref a) H fun ws => tYes (f ws) H fun b H4 => if b = true then A ws H4 else B ws H4 := by
  refine ⟨a, xs, rfl, hq, hn, ?_⟩
  show if true = true then A xs H else B xs H
  rw [if_pos rfl]; exact h
end L2
set_option Elab.async false
set_option linter.all false
set_option maxRecDepth 100000
set_option maxHeartbeats 1000000
namespace L2
open PySem PySem.Spec PyProof.Rows
theorem vals_of : ∀ {vs : List Value} {ns : List Int}, IntsAre vs ns → Vals (ns.map V.int) vs
  | _, _, .nil => .nil
  | _, _, .cons _ t r => .cons ⟨t, rfl⟩ (vals_of r)
section
variable {prog : Program} {w : World} {A : Around} {E : Value → Shared → Prop} {s : Shared} {T : String} {r d : Addr} {n : Nat} {P : Nat → Value → Prop} {OK : Heap → Prop} {Q : Value → Shared → Prop}
end
section
variable {X : Cx}
theorem call_maxL (hc : X.calm = true) : CallR X (.builtin "max") (fun xs H Q => ∃ (a : Addr) (ks : List Int), xs = [.ref a] ∧ SqL X.K H a (ks.map V.int) ∧ ks ≠ [] ∧ ∀ M, M ∈ ks → (∀ k ∈ ks, k ≤ M) → Q (.int M) H) := by
  intro pins s σ H xs us Q I r h
  obtain ⟨a, ks, rfl, ha, hne, q⟩ := h
  obtain ⟨u, rfl, ru⟩ := vals1 r
  cases ru
  obtain ⟨its, rv, pl, hz⟩ := I.list ha
  have hi : IntsAre its ks := intsAre_of rv
  obtain ⟨xs, e⟩ := hi.allInts.items
  have hns : ks = xs.toList.map (·.1) := by rw [← hi.numsOf, ← nums_intItems, ← e]
  have hsz : 0 < xs.size := by
    have h3 : 0 < ks.length := List.length_pos_iff.mpr hne
    rw [hns, List.length_map, Array.length_toList] at h3; exact h3
  have hl := pl.isList
  rw [e] at hl
  refine max_intList (I.ok.hd hc) hl hsz fun v h' tk hv hk => ?_
  obtain ⟨t, rfl⟩ := intItems_at hv
  obtain ⟨h1, h2⟩ := argBest_gt (numAt xs) (xs.size - 1)
  refine ⟨.int _, H, I.kept (t' := tk) hk, ⟨t, rfl⟩, q _ ?_ fun k hk => ?_⟩
  · rw [hns, numAt_eq]; exact PySem.getD_mem (by rw [List.length_map, Array.length_toList]; (clear hc hne q hz hk h2; omega))
  · rw [hns] at hk
    obtain ⟨j, hj, rfl⟩ := PySem.mem_getD hk
    rw [List.length_map, Array.length_toList] at hj
    rw [← numAt_eq]; exact h2 j (by (clear hc hne q hz hsz h1 h2; omega))
end
end L2
set_option Elab.async false
set_option linter.all false
set_option maxRecDepth 100000
set_option maxHeartbeats 1000000
namespace L2
open PySem PySem.Spec PyProof.Rows
def Ris (xs : List Nat) : Prop := xs.Pairwise (· < ·)
theorem Ris.lt {xs : List Nat} (h : Ris xs) {i j a b : Nat} (hij : i < j) (ha : xs[i]? = some a) (hb : xs[j]? = some b) : a < b := by
  obtain ⟨h1, e1⟩ := List.getElem?_eq_some_iff.mp ha
  obtain ⟨h2, e2⟩ := List.getElem?_eq_some_iff.mp hb
  have := List.pairwise_iff_getElem.mp h i j h1 h2 hij
  rw [e1, e2] at this; exact this
theorem below_go (xs : Array Nat) (hr : Ris xs.toList) (j : Nat) : ∀ (fuel lo hi : Nat), hi - lo ≤ fuel → lo ≤ hi → hi ≤ xs.size → (∀ (i v : Nat), i < lo → xs.toList[i]? = some v → v < j) → (∀ (i v : Nat), hi ≤ i → xs.toList[i]? = some v → j ≤ v) →
    SetTable.below.go xs j fuel lo hi ≤ xs.size ∧ (∀ (i v : Nat), i < SetTable.below.go xs j fuel lo hi → xs.toList[i]? = some v → v < j) ∧ ∀ (i v : Nat), SetTable.below.go xs j fuel lo hi ≤ i → xs.toList[i]? = some v → j ≤ v
  | 0, lo, hi, h1, h2, h3, h4, h5 => by
    have e : lo = hi := by omega
    subst e
    exact ⟨h3, h4, h5⟩
  | fuel + 1, lo, hi, h1, h2, h3, h4, h5 => by
    rw [SetTable.below.go]
    by_cases hl : lo < hi
    · rw [if_pos hl]
      have hm : (lo + hi) / 2 < xs.size := by (clear h1 h2 h4 h5; omega)
      have hg : xs.toList[(lo + hi) / 2]? = some (xs.getD ((lo + hi) / 2) j) := by
        rw [Array.getElem?_toList, Array.getElem?_eq_getElem hm]
        simp [Array.getD, hm]
      dsimp only
      by_cases hc : xs.getD ((lo + hi) / 2) j < j
      · rw [if_pos hc]
        refine below_go xs hr j fuel _ _ (by (clear h5 hl hm hc h3 h4 h2; omega)) (by (clear h1 h2 h3 h4 hm hc h5; omega)) h3 (fun i v hi' hv => ?_) h5
        by_cases e : i = (lo + hi) / 2
        · subst e; rw [hg] at hv; cases hv; exact hc
        · exact Nat.lt_trans (hr.lt (by (clear h1 h2 h3 h4 h5 hl hm hc; omega)) hv hg) hc
      · rw [if_neg hc]
        refine below_go xs hr j fuel _ _ (by (clear h5 hl hm hc h3 h4 h2; omega)) (by (clear h1 h2 h3 h4 hm hc h5; omega)) (by (clear h1 h2 h3 h4 h5 hl hc; omega)) h4 (fun i v hi' hv => ?_)
        by_cases e : i = (lo + hi) / 2
        · subst e; rw [hg] at hv; cases hv; (clear h1 h2 h3 h4 h5 hi' hl hm; omega)
        · have := hr.lt (by (clear h1 h2 h3 h4 h5 hl hm hc; omega) : (lo + hi) / 2 < i) hg hv; (clear h1 h2 h3 h4 h5 hl hi' e hm; omega)
    · rw [if_neg hl]
      have e : lo = hi := by (clear h3 h4 h1 h5; omega)
      subst e
      exact ⟨h3, h4, h5⟩
theorem below_spec (xs : Array Nat) (hr : Ris xs.toList) (j : Nat) : SetTable.below xs j ≤ xs.size ∧ (∀ (i v : Nat), i < SetTable.below xs j → xs.toList[i]? = some v → v < j) ∧ ∀ (i v : Nat), SetTable.below xs j ≤ i → xs.toList[i]? = some v → j ≤ v :=
  below_go xs hr j xs.size 0 xs.size (by omega) (Nat.zero_le _) (Nat.le_refl _) (fun i v h => by omega) (fun i v h e => by
    have := (List.getElem?_eq_some_iff.mp e).1
    rw [Array.length_toList] at this; omega)
theorem below_at {xs : Array Nat} (hr : Ris xs.toList) {k v : Nat} (h : xs.toList[k]? = some v) : SetTable.below xs (v + 1) = k + 1 := by
  obtain ⟨h1, h2, h3⟩ := below_spec xs hr (v + 1)
  have hk := (List.getElem?_eq_some_iff.mp h).1
  rw [Array.length_toList] at hk
  rcases Nat.lt_trichotomy (SetTable.below xs (v + 1)) (k + 1) with hlt | he | hgt
  · have := h3 k v (by omega) h; omega
  · exact he
  · have hk1 : k + 1 < xs.size := by omega
    obtain ⟨u, hu⟩ : ∃ u, xs.toList[k + 1]? = some u := ⟨xs[k + 1], by rw [Array.getElem?_toList, Array.getElem?_eq_getElem hk1]⟩
    have a := h2 (k + 1) u hgt hu
    have b := hr.lt (Nat.lt_succ_self k) h hu
    (clear h1 h2 h3 hk hgt hk1; omega)
theorem below_zero {xs : Array Nat} (hr : Ris xs.toList) : SetTable.below xs 0 = 0 := by
  obtain ⟨h1, h2, _⟩ := below_spec xs hr 0
  cases e : SetTable.below xs 0 with
  | zero => rfl
  | succ k =>
    have hk : 0 < xs.size := by omega
    have := h2 0 xs[0] (by omega) (by rw [Array.getElem?_toList, Array.getElem?_eq_getElem hk])
    omega
theorem ris_insert {xs : Array Nat} (hr : Ris xs.toList) {j : Nat} (hn : xs[SetTable.below xs j]? ≠ some j) : Ris (SetTable.insertAt xs (SetTable.below xs j) j).toList := by
  obtain ⟨h1, h2, h3⟩ := below_spec xs hr j
  rw [SetTable.toList_insertAt]
  have hlt : ∀ a ∈ xs.toList.take (SetTable.below xs j), a < j := fun a ha => by
    obtain ⟨i, hi⟩ := List.getElem?_of_mem ha
    have hi' : i < SetTable.below xs j := by
      have := (List.getElem?_eq_some_iff.mp hi).1
      rw [List.length_take] at this; omega
    rw [List.getElem?_take_of_lt hi'] at hi
    exact h2 i a hi' hi
  have hgt : ∀ b ∈ xs.toList.drop (SetTable.below xs j), j < b := fun b hb => by
    obtain ⟨i, hi⟩ := List.getElem?_of_mem hb
    rw [List.getElem?_drop] at hi
    have hle := h3 _ b (Nat.le_add_right _ i) hi
    rcases Nat.lt_or_eq_of_le hle with z | z
    · exact z
    · subst z
      exfalso
      cases i with
      | zero => rw [Nat.add_zero, Array.getElem?_toList] at hi; exact hn hi
      | succ i =>
        obtain ⟨u, hu⟩ : ∃ u, xs.toList[SetTable.below xs j]? = some u := by
          have hs := (List.getElem?_eq_some_iff.mp hi).1
          have : SetTable.below xs j < xs.toList.length := by (clear hn h1 h2 h3 hlt hle; omega)
          exact ⟨xs.toList[SetTable.below xs j], by simp⟩
        have a := h3 _ u (Nat.le_refl _) hu
        have b := hr.lt (by omega : SetTable.below xs j < SetTable.below xs j + (i + 1)) hu hi
        omega
  refine List.pairwise_append.mpr ⟨hr.sublist (List.take_sublist _ _), List.pairwise_cons.mpr ⟨hgt, hr.sublist (List.drop_sublist _ _)⟩, fun a ha b hb => ?_⟩
  rcases List.mem_cons.mp hb with rfl | hb
  · exact hlt a ha
  · exact Nat.lt_trans (hlt a ha) (hgt b hb)
structure Tab (led : Bool) (t : SetTable) : Prop where
  led : t.led = led
  dum : t.dummies = #[]
  ris : Ris t.place.toList
theorem Tab.standIn {led : Bool} {t : SetTable} (h : Tab led t) (n : Nat) : Tab led (t.standIn n) := ⟨h.led, rfl, by
  show Ris (Array.range n).toList
  rw [Array.toList_range]
  exact List.pairwise_lt_range⟩
theorem has_nil (j : Nat) : SetTable.has #[] j = false := by
  unfold SetTable.has
  simp
theorem slot_eq (t : SetTable) (j : Nat) : t.slot j = if (t.place[SetTable.below t.place j]? == some j) = true then .live (SetTable.below t.place j) else if SetTable.has t.dummies j = true then .dummy else .empty := rfl
theorem probe_free {t : SetTable} (hd : t.dummies = #[]) (f : Nat → Int) (h : Int) : ∀ (fuel : Nat) (p : SetTable.Probe) (j : Nat) (d : Option Nat), p.dummy = none → SetTable.probe.go t f h fuel p = some (.empty j d) → d = none ∧ t.place[SetTable.below t.place j]? ≠ some j
  | 0, p, j, d, _, e => by rw [SetTable.probe.go] at e; cases e
  | fuel + 1, p, j, d, hp, e => by
    rw [SetTable.probe.go] at e
    have hadv : (t.advance p).dummy = none := by
      unfold SetTable.advance
      split
      · exact hp
      · exact hp
    split at e
    · rename_i hs
      cases e
      refine ⟨hp, fun hc => ?_⟩
      rw [slot_eq, hc] at hs
      simp at hs
    · rename_i hs
      rw [slot_eq, hd, has_nil] at hs
      exfalso
      by_cases hb : (t.place[SetTable.below t.place p.j]? == some p.j) = true
      · rw [if_pos hb] at hs; cases hs
      · rw [if_neg hb] at hs; simp at hs
    · split at e
      · cases e
      · exact probe_free hd f h fuel _ j d hadv e
theorem Tab.layNew {led : Bool} {t : SetTable} (T : Tab led t) (es : Array (Int × Value)) (h : Int) (x : Value) : Tab led (layNew t es h x).2.1 := by
  unfold PySem.layNew
  cases e : t.freeSlot h with
  | none => exact T.standIn _
  | some sw =>
    obtain ⟨slot, wd⟩ := sw
    dsimp only
    have key : Tab led (t.put slot).1 := by
      have hne : t.place[SetTable.below t.place slot]? ≠ some slot := by
        unfold SetTable.freeSlot at e
        split at e
        · rename_i j d hp
          cases e
          unfold SetTable.probe at hp
          obtain ⟨e1, e2⟩ := probe_free T.dum _ _ _ _ _ _ rfl hp
          subst e1
          exact e2
        · cases e
      refine ⟨T.led, ?_, ris_insert T.ris hne⟩
      show (if SetTable.has t.dummies slot then _ else t.dummies) = #[]
      rw [T.dum, has_nil]; rfl
    unfold SetTable.orStandIn
    split
    · exact key
    · exact key.standIn _
theorem filterMap_range_ris (f : Nat → Option Nat) (n : Nat) : Ris (((List.range n).filterMap fun j => (f j).map fun k => (j, k)).map (·.1)) := by
  have : Ris (((List.range n).filterMap fun j => (f j).map fun k => (j, k)).map (·.1)) := by
    have e : ((List.range n).filterMap fun j => (f j).map fun k => (j, k)).map (·.1) = (List.range n).filter fun j => (f j).isSome := by
      induction (List.range n) with
      | nil => rfl
      | cons a r ih =>
        cases h : f a with
        | none => simp [List.filterMap_cons, h, ih]
        | some k => simp [List.filterMap_cons, h, ih]
    rw [e]
    exact List.pairwise_lt_range.sublist List.filter_sublist
  exact this
theorem Tab.relay {led : Bool} {t : SetTable} (T : Tab led t) (es : Array (Int × Value)) (wanted : Nat) : Tab led (relayAll t es wanted).2.1 := by
  unfold relayAll
  cases e : t.relaid (es.map (·.1)) wanted with
  | none => exact T.standIn _
  | some q =>
    obtain ⟨t', order⟩ := q
    dsimp only
    split
    · unfold SetTable.relaid SetTable.laid at e
      cases e2 : SetTable.layClean (SetTable.sizeAbove wanted - 1) (es.map (·.1)) with
      | none => rw [e2] at e; cases e
      | some owner =>
        rw [e2] at e
        cases e
        refine ⟨T.led, rfl, ?_⟩
        have := filterMap_range_ris (fun j => owner.getD j none) (SetTable.sizeAbove wanted - 1 + 1)
        simpa using this
    · exact T.standIn _
end L2
set_option Elab.async false
set_option linter.all false
set_option maxRecDepth 100000
set_option maxHeartbeats 2000000
namespace L2
open PySem PySem.Spec PyProof.Rows
def SetI (P : Program) (w : World) (h : Heap) (a : Addr) (led : Bool) (ks : List Int) : Prop :=
  ∃ (o : Obj) (es : Array (Int × Value)) (ep : Nat) (t : SetTable) (ns : List Int), h.get? a = some o ∧ o.ExactSet ∧ o.data = .set es ep t ∧ ElemsOf (intKind P w) es.toList ∧ IntsAre (es.toList.map (·.2)) ns ∧ ns.Nodup ∧ (∀ k, k ∈ ns ↔ k ∈ ks) ∧
    es.size < scanBound ∧ t.fits es.size = true ∧ Tab led t
theorem SetI.keep {P : Program} {w : World} {h h' : Heap} {a : Addr} {led : Bool} {ks : List Int} (S : SetI P w h a led ks) (k : ∀ o, h.get? a = some o → h'.get? a = some o) : SetI P w h' a led ks := by
  obtain ⟨o, es, ep, t, ns, e, r⟩ := S
  exact ⟨o, es, ep, t, ns, k o e, r⟩
theorem ints_perm : ∀ {l l' : List Value} {ns : List Int}, l'.Perm l → IntsAre l ns → ∃ ns', IntsAre l' ns' ∧ ns'.Perm ns := by
  intro l l' ns hp
  induction hp generalizing ns with
  | nil => intro h; exact ⟨ns, h, .refl _⟩
  | cons x _ ih =>
    intro h
    cases h with
    | cons n t r =>
      obtain ⟨ns', h1, h2⟩ := ih r
      exact ⟨n :: ns', .cons n t h1, h2.cons n⟩
  | swap x y l =>
    intro h
    cases h with
    | cons n t r =>
      cases r with
      | cons m u r => exact ⟨m :: n :: _, .cons m u (.cons n t r), .swap n m _⟩
  | trans _ _ ih1 ih2 =>
    intro h
    obtain ⟨n1, a1, a2⟩ := ih2 h
    obtain ⟨n2, b1, b2⟩ := ih1 a1
    exact ⟨n2, b1, b2.trans a2⟩
theorem ints_map_perm {l l' : List (Int × Value)} {ns : List Int} (hp : l'.Perm l) (h : IntsAre (l.map (·.2)) ns) : ∃ ns', IntsAre (l'.map (·.2)) ns' ∧ ns'.Perm ns := ints_perm (hp.map _) h
theorem nodup_sub : ∀ (l1 l2 : List Int), l1.Nodup → (∀ x ∈ l1, x ∈ l2) → l1.length ≤ l2.length
  | [], _, _, _ => Nat.zero_le _
  | x :: l1, l2, hn, hs => by
    have hx : x ∈ l2 := hs x List.mem_cons_self
    have hxn := (List.nodup_cons.mp hn).1
    have := nodup_sub l1 (l2.erase x) (List.nodup_cons.mp hn).2 fun y hy => (List.mem_erase_of_ne (fun e => by subst e; exact hxn hy)).mpr (hs y (List.mem_cons_of_mem _ hy))
    rw [List.length_erase_of_mem hx] at this
    have hp : 0 < l2.length := List.length_pos_of_mem hx
    rw [List.length_cons]; omega
theorem ints_snoc {k : Int} {t : Tok} : ∀ {vs : List Value} {ns : List Int}, IntsAre vs ns → IntsAre (vs ++ [.int k t]) (ns ++ [k])
  | _, _, .nil => .cons k t .nil
  | _, _, .cons n u r => .cons n u (ints_snoc r)
theorem isInt_mem {P : Program} {w : World} {k : Int} : ∀ {l : List (Int × Value)} {ns : List Int}, IntsAre (l.map (·.2)) ns → ((∃ e ∈ l, (intKind P w).is k e.2 = true) ↔ k ∈ ns)
  | [], _, h => by cases h; simp
  | (hh, v) :: l, _, h => by
    cases h with
    | cons n t r =>
      have ih := isInt_mem (P := P) (w := w) (k := k) r
      rw [List.mem_cons, ← ih]
      constructor
      · rintro ⟨e, he, q⟩
        rcases List.mem_cons.mp he with rfl | he
        · obtain ⟨u, z⟩ := Value.isInt_shape (k := k) (v := Value.int n t) q
          injection z with z _
          exact .inl z.symm
        · exact .inr ⟨e, he, q⟩
      · rintro (rfl | ⟨e, he, q⟩)
        · exact ⟨_, List.mem_cons_self, by simp [intKind, Value.isInt]⟩
        · exact ⟨e, List.mem_cons_of_mem _ he, q⟩
theorem stored {h : Heap} {a : Addr} {ob : Obj} {es : Array (Int × Value)} {ep : Nat} {t : SetTable} (ho : h.get? a = some ob) (hd : ob.data = .set es ep t) (es2 : Array (Int × Value)) (t2 : SetTable) :
    (h.update a (Obj.putSet es2 t2)).get? a = some { ob with data := .set es2 (ep + 1) t2 } := by
  have z := Heap.get?_update_self (Obj.putSet es2 t2) ho (by rw [putSet_of es2 t2 hd]; rfl)
  rwa [putSet_of es2 t2 hd] at z
section
variable {P : Program} {w : World} {A : Around} {E : Value → Shared → Prop}
theorem add_tail {s : Shared} {g : Bool → Sem Unit} (hg : ∀ (b : Bool) (s1 : Shared) (Q1 : Unit → Shared → Prop), Q1 () s1 → wpAny (model P w) A (g b) Q1 E s1) {a : Addr} {ob : Obj} {es : Array (Int × Value)} {ep : Nat} {t : SetTable}
    (ho : s.heap.get? a = some ob) (hex : ob.ExactSet) (hd : ob.data = .set es ep t) {led : Bool} {ks : List Int} {es1 : Array (Int × Value)} {t2 : SetTable} {ns : List Int} (hel : ElemsOf (intKind P w) es1.toList)
    (hi : IntsAre (es1.toList.map (·.2)) ns) (nd : ns.Nodup) (hm : ∀ k, k ∈ ns ↔ k ∈ ks) (hb : es1.size < scanBound) (hf : t2.fits es1.size = true) (hT : Tab led t2) {wd : Bool} {R : Option Bool → Shared → Prop}
    (h : ∀ h', Heap.SameBut a s.heap h' → SetI P w h' a led ks → R (some true) { s with heap := h' }) :
    wpAny (model P w) A (storeSet a es1 t2 >>= fun _ => if (!wd && t2.tooFull) = true then (g (relayAll t2 es1 (SetTable.grown es1.size)).2.2 >>= fun _ =>
      storeSet a (relayAll t2 es1 (SetTable.grown es1.size)).1 (relayAll t2 es1 (SetTable.grown es1.size)).2.1 >>= fun _ => pure (some true)) else pure (some true)) R E s := by
  refine wpAny_bind (wpAny_storeSet_of ho hd ?_ (fits_of_scanBound hb))
  have g1 := stored ho hd es1 t2
  have sb := Heap.SameBut.update s.heap a (Obj.putSet es1 t2)
  have S1 : SetI P w (s.heap.update a (Obj.putSet es1 t2)) a led ks := ⟨_, es1, ep + 1, t2, ns, g1, hex, rfl, hel, hi, nd, hm, hb, hf, hT⟩
  by_cases hc : (!wd && t2.tooFull) = true
  · rw [if_pos hc]
    have pm := relayAll_perm t2 es1 (SetTable.grown es1.size)
    have ft := relayAll_fits t2 es1 (SetTable.grown es1.size)
    have T3 := hT.relay es1 (SetTable.grown es1.size)
    generalize relayAll t2 es1 (SetTable.grown es1.size) = q at pm ft T3 ⊢
    obtain ⟨es2, t3, gv⟩ := q
    dsimp only at pm ft T3 ⊢
    obtain ⟨ns2, i2, p2⟩ := ints_map_perm pm hi
    have sz : es2.size = es1.size := by rw [← Array.length_toList, pm.length_eq, Array.length_toList]
    have hb2 : es2.size < scanBound := by omega
    refine wpAny_bind (hg _ _ _ (wpAny_bind (wpAny_storeSet_of g1 rfl ?_ (fits_of_scanBound hb2))))
    have g2 := stored g1 rfl es2 t3
    refine wpAny_pure (h _ (sb.trans (Heap.SameBut.update _ a _)) ⟨_, es2, ep + 1 + 1, t3, ns2, g2, hex, rfl, hel.perm pm, i2, p2.symm.nodup nd, fun k => (p2.mem_iff).trans (hm k), hb2, ft, T3⟩)
  · rw [if_neg hc]
    exact wpAny_pure (h _ sb S1)
theorem set_add {s : Shared} {a : Addr} {led : Bool} {ks : List Int} {k : Int} {tk : Tok} {Q : Bool → Shared → Prop} (S : SetI P w s.heap a led ks) (hroom : ks.length + 1 < scanBound)
    (h : ∀ b h', Heap.SameBut a s.heap h' → SetI P w h' a led (ks ++ [k]) → Q b { s with heap := h' }) :
    wpAny (model P w) A (setAddHashed a (.int k tk) ((intKind P w).hash k)) Q E s := by
  obtain ⟨ob, es, ep, t, ns, ho, hex, hd, hel, hi, nd, hm, hb, hf, hT⟩ := S
  have hkey : (intKind P w).is k (.int k tk) = true := intKind_is _ _ _ _
  have hsc : (Value.int k tk).scannable = true := rfl
  have hsub : ns.length ≤ ks.length := nodup_sub ns ks nd fun x hx => (hm x).mp hx
  have hes : es.size = ns.length := by
    have := hi.length
    rw [List.length_map, Array.length_toList] at this; exact this
  unfold setAddHashed setAddHashedIn
  refine wpAny_holding (wpAny_bind (wpAny_setState_of ho hd hf ?_))
  dsimp only
  rw [byScan_of hsc hb hel]
  simp only [↓reduceIte]
  unfold setAddByScan
  refine wpAny_bind (wpAny_bind (wpAny_rule (wpAny_bind (wpAny_setScan_of hkey ho hd hf hel ?_))))
  cases hr : List.findIdx? (fun e => (intKind P w).is k e.2) es.toList with
  | some j =>
    dsimp only
    obtain ⟨hj, hpj, _⟩ := List.findIdx?_eq_some_iff_getElem.mp hr
    have hin : k ∈ ns := (isInt_mem (P := P) (w := w) hi).mp ⟨es.toList[j], List.getElem_mem hj, hpj⟩
    refine wpAny_pure (wpAny_pure ?_)
    have z := h false s.heap (Heap.SameBut.refl a s.heap) ⟨ob, es, ep, t, ns, ho, hex, hd, hel, hi, nd, fun x => ?_, hb, hf, hT⟩
    · exact z
    · rw [List.mem_append, List.mem_singleton, hm x]
      exact ⟨.inl, fun q => q.elim id fun e => by subst e; exact (hm _).mp hin⟩
  | none =>
    dsimp only
    have hnin : k ∉ ns := fun hk => by
      obtain ⟨e, he, q⟩ := (isInt_mem (P := P) (w := w) hi).mpr hk
      have := List.findIdx?_eq_none_iff.mp hr e he
      rw [q] at this; cases this
    have hgw : ∀ (b : Bool) (s1 : Shared) (Q1 : Unit → Shared → Prop), Q1 () s1 → wpAny (model P w) A (match b with | true => rule "set.scan.the-table-gave-way" | false => pure ()) Q1 E s1 := fun b s1 Q1 hq => by
      cases b
      · exact wpAny_pure hq
      · exact wpAny_rule hq
    have pm := layNew_perm t es ((intKind P w).hash k) (.int k tk)
    have ft := layNew_fits t es ((intKind P w).hash k) (.int k tk)
    have T1 := hT.layNew es ((intKind P w).hash k) (.int k tk)
    generalize layNew t es ((intKind P w).hash k) (.int k tk) = q at pm ft T1 ⊢
    obtain ⟨es1, t1, wd, gv⟩ := q
    dsimp only at pm ft T1 ⊢
    rw [Array.toList_push] at pm
    have hel1 : ElemsOf (intKind P w) es1.toList := (hel.push hkey hsc).perm pm
    obtain ⟨ns1, i1, p1⟩ := ints_map_perm pm (ns := ns ++ [k]) (by rw [List.map_append]; exact ints_snoc hi)
    have nd1 : ns1.Nodup := p1.symm.nodup (List.nodup_append.mpr ⟨nd, by simp, fun x hx y hy => by
      have : y = k := by simpa using hy
      subst this
      exact fun e => hnin (e ▸ hx)⟩)
    have hm1 : ∀ x, x ∈ ns1 ↔ x ∈ ks ++ [k] := fun x => by rw [p1.mem_iff, List.mem_append, List.mem_append, hm x]
    have sz1 : es1.size = es.size + 1 := by rw [← Array.length_toList, pm.length_eq, List.length_append, Array.length_toList]; rfl
    have hb1 : es1.size < scanBound := by omega
    refine wpAny_bind (hgw _ _ _ ?_)
    have fin : ∀ h', Heap.SameBut a s.heap h' → SetI P w h' a led (ks ++ [k]) → Q true { s with heap := h' } := fun h' sb S' => h true h' sb S'
    split
    · refine wpAny_bind ?_
      rw [hashByValue_scannable 8 hsc]
      refine wpAny_pure ?_
      have e1 : plainKind (Value.int k tk) = true := rfl
      rw [e1]
      refine add_tail (g := fun b => match b with | true => rule "set.scan.the-table-gave-way" | false => pure ()) hgw ho hex hd hel1 i1 nd1 hm1 hb1 ft T1 fun h' sb S' => ?_
      exact wpAny_pure (fin h' sb S')
    · refine wpAny_bind (wpAny_pure ?_)
      refine add_tail (g := fun b => match b with | true => rule "set.scan.the-table-gave-way" | false => pure ()) hgw ho hex hd hel1 i1 nd1 hm1 hb1 ft T1 fun h' sb S' => ?_
      exact wpAny_pure (fin h' sb S')
end
end L2
set_option Elab.async false
set_option linter.all false
set_option maxRecDepth 100000
set_option maxHeartbeats 4000000
namespace PySem
section
variable {prog : Program} {w : World} {A : Around} {E : Value → Shared → Prop} {s : Shared}
theorem own_set_new (v : Value) {Qn : Value → Shared → Prop}
    (h : Qn (.ref s.heap.objs.size) { s with heap := s.heap.push { cls := .type "set", dict := none, data := .set #[] 0 (.fresh 0 0 (!w.params.followText "set-order")) } }) :
    codeAny (model prog w) A (.call (.builtin "set.__new__") ⟨[.type "set", v], []⟩) (wants Qn E) s := by
  refine codeAny_of_tree ?_
  show wpAny _ A.in1 (checkBuiltinCall "set.__new__" ⟨[.type "set", v], []⟩ >>= fun _ => again (.builtin "set.__new__" ⟨[.type "set", v], []⟩)) _ _ s
  refine wpAny_bind (wpAny_of_eq (F.newCall_set_1 v) (wpAny_pure ⟨plainId_quiet F.plain_set_new _, codeAny_builtin F.entry_set_new ?_⟩))
  rw [Around.under_plainId F.plain_set_new _]
  unfold Builtin.«set.__new__» Builtin.Frozenset.newClass
  have hsub := sub_set_self
  obtain ⟨hp, g, d, tk, os⟩ := s
  dsimp only
  wp_walk
  refine wpAny_askSetting (wpAny_pure ?_)
  dsimp only
  simp only [newObj]
  refine wpAny_bind (wpAny_alloc (wpAny_pure ?_))
  exact wpAny_pure h
end
end PySem
namespace L2
open PySem PySem.Spec PyProof.Rows
section
variable {P : Program} {w : World} {A : Around} {R : Result → Shared → Prop} {I : Addr} {fp wr : List Addr} {G : Array GenState → Array GenState → Prop} {n : Nat} {Pv : Nat → Value → Prop} {St : Nat → Shared → Prop}
theorem set_fill (W : WalksS P w A.in1 I fp wr G n Pv St) (a : Addr) (hSf : a ∉ fp) (led : Bool) (val : Nat → Int) (hval : ∀ i v, Pv i v → ∃ t, v = .int (val i) t) (hb : n + 1 < scanBound) :
    ∀ (k i : Nat) (s : Shared), n - i = k → i ≤ n → St i s → SetI P w s.heap a led ((List.range i).map val) →
      (∀ s', Moved (a :: wr) G s s' → SetI P w s'.heap a led ((List.range n).map val) → R (.ok (.ret .none)) s') →
      codeAny (model P w) A (.builtin "set.update.loop" ⟨[.ref a, .ref I], []⟩) R s := by
  have hSw : a ∉ wr := fun h => hSf (W.sub _ h)
  have hsub : ∀ b ∈ wr, b ∈ a :: wr := fun b hb => List.mem_cons_of_mem _ hb
  intro k
  induction k with
  | zero =>
    intro i s hk hi hst hS hR
    obtain rfl : i = n := by omega
    refine codeAny_builtin F.entry_set_update_loop ?_
    rw [Around.under_plainId F.plain_set_update_loop _]
    show wpAny _ A.in1 (pyNext (.ref I) >>= _) _ _ s
    refine wpAny_bind (W.done s _ _ hst fun s' hm => ?_)
    show wpAny _ A.in1 (ret Value.none) _ _ s'
    exact wpAny_pure (hR s' (hm.mono hsub) (hS.keep fun o e => hm.heap a o hSw e))
  | succ k ih =>
    intro i s hk hi hst hS hR
    have hlt : i < n := by omega
    refine codeAny_builtin F.entry_set_update_loop ?_
    rw [Around.under_plainId F.plain_set_update_loop _]
    show wpAny _ A.in1 (pyNext (.ref I) >>= _) _ _ s
    refine wpAny_bind (W.item i s _ _ hlt hst fun v s1 hP hst1 hm => ?_)
    obtain ⟨t, rfl⟩ := hval i v hP
    have S1 : SetI P w s1.heap a led ((List.range i).map val) := hS.keep fun o e => hm.heap a o hSw e
    show wpAny _ A.in1 (holding [Value.int (val i) t] (setAdd a (.int (val i) t)) >>= _) _ _ s1
    refine wpAny_bind (wpAny_holding ?_)
    unfold setAdd
    refine wpAny_holding (wpAny_bind ((intKind P w).pyHash (k := val i) (intKind_is _ _ _ _) ?_))
    refine set_add (s := { s1 with toks := s1.toks + 1 }) S1 (by rw [List.length_map, List.length_range]; omega) fun b h2 sb S2 => ?_
    have S3 : SetI P w h2 a led ((List.range (i + 1)).map val) := by
      rw [List.range_succ, List.map_append]; exact S2
    refine wpAny_pure ⟨plainId_quiet F.plain_set_update_loop _, ih (i + 1) _ (by omega) hlt (W.frame _ s1 _ _ hst1 (Nat.le_succ _) fun c hc o e => ?_) S3 fun s2 hm2 S4 => ?_⟩
    · rw [sb.2 c (fun z : c = a => hSf (by rw [← z]; exact hc))]; exact e
    · refine hR s2 (Moved.trans W.gtrans ((hm.mono hsub).then_heap (Nat.le_succ _) fun c o hc e => ?_) hm2) S4
      rw [sb.2 c (fun z : c = a => hc (by rw [z]; exact List.mem_cons_self))]; exact e
end
theorem setI_new {P : Program} {w : World} {h : Heap} {a : Addr} {led : Bool} (e : h.get? a = some { cls := .type "set", dict := none, data := .set #[] 0 (.fresh 0 0 led) }) : SetI P w h a led [] :=
  ⟨_, #[], 0, .fresh 0 0 led, [], e, ⟨rfl, rfl, rfl⟩, rfl, fun e he => by simp at he, .nil, List.nodup_nil, fun k => Iff.rfl, by decide, rfl, ⟨rfl, rfl, List.Pairwise.nil⟩⟩
end L2
namespace PySem
open L2
section
variable {prog : Program} {w : World} {A : Around} {E : Value → Shared → Prop} {s : Shared}
theorem own_set_list {l : Addr} {items : Array Value} {ns : List Int} {Q : Value → Shared → Prop} (hh : A.handled = none) (hl : s.heap.IsList l items) (hi : PyProof.Rows.IntsAre items.toList ns) (hb : items.size + 1 < scanBound)
    (h : ∀ (h' : Heap) (tk : Nat), SetI prog w h' s.heap.objs.size (!w.params.followText "set-order") ((List.range items.size).map fun i => ns.getD i 0) → (∀ b o, s.heap.get? b = some o → h'.get? b = some o) → Q (.ref s.heap.objs.size) { s with heap := h', toks := tk }) :
    wpAny (model prog w) A (call (.type "set") [.ref l]) Q E s := by
  obtain ⟨cc, tl, hmro⟩ := F.called_set.mro
  have hmade := F.called_set.made
  have hsub := F.called_set.sub
  refine wpAny_call (codeAny_of_tree ?_)
  show wpAny _ _ (callAny (.type "set") _) _ _ _
  refine wpAny_pure ⟨Code.quiet_builtin _ (by decide +kernel), codeAny_builtin F.entry_type_call ?_⟩
  rw [Around.under_plain (weight_type_call_type "set" [.ref l] []) rfl]
  have hnt := F.called_set.notType
  have hcc := F.called_set.canCreate
  have hct := F.typeCall_set_1 (.ref l)
  repeat (any_goals (first | assumption | wp_step))
  refine codeAny_mono (own_set_new (.ref l) (E := E) (Qn := fun ob s1 => ob = .ref s.heap.objs.size ∧ s1 = { s with heap := s.heap.push { cls := .type "set", dict := none, data := .set #[] 0 (.fresh 0 0 (!w.params.followText "set-order")) } }) ⟨rfl, rfl⟩) fun r s1 hr => ?_
  generalize hled : (!w.params.followText "set-order") = led at hr h
  cases r with
  | error e => exact hr
  | ok fl =>
    cases fl with
    | ret ob =>
      obtain ⟨rfl, rfl⟩ := hr
      have hS : (s.heap.push { cls := .type "set", dict := none, data := .set #[] 0 (.fresh 0 0 led) }).get? s.heap.objs.size = some { cls := .type "set", dict := none, data := .set #[] 0 (.fresh 0 0 led) } := Heap.get?_push_size _ rfl
      have hT : Shared.TypeIs { s with heap := s.heap.push { cls := .type "set", dict := none, data := .set #[] 0 (.fresh 0 0 led) } } (.ref s.heap.objs.size) "set" := ⟨_, hS, rfl⟩
      have hli := F.called_set.init.lookup
      have hbi := F.called_set.init.bind (.ref s.heap.objs.size)
      repeat (any_goals (first | assumption | wp_step))
      refine codeAny_mono (codeAny_call_builtin (R := wants (fun r s2 => r = .none ∧ ∃ h' tk, s2 = { s with heap := h', toks := tk } ∧ SetI prog w h' s.heap.objs.size led ((List.range items.size).map fun i => ns.getD i 0) ∧
          (∀ b o, s.heap.get? b = some o → h'.get? b = some o)) E) F.called_set.init.plain F.entry_set_init (check_set_init_1 hT ?_)) fun r2 s2 hr2 => ?_
      · obtain ⟨ol, hol, hcl, nl, hdl⟩ := hl
        obtain ⟨ocls, odict, odata, oslots⟩ := ol
        simp only at hcl hdl
        subst hcl; subst hdl
        have hol' : (s.heap.push { cls := .type "set", dict := none, data := .set #[] 0 (.fresh 0 0 led) }).get? l = some { cls := .type "list", dict := odict, data := .seq items nl, slots := oslots } := Heap.get?_push_of_some _ hol
        have hsls := F.sub_list_set
        have hslf := F.sub_list_frozenset
        have hnd : (Value.type "list" == Value.type "dict") = false := by decide
        have hl1 : (s.heap.push { cls := .type "set", dict := none, data := .set #[] 0 (.fresh 0 0 led) }).IsList l items := ⟨_, hol', rfl, nl, rfl⟩
        unfold Builtin.«set.__init__» noKeywords Builtin.Frozenset.updateFrom
        generalize hPI : pyIter = PI
        wp_walk
        subst hPI
        refine wpAny_pyIter_list hl1 ?_
        refine wpAny_bind (wpAny_runValue ?_)
        have hlS : l < s.heap.objs.size := Heap.lt_size hol
        have hh3 : A.in1.in1.in1.handled = none := by simp [hh]
        have hsz : (s.heap.push { cls := .type "set", dict := none, data := .set #[] 0 (.fresh 0 0 led) }).objs.size = s.heap.objs.size + 1 := Heap.size_push ..
        have hneI : l ≠ (s.heap.push { cls := .type "set", dict := none, data := .set #[] 0 (.fresh 0 0 led) }).objs.size := by rw [hsz]; exact Nat.ne_of_lt (Nat.lt_succ_of_lt hlS)
        have hSf : s.heap.objs.size ∉ [(s.heap.push { cls := .type "set", dict := none, data := .set #[] 0 (.fresh 0 0 led) }).objs.size, l] := by
          rw [hsz]
          intro z
          rcases List.mem_cons.mp z with z | z
          · exact absurd z (Nat.ne_of_lt (Nat.lt_succ_self _))
          · exact absurd (List.mem_singleton.mp z) (Nat.ne_of_gt hlS)
        have hval : ∀ (i : Nat) (v : Value), items[i]? = some v → ∃ t, v = .int ((fun i => ns.getD i 0) i) t := fun i v hv => PyProof.Rows.IntsAre.int_at hi i v (by rw [Array.getElem?_toList]; exact hv)
        refine set_fill ((Walks.list hh3 _ l hneI items).toS) s.heap.objs.size hSf led (fun i => ns.getD i 0) hval hb (items.size - 0) 0 _ (by omega) (Nat.zero_le _) ⟨⟨_, Heap.get?_push_size _ rfl, rfl, rfl⟩, hl1.push _⟩ ?hS0 ?hR
        case hS0 => exact setI_new (Heap.get?_push_of_some _ hS)
        case hR =>
          intro s' hm hS'
          obtain ⟨h', g', d', tk', os'⟩ := s'
          have eg : g' = s.gens := hm.gens
          have ed : d' = s.drawn := hm.drawn
          have eo : os' = s.os := hm.os
          subst eg; subst ed; subst eo
          show wpAny _ _ _ _ _ _
          refine wpAny_pure ?_
          show wpAny _ _ (ret Value.none) _ _ _
          refine wpAny_pure ⟨rfl, h', tk', rfl, hS', fun b o e => hm.heap b o (fun z => ?_) (Heap.get?_push_of_some _ (Heap.get?_push_of_some _ e))⟩
          have hlt := Heap.lt_size e
          rcases List.mem_cons.mp z with z | z
          · exact absurd z (Nat.ne_of_lt hlt)
          · have z' := List.mem_singleton.mp z
            rw [hsz] at z'
            exact absurd z' (Nat.ne_of_lt (Nat.lt_succ_of_lt hlt))
      · cases r2 with
        | error e => exact hr2
        | ok fl2 =>
          cases fl2 with
          | ret r =>
            obtain ⟨rfl, h', tk, rfl, hS', hk'⟩ := hr2
            repeat (any_goals (first | assumption | wp_step))
            exact h _ _ hS' hk'
          | _ => exact hr2.elim
    | _ => exact hr.elim
end
end PySem
set_option Elab.async false
set_option linter.all false
set_option maxRecDepth 100000
set_option maxHeartbeats 4000000
namespace PySem.F
theorem si_next : Slot "set_iterator" "__next__" "set_iterator.__next__" :=
  .of (owner := "set_iterator") (n := "__next__") (by rw [typeLookup_type, builtinLookup_eq_fast]; kernel_rfl) (by decide +kernel) (by decide +kernel) (by decide +kernel) (by first | exact .inl (by decide +kernel) | exact .inr (by decide +kernel)) (by rw [isSubtype_type]; kernel_rfl)
theorem si_next_e : entryFor table "set_iterator.__next__" = some Builtin.«set_iterator.__next__» := entryFor_of_tree (by kernel_rfl)
theorem si_owner : Manifest.owners.lookup (String.ofList ['r', 'o', 't', 'a', 'r', 'e', 't', 'i', '_', 't', 'e', 's'].reverse) = some Manifest.sig_set_iterator := by kernel_rfl
theorem si_next_a (a : Value) : argsOk "set_iterator.__next__" ⟨[a], []⟩ := by
  unfold argsOk; rw [signature?_of (id := "set_iterator.__next__") (n := ['_', '_', 't', 'x', 'e', 'n', '_', '_']) (o := ['r', 'o', 't', 'a', 'r', 'e', 't', 'i', '_', 't', 'e', 's']) (by kernel_rfl) si_owner]; kernel_rfl
theorem si_iter : Slot "set_iterator" "__iter__" "set_iterator.__iter__" :=
  .of (owner := "set_iterator") (n := "__iter__") (by rw [typeLookup_type, builtinLookup_eq_fast]; kernel_rfl) (by decide +kernel) (by decide +kernel) (by decide +kernel) (by first | exact .inl (by decide +kernel) | exact .inr (by decide +kernel)) (by rw [isSubtype_type]; kernel_rfl)
theorem si_iter_e : entryFor table "set_iterator.__iter__" = some Builtin.«dict_keyiterator.__iter__» := entryFor_alias (id' := "dict_keyiterator.__iter__") (by kernel_rfl) rfl (by decide +kernel) (by kernel_rfl)
theorem si_iter_a (a : Value) : argsOk "set_iterator.__iter__" ⟨[a], []⟩ := by
  unfold argsOk; rw [signature?_of (id := "set_iterator.__iter__") (n := ['_', '_', 'r', 'e', 't', 'i', '_', '_']) (o := ['r', 'o', 't', 'a', 'r', 'e', 't', 'i', '_', 't', 'e', 's']) (by kernel_rfl) si_owner]; kernel_rfl
theorem set_iter_e : entryFor table "set.__iter__" = some Builtin.«frozenset.__iter__» := entryFor_alias (id' := "frozenset.__iter__") (by kernel_rfl) rfl (by decide +kernel) (by kernel_rfl)
end PySem.F
namespace L2
open PySem PySem.Spec PyProof.Rows
section
variable {P : Program} {w : World} {A : Around} {E : Value → Shared → Prop} {s : Shared}
theorem own_choose {M : Model} {src : Source} {n : Nat} {Q : Nat → Shared → Prop} (hn : n ≠ 0) (h : ∀ i, i < n → Q i { s with drawn := s.drawn.bump src }) : wpAny M A (choose src n) Q E s :=
  fun _ _ _ => ⟨hn, h _ (Nat.mod_lt _ (Nat.pos_of_ne_zero hn))⟩
theorem erase_perm {α : Type} : ∀ (l : List α) (i : Nat) (h : i < l.length), (l[i] :: l.eraseIdx i).Perm l
  | x :: l, 0, _ => .refl _
  | x :: l, i + 1, h => by
    have h' : i < l.length := by simpa using h
    have := erase_perm l i h'
    show ((x :: l)[i + 1] :: x :: l.eraseIdx i).Perm (x :: l)
    exact (List.Perm.swap x _ _).trans (this.cons x)
theorem own_order {α : Type} {M : Model} : ∀ (n : Nat) (xs : List α) (s : Shared) (Q : List α → Shared → Prop), xs.length = n → (∀ ys d, ys.Perm xs → Q ys { s with drawn := d }) → wpAny M A (drawOrder n xs) Q E s
  | 0, xs, s, Q, hl, h => by
    have : xs = [] := List.length_eq_zero_iff.mp hl
    subst this
    exact wpAny_pure (h [] s.drawn (.refl _))
  | n + 1, [], s, Q, hl, h => by simp at hl
  | n + 1, x :: xs, s, Q, hl, h => by
    rw [drawOrder]
    · refine wpAny_bind (own_choose (by simp) fun i hi => ?_)
      have e : (x :: xs)[i]? = some ((x :: xs)[i]) := by simp [hi]
      rw [e]
      dsimp only
      refine wpAny_bind (own_order n _ _ _ ?_ fun ys d hp => ?_)
      · rw [List.length_eraseIdx_of_lt hi]; simp at hl ⊢; exact hl
      · refine wpAny_pure (h _ d ?_)
        refine (hp.cons _).trans ?_
        exact erase_perm _ i hi
    · simp
structure SAt (h : Heap) (a : Addr) (es : Array (Int × Value)) (ep : Nat) (t : SetTable) : Prop where
  ex : ∃ o, h.get? a = some o ∧ o.ExactSet ∧ o.data = .set es ep t
  fits : t.fits es.size = true
theorem next_places {a : Addr} {es : Array (Int × Value)} {ep : Nat} {t : SetTable} {slot given : Nat} {Q : Option (Value × Nat) → Shared → Prop} (S : SAt s.heap a es ep t) (hb : w.params.followText "set-order" = false) (hl : t.led = true) (hp : t.plain = true ∨ es.size ≤ 1)
    (h : Q (match es[SetTable.below t.place slot]?, t.place[SetTable.below t.place slot]? with | some (_, x), some j => some (x, j + 1) | _, _ => none) s) : wpAny (model P w) A (setNext a slot given ep) Q E s := by
  obtain ⟨o, ho, hex, hd⟩ := S.ex
  unfold setNext
  refine wpAny_bind (wpAny_setState_of ho hd S.fits ?_)
  dsimp only
  unfold setsByText
  refine wpAny_bind (wpAny_bind (wpAny_askSetting (wpAny_pure ?_)))
  show wpAny _ _ (if w.params.followText "set-order" = true then _ else _) _ _ _
  rw [hb]
  simp only [Bool.false_eq_true, if_false]
  have hdr : (!t.plain && decide (es.size > 1)) = false := by
    rcases hp with hp | hp
    · rw [hp]; rfl
    · rw [decide_eq_false (by omega), Bool.and_false]
  refine wpAny_ite_split (fun hc => ?_) (fun _ => ?_)
  · have hc' : (!t.plain && decide (es.size > 1)) = true := hc
    rw [hdr] at hc'; cases hc'
  · show wpAny _ _ ((if (!t.led && !es.isEmpty) = true then unsupported "set:maker-not-led" else pure ()) >>= fun _ => pure _) Q E s
    rw [hl]
    simp only [Bool.not_true, Bool.false_and, Bool.false_eq_true, if_false]
    exact wpAny_bind (wpAny_pure (wpAny_pure h))
theorem next_text {a : Addr} {es : Array (Int × Value)} {ep : Nat} {t : SetTable} {slot given : Nat} {Q : Option (Value × Nat) → Shared → Prop} (S : SAt s.heap a es ep t) (hb : w.params.followText "set-order" = true)
    (h : Q (((pickOrder (w.params.setOrder a ep) es)[given]?).map fun e => (e.2, slot)) s) : wpAny (model P w) A (setNext a slot given ep) Q E s := by
  obtain ⟨o, ho, hex, hd⟩ := S.ex
  unfold setNext
  refine wpAny_bind (wpAny_setState_of ho hd S.fits ?_)
  dsimp only
  unfold setsByText
  refine wpAny_bind (wpAny_bind (wpAny_askSetting (wpAny_pure ?_)))
  show wpAny _ _ (if w.params.followText "set-order" = true then _ else _) _ _ _
  rw [if_pos hb]
  refine wpAny_ite_split (fun hc => by simp at hc) (fun _ => ?_)
  unfold setWalk
  refine wpAny_bind (wpAny_bind (wpAny_setState_of ho hd S.fits ?_))
  dsimp only
  unfold setsByText
  refine wpAny_bind (wpAny_bind (wpAny_askSetting (wpAny_pure ?_)))
  show wpAny _ _ (if w.params.followText "set-order" = true then _ else _) _ _ _
  rw [if_pos hb]
  refine wpAny_bind (wpAny_askSetting (wpAny_pure ?_))
  exact wpAny_pure h
theorem next_drawn {a : Addr} {es : Array (Int × Value)} {ep : Nat} {t : SetTable} {place : Nat} {e : Int × Value} {Q : Value → Shared → Prop} (S : SAt s.heap a es ep t) (he : es[place]? = some e) (h : Q e.2 s) : wpAny (model P w) A (setNextDrawn a place ep) Q E s := by
  obtain ⟨o, ho, hex, hd⟩ := S.ex
  unfold setNextDrawn
  refine wpAny_bind (wpAny_setState_of ho hd S.fits ?_)
  dsimp only
  refine wpAny_ite_split (fun hc => by simp at hc) (fun _ => ?_)
  rw [he]
  exact wpAny_pure h
theorem pick_perm {α : Type} (f : Nat → Nat) : ∀ (fuel k : Nat) (left : List α) (out : Array α), left.length = fuel → (pickOrder.go f fuel k left out).toList.Perm (out.toList ++ left)
  | 0, k, left, out, hl => by
    have : left = [] := List.length_eq_zero_iff.mp hl
    subst this
    rw [pickOrder.go]; simp
  | fuel + 1, k, left, out, hl => by
    rw [pickOrder.go]
    have hi : f k % left.length < left.length := Nat.mod_lt _ (by omega)
    have e : left[f k % left.length]? = some (left[f k % left.length]) := by simp [hi]
    rw [e]
    dsimp only
    refine (pick_perm f fuel (k + 1) _ _ (by rw [List.length_eraseIdx_of_lt hi]; omega)).trans ?_
    rw [Array.toList_push, List.append_assoc]
    exact List.Perm.append_left _ (by simpa using erase_perm left _ hi)
theorem pick_all {α : Type} (f : Nat → Nat) (es : Array α) : (pickOrder f es).toList.Perm es.toList := by
  have := pick_perm f es.size 0 es.toList #[] (by simp)
  simpa [pickOrder] using this
end
end L2
set_option Elab.async false
set_option linter.all false
set_option maxRecDepth 100000
set_option maxHeartbeats 4000000
namespace L2
open PySem PySem.Spec PyProof.Rows
def siObj (first : Value) (S : Addr) (i n ep : Nat) : Obj := { cls := .type "set_iterator", data := .fields #[first, .int i 0, .ref S, .int n 0, .int ep 0] }
section
variable {P : Program} {w : World} {A : Around} {E : Value → Shared → Prop} {s : Shared}
theorem si_item {I S : Addr} {slot i n ep nx : Nat} {x : Value} {es : Array (Int × Value)} {t : SetTable} {Q : Option Value → Shared → Prop} (hI : s.heap.get? I = some (siObj (.int slot 0) S i n ep)) (hS : SAt s.heap S es ep t) (hn : es.size = n)
    (hN : ∀ (A' : Around) (E' : Value → Shared → Prop) (Q' : Option (Value × Nat) → Shared → Prop), Q' (some (x, nx)) s → wpAny (model P w) A' (setNext S slot i ep) Q' E' s)
    (h : ∀ h', h'.get? I = some (siObj (.int nx 0) S (i + 1) n ep) → Heap.SameBut I s.heap h' → Q (some x) { s with heap := h' }) : wpAny (model P w) A (pyNext (.ref I)) Q E s := by
  have hT : s.TypeIs (.ref I) "set_iterator" := ⟨_, hI, rfl⟩
  obtain ⟨o, ho, hex, hd⟩ := hS.ex
  unfold pyNext
  refine wpAny_bind (wpAny_attempt (wpAny_callSpecial?_slot (name := Str.ofString "__next__") hT F.si_next (wpAny_call_entry F.si_next hT F.si_next_e ?_ (F.si_next_a _))))
  unfold Builtin.«set_iterator.__next__»
  refine wpAny_bind (wpAny_pure ?_)
  refine wpAny_bind (wpAny_fieldsOf hI rfl ?_)
  show wpAny _ _ (setEntries S >>= _) _ _ _
  refine wpAny_bind (wpAny_setEntries_of ho hd hS.fits ?_)
  refine wpAny_ite_split (fun hc => by rw [hn] at hc; simp at hc) (fun _ => ?_)
  show wpAny _ _ (setNext S slot i ep >>= _) _ _ _
  refine wpAny_bind (hN _ _ _ ?_)
  show wpAny _ _ (setField (.ref I) 0 (rawInt nx) >>= _) _ _ _
  refine wpAny_bind (wpAny_setField_rec hI (by simp) fun h1 g1 sb1 => ?_)
  refine wpAny_bind (wpAny_setField_rec (s := { s with heap := h1 }) g1 (by simp) fun h2 g2 sb2 => ?_)
  exact wpAny_pure ⟨_, rfl, wpAny_pure (h h2 (by simpa [siObj, rawInt] using g2) (sb1.trans sb2))⟩
theorem si_end {I S : Addr} {slot i n ep : Nat} {es : Array (Int × Value)} {t : SetTable} {Q : Option Value → Shared → Prop} (hh : A.handled = none) (hI : s.heap.get? I = some (siObj (.int slot 0) S i n ep)) (hS : SAt s.heap S es ep t) (hn : es.size = n)
    (hN : ∀ (A' : Around) (E' : Value → Shared → Prop) (Q' : Option (Value × Nat) → Shared → Prop), Q' none s → wpAny (model P w) A' (setNext S slot i ep) Q' E' s)
    (h : ∀ h', Heap.ExtBut I s.heap h' → Q none { s with heap := h' }) : wpAny (model P w) A (pyNext (.ref I)) Q E s := by
  have hT : s.TypeIs (.ref I) "set_iterator" := ⟨_, hI, rfl⟩
  obtain ⟨o, ho, hex, hd⟩ := hS.ex
  unfold pyNext
  refine wpAny_bind (wpAny_attempt (wpAny_callSpecial?_slot (name := Str.ofString "__next__") hT F.si_next (wpAny_call_entry F.si_next hT F.si_next_e ?_ (F.si_next_a _))))
  unfold Builtin.«set_iterator.__next__»
  refine wpAny_bind (wpAny_pure ?_)
  refine wpAny_bind (wpAny_fieldsOf hI rfl ?_)
  show wpAny _ _ (setEntries S >>= _) _ _ _
  refine wpAny_bind (wpAny_setEntries_of ho hd hS.fits ?_)
  refine wpAny_ite_split (fun hc => by rw [hn] at hc; simp at hc) (fun _ => ?_)
  show wpAny _ _ (setNext S slot i ep >>= _) _ _ _
  refine wpAny_bind (hN _ _ _ ?_)
  show wpAny _ _ (setField (.ref I) 2 .none >>= _) _ _ _
  refine wpAny_bind (wpAny_setField_rec hI (by simp) fun h1 g1 sb1 => ?_)
  show wpAny _ _ (newExc (.type "StopIteration") [] >>= _) _ _ _
  refine wpAny_bind ?_
  simp only [newExc, newTuple]
  refine wpAny_bind (wpAny_newObj_type ?_ (by size_fits))
  refine wpAny_bind (m := firstArgMember _ _) (wpAny_of_eq (a := Value.none) (by first | rfl | (simp only [firstArgMember]; rfl)) ?_)
  refine wpAny_newObj_type ?_ (by size_fits)
  simp only [raiseNew]
  refine wpAny_bind (wpAny_handled ?_)
  rw [show A.in1.handled = none from hh]
  refine wpAny_bind (wpAny_pure (wpAny_throw ?_))
  refine wpAny_bind (wpAny_isInstance (T := "StopIteration") (b := true) ⟨_, Heap.get?_push_size _ rfl, rfl⟩ isSubtype_stop ?_)
  exact wpAny_pure (h _ ((sb1.extBut.push _).push _))
theorem sd_item {I S T : Addr} {i n ep : Nat} {e : Int × Value} {pl : List Nat} {p : Nat} {es : Array (Int × Value)} {t : SetTable} {Q : Option Value → Shared → Prop} (hI : s.heap.get? I = some (siObj (.ref T) S i n ep)) (hS : SAt s.heap S es ep t) (hn : es.size = n)
    (hT' : s.heap.get? T = some { cls := .type "tuple", data := .seq (pl.map fun (k : Nat) => rawInt k).toArray }) (hp : pl[i]? = some p) (he : es[p]? = some e)
    (h : ∀ h', h'.get? I = some (siObj (.ref T) S (i + 1) n ep) → Heap.SameBut I s.heap h' → Q (some e.2) { s with heap := h' }) : wpAny (model P w) A (pyNext (.ref I)) Q E s := by
  have hT : s.TypeIs (.ref I) "set_iterator" := ⟨_, hI, rfl⟩
  obtain ⟨o, ho, hex, hd⟩ := hS.ex
  unfold pyNext
  refine wpAny_bind (wpAny_attempt (wpAny_callSpecial?_slot (name := Str.ofString "__next__") hT F.si_next (wpAny_call_entry F.si_next hT F.si_next_e ?_ (F.si_next_a _))))
  unfold Builtin.«set_iterator.__next__»
  refine wpAny_bind (wpAny_pure ?_)
  refine wpAny_bind (wpAny_fieldsOf hI rfl ?_)
  show wpAny _ _ (setEntries S >>= _) _ _ _
  refine wpAny_bind (wpAny_setEntries_of ho hd hS.fits ?_)
  refine wpAny_ite_split (fun hc => by rw [hn] at hc; simp at hc) (fun _ => ?_)
  dsimp only
  refine wpAny_bind ?_
  show wpAny _ _ (load T >>= _) _ _ _
  refine wpAny_bind (wpAny_load hT' (wpAny_pure ?_))
  dsimp only
  rw [show ((List.map (fun (k : Nat) => rawInt k) pl).toArray)[((i : Nat) : Int).toNat]? = some (rawInt p) by rw [Int.toNat_natCast]; simp [hp]]
  show wpAny _ _ (setNextDrawn S ((p : Nat) : Int).toNat ((ep : Nat) : Int).toNat >>= _) _ _ _
  rw [Int.toNat_natCast, Int.toNat_natCast]
  refine wpAny_bind (next_drawn hS he ?_)
  refine wpAny_bind (wpAny_setField_rec hI (by simp) fun h2 g2 sb2 => ?_)
  exact wpAny_pure ⟨_, rfl, wpAny_pure (h h2 (by simpa [siObj, rawInt] using g2) sb2)⟩
theorem sd_end {I S T : Addr} {i n ep : Nat} {pl : List Nat} {es : Array (Int × Value)} {t : SetTable} {Q : Option Value → Shared → Prop} (hh : A.handled = none) (hI : s.heap.get? I = some (siObj (.ref T) S i n ep)) (hS : SAt s.heap S es ep t) (hn : es.size = n)
    (hT' : s.heap.get? T = some { cls := .type "tuple", data := .seq (pl.map fun (k : Nat) => rawInt k).toArray }) (hp : pl[i]? = none)
    (h : ∀ h', Heap.ExtBut I s.heap h' → Q none { s with heap := h' }) : wpAny (model P w) A (pyNext (.ref I)) Q E s := by
  have hT : s.TypeIs (.ref I) "set_iterator" := ⟨_, hI, rfl⟩
  obtain ⟨o, ho, hex, hd⟩ := hS.ex
  unfold pyNext
  refine wpAny_bind (wpAny_attempt (wpAny_callSpecial?_slot (name := Str.ofString "__next__") hT F.si_next (wpAny_call_entry F.si_next hT F.si_next_e ?_ (F.si_next_a _))))
  unfold Builtin.«set_iterator.__next__»
  refine wpAny_bind (wpAny_pure ?_)
  refine wpAny_bind (wpAny_fieldsOf hI rfl ?_)
  show wpAny _ _ (setEntries S >>= _) _ _ _
  refine wpAny_bind (wpAny_setEntries_of ho hd hS.fits ?_)
  refine wpAny_ite_split (fun hc => by rw [hn] at hc; simp at hc) (fun _ => ?_)
  dsimp only
  refine wpAny_bind ?_
  show wpAny _ _ (load T >>= _) _ _ _
  refine wpAny_bind (wpAny_load hT' (wpAny_pure ?_))
  dsimp only
  rw [show ((List.map (fun (k : Nat) => rawInt k) pl).toArray)[((i : Nat) : Int).toNat]? = none by rw [Int.toNat_natCast]; simpa using hp]
  dsimp only
  refine wpAny_bind (wpAny_setField_rec hI (by simp) fun h0 g0 sb0 => ?_)
  refine wpAny_bind (wpAny_setField_rec (s := { s with heap := h0 }) g0 (by simp) fun h1 g1 sb1 => ?_)
  show wpAny _ _ (newExc (.type "StopIteration") [] >>= _) _ _ _
  refine wpAny_bind ?_
  simp only [newExc, newTuple]
  refine wpAny_bind (wpAny_newObj_type ?_ (by size_fits))
  refine wpAny_bind (m := firstArgMember _ _) (wpAny_of_eq (a := Value.none) (by first | rfl | (simp only [firstArgMember]; rfl)) ?_)
  refine wpAny_newObj_type ?_ (by size_fits)
  simp only [raiseNew]
  refine wpAny_bind (wpAny_handled ?_)
  rw [show A.in1.handled = none from hh]
  refine wpAny_bind (wpAny_pure (wpAny_throw ?_))
  refine wpAny_bind (wpAny_isInstance (T := "StopIteration") (b := true) ⟨_, Heap.get?_push_size _ rfl, rfl⟩ isSubtype_stop ?_)
  exact wpAny_pure (h _ (((sb0.trans sb1).extBut.push _).push _))
theorem si_self {I S : Addr} {first : Value} {i n ep : Nat} {Q : Value → Shared → Prop} (hI : s.heap.get? I = some (siObj first S i n ep)) (h : Q (.ref I) s) : wpAny (model P w) A (pyIter (.ref I)) Q E s := by
  have hT : s.TypeIs (.ref I) "set_iterator" := ⟨_, hI, rfl⟩
  refine wpAny_pyIter_slot hT F.si_iter (wpAny_call_entry F.si_iter hT F.si_iter_e ?_ (F.si_iter_a _))
  show wpAny _ _ (ret (.ref I)) _ _ s
  exact wpAny_pure ⟨_, rfl, "set_iterator", _, hT, F.si_next.lookup, h⟩
theorem SAt.keep {h h' : Heap} {a : Addr} {es : Array (Int × Value)} {ep : Nat} {t : SetTable} (x : SAt h a es ep t) (k : ∀ o, h.get? a = some o → h'.get? a = some o) : SAt h' a es ep t := by
  obtain ⟨o, e, r⟩ := x.ex
  exact ⟨⟨o, k o e, r⟩, x.fits⟩
theorem getD_at {l : List Nat} {i : Nat} (h : i < l.length) : l[i]? = some (l.getD i 0) := by simp [List.getD, h]
def slotOf (t : SetTable) : Nat → Nat
  | 0 => 0
  | i + 1 => t.place.toList.getD i 0 + 1
theorem walks_places (hh : A.handled = none) (hb : w.params.followText "set-order" = false) {I S : Addr} (hne : S ≠ I) {es : Array (Int × Value)} {ep : Nat} {t : SetTable} (T : Tab true t) (hf : t.fits es.size = true) (hp : t.plain = true ∨ es.size ≤ 1) :
    Walks P w A I [I, S] [I] es.toList.length (fun i v => (es.toList[i]?).map (·.2) = some v) (fun i h => h.get? I = some (siObj (.int (slotOf t i) 0) S i es.size ep) ∧ SAt h S es ep t ∧ i ≤ es.size) where
  sub := fun b hb => by simp at hb; simp [hb]
  frame := fun i h h' st hk => ⟨hk I (by simp) _ st.1, st.2.1.keep fun o e => hk S (by simp) o e, st.2.2⟩
  item := fun i s Q E hi st hQ => by
    rw [Array.length_toList] at hi
    have hsz : t.place.size = es.size := by unfold SetTable.fits at hf; simp at hf; exact hf.1
    have hpl : t.place.toList[i]? = some (t.place.toList.getD i 0) := by
      have : i < t.place.toList.length := by rw [Array.length_toList]; omega
      exact getD_at this
    have hbl : SetTable.below t.place (slotOf t i) = i := by
      cases i with
      | zero => exact below_zero T.ris
      | succ j =>
        refine below_at T.ris ?_
        have : j < t.place.toList.length := by rw [Array.length_toList]; omega
        exact getD_at this
    have hes : es[i]? = some (es[i]) := by simp [hi]
    refine si_item (x := (es[i]).2) (nx := slotOf t (i + 1)) st.1 st.2.1 rfl (fun A' E' Q' q => next_places st.2.1 hb T.led hp ?_) fun h' g sb => ?_
    · rw [hbl, hes, ← Array.getElem?_toList, hpl]; exact q
    · refine hQ _ h' s.toks ?_ ⟨g, st.2.1.keep fun o e => sb.extBut S o hne e, hi⟩ fun b o hb e => sb.extBut b o (fun z => hb (by simp [z])) e
      rw [Array.getElem?_toList, hes]; rfl
  done := fun s Q E st hQ => by
    rw [Array.length_toList] at st
    have hsz : t.place.size = es.size := by unfold SetTable.fits at hf; simp at hf; exact hf.1
    have hbl : SetTable.below t.place (slotOf t es.size) = es.size := by
      cases e : es.size with
      | zero => exact below_zero T.ris
      | succ j =>
        refine below_at T.ris ?_
        have : j < t.place.toList.length := by rw [Array.length_toList]; omega
        exact getD_at this
    refine si_end hh st.1 st.2.1 rfl (fun A' E' Q' q => next_places st.2.1 hb T.led hp ?_) fun h' eb => hQ h' s.toks fun b o hb e => eb b o (fun z => hb (by simp [z])) e
    rw [hbl, show es[es.size]? = none by simp]; exact q
  self := fun _ _ _ _ st hQ => si_self st.1 hQ
theorem walks_text (hh : A.handled = none) (hb : w.params.followText "set-order" = true) {I S : Addr} (hne : S ≠ I) {es : Array (Int × Value)} {ep : Nat} {t : SetTable} {slot : Nat} :
    Walks P w A I [I, S] [I] (pickOrder (w.params.setOrder S ep) es).toList.length (fun i v => ((pickOrder (w.params.setOrder S ep) es).toList[i]?).map (·.2) = some v) (fun i h => h.get? I = some (siObj (.int slot 0) S i es.size ep) ∧ SAt h S es ep t) where
  sub := fun b hb => by simp at hb; simp [hb]
  frame := fun i h h' st hk => ⟨hk I (by simp) _ st.1, st.2.keep fun o e => hk S (by simp) o e⟩
  item := fun i s Q E hi st hQ => by
    have hes : (pickOrder (w.params.setOrder S ep) es).toList[i]? = some ((pickOrder (w.params.setOrder S ep) es).toList[i]) := by simp
    refine si_item (x := ((pickOrder (w.params.setOrder S ep) es).toList[i]).2) (nx := slot) st.1 st.2 rfl (fun A' E' Q' q => next_text st.2 hb ?_) fun h' g sb => ?_
    · rw [← Array.getElem?_toList, hes]; exact q
    · refine hQ _ h' s.toks (by rw [hes]; rfl) ⟨g, st.2.keep fun o e => sb.extBut S o hne e⟩ fun b o hb e => sb.extBut b o (fun z => hb (by simp [z])) e
  done := fun s Q E st hQ => by
    refine si_end hh st.1 st.2 rfl (fun A' E' Q' q => next_text st.2 hb ?_) fun h' eb => hQ h' s.toks fun b o hb e => eb b o (fun z => hb (by simp [z])) e
    rw [← Array.getElem?_toList, List.getElem?_eq_none (Nat.le_refl _)]; exact q
  self := fun _ _ _ _ st hQ => si_self st.1 hQ
theorem walks_drawn (hh : A.handled = none) {I S T : Addr} (hne : S ≠ I) (hnt : T ≠ I) {es : Array (Int × Value)} {ep : Nat} {t : SetTable} {pl : List Nat} (hp : pl.Perm (List.range es.size)) :
    Walks P w A I [I, S, T] [I] pl.length (fun i v => ∃ p e, pl[i]? = some p ∧ es.toList[p]? = some e ∧ v = e.2) (fun i h => h.get? I = some (siObj (.ref T) S i es.size ep) ∧ SAt h S es ep t ∧ h.get? T = some { cls := .type "tuple", data := .seq (pl.map fun (k : Nat) => rawInt k).toArray }) where
  sub := fun b hb => by simp at hb; simp [hb]
  frame := fun i h h' st hk => ⟨hk I (by simp) _ st.1, st.2.1.keep fun o e => hk S (by simp) o e, hk T (by simp) _ st.2.2⟩
  item := fun i s Q E hi st hQ => by
    have hpl : pl[i]? = some pl[i] := by simp [hi]
    have hlt : pl[i] < es.size := List.mem_range.mp (hp.mem_iff.mp (List.getElem_mem hi))
    have hes : es[pl[i]]? = some (es[pl[i]]) := by simp [hlt]
    refine sd_item st.1 st.2.1 rfl st.2.2 hpl hes fun h' g sb => ?_
    exact hQ _ h' s.toks ⟨_, _, hpl, by rw [Array.getElem?_toList]; exact hes, rfl⟩ ⟨g, st.2.1.keep fun o e => sb.extBut S o hne e, sb.extBut T _ hnt st.2.2⟩ fun b o hb e => sb.extBut b o (fun z => hb (by simp [z])) e
  done := fun s Q E st hQ => sd_end hh st.1 st.2.1 rfl st.2.2 (by simp) fun h' eb => hQ h' s.toks fun b o hb e => eb b o (fun z => hb (by simp [z])) e
  self := fun _ _ _ _ st hQ => si_self st.1 hQ
end
end L2
set_option Elab.async false
set_option linter.all false
set_option maxRecDepth 100000
set_option maxHeartbeats 4000000
namespace L2
open PySem PySem.Spec PyProof.Rows
section
variable {P : Program} {w : World} {A : Around} {E : Value → Shared → Prop} {s : Shared}
theorem hint_set {S : Addr} {Q : Bool → Shared → Prop} (hT : s.TypeIs (.ref S) "set") (h : Q false s) : wpAny (model P w) A (Builtin.List.listLengthHint (.ref S)) Q E s := by
  unfold Builtin.List.listLengthHint
  refine wpAny_bind (wpAny_specialOf hT PySem.F.slot_set_len.lookup ?_)
  generalize hid : ("set.__len__" : String) = id0
  wp_delta
  rw [show splitId id0 = some ("set", "__len__") from by subst hid; decide +kernel]
  subst hid
  refine wpAny_bind (wpAny_isInstance (T := "set") (b := true) hT (by rw [isSubtype_type]; kernel_rfl) ?_)
  refine wpAny_ite_split (fun hab => absurd hab (by decide)) (fun _ => ?_)
  refine wpAny_ite_split (fun _ => ?_) (fun hab => absurd (by decide +kernel) hab)
  exact wpAny_bind (wpAny_typeOf hT (wpAny_pure h))
theorem map_getD {α : Type} (d : α) (L : List α) : (List.range L.length).map (fun p => L.getD p d) = L := by
  refine List.ext_getElem? fun i => ?_
  by_cases h : i < L.length
  · simp [List.getD, h]
  · rw [List.getElem?_eq_none (by simp; omega), List.getElem?_eq_none (by omega)]
def Outs (n : Nat) (Pv : Nat → Value → Prop) (ks : List Int) : Prop := ∀ vs : List Value, vs.length = n → (∀ (j : Nat) v, vs[j]? = some v → Pv j v) → ∃ ns, IntsAre vs ns ∧ ns.Nodup ∧ ∀ k, k ∈ ns ↔ k ∈ ks
theorem outs_of {es ord : List (Int × Value)} {ns ks : List Int} (hi : IntsAre (es.map (·.2)) ns) (nd : ns.Nodup) (hm : ∀ k, k ∈ ns ↔ k ∈ ks) (hp : ord.Perm es) : Outs ord.length (fun i v => (ord[i]?).map (·.2) = some v) ks := fun vs hl hv => by
  have e : vs = ord.map (·.2) := by
    refine List.ext_getElem? fun i => ?_
    by_cases h : i < vs.length
    · have hv' := hv i vs[i] (by simp)
      rw [List.getElem?_map, hv']; simp
    · rw [List.getElem?_eq_none (by omega), List.getElem?_eq_none (by simp; omega)]
  obtain ⟨ns', h1, h2⟩ := ints_map_perm hp hi
  exact ⟨ns', e ▸ h1, h2.symm.nodup nd, fun k => (h2.mem_iff).trans (hm k)⟩
theorem outs_drawn {es : List (Int × Value)} {ns ks : List Int} {pl : List Nat} (hi : IntsAre (es.map (·.2)) ns) (nd : ns.Nodup) (hm : ∀ k, k ∈ ns ↔ k ∈ ks) (hp : pl.Perm (List.range es.length)) : Outs pl.length (fun i v => ∃ p e, pl[i]? = some p ∧ es[p]? = some e ∧ v = e.2) ks := fun vs hl hv => by
  have e : vs = pl.map (fun p => (es.map (·.2)).getD p .none) := by
    refine List.ext_getElem? fun i => ?_
    by_cases h : i < vs.length
    · obtain ⟨p, en, h1, h2, h3⟩ := hv i vs[i] (by simp)
      rw [List.getElem?_map, h1, List.getElem?_eq_getElem h, h3]
      simp [List.getD, h2]
    · rw [List.getElem?_eq_none (by omega), List.getElem?_eq_none (by simp; omega)]
  have hp2 : vs.Perm (es.map (·.2)) := by
    rw [e]
    have := hp.map (fun p => (es.map (·.2)).getD p Value.none)
    rw [show List.range es.length = List.range (es.map (·.2)).length by simp, map_getD] at this
    exact this
  obtain ⟨ns', h1, h2⟩ := ints_perm hp2 hi
  exact ⟨ns', h1, h2.symm.nodup nd, fun k => (h2.mem_iff).trans (hm k)⟩
theorem set_iter {S : Addr} {ks : List Int} {Q : Value → Shared → Prop} (hh : A.handled = none) (hS : SetI P w s.heap S (!w.params.followText "set-order") ks)
    (h : ∀ (I : Addr) (h2 : Heap) (dr : Drawn) (fp : List Addr) (n : Nat) (Pv : Nat → Value → Prop) (St : Nat → Heap → Prop), (∀ b o, s.heap.get? b = some o → h2.get? b = some o) → Walks P w A I fp [I] n Pv St → St 0 h2 → (∀ b ∈ fp, b = S ∨ s.heap.get? b = none) → s.heap.get? I = none → n < scanBound → Outs n Pv ks →
      Q (.ref I) { s with heap := h2, drawn := dr }) : wpAny (model P w) A (pyIter (.ref S)) Q E s := by
  obtain ⟨o, es, ep, t, ns, ho, hex, hd, hel, hi, nd, hm, hb, hf, hT⟩ := hS
  have hTy : s.TypeIs (.ref S) "set" := ⟨o, ho, hex.1⟩
  have hSlt := Heap.lt_size ho
  refine wpAny_pyIter_slot hTy F.slot_set_iter (wpAny_call_entry F.slot_set_iter hTy F.set_iter_e ?_ (F.args_set_iter_1 _))
  unfold Builtin.«frozenset.__iter__»
  refine wpAny_bind (wpAny_pure ?_)
  show wpAny _ _ (Builtin.Frozenset.sizeOf S >>= _) _ _ _
  unfold Builtin.Frozenset.sizeOf
  refine wpAny_bind (wpAny_bind (wpAny_setEntries_of ho hd hf (wpAny_pure ?_)))
  unfold setDrawn
  refine wpAny_bind (wpAny_bind (wpAny_setState_of ho hd hf ?_))
  dsimp only
  unfold setsByText
  refine wpAny_bind (wpAny_bind (wpAny_askSetting (wpAny_pure (wpAny_pure ?_))))
  show wpAny _ _ (if (!w.params.followText "set-order" && (!t.plain && decide (es.size > 1))) = true then _ else _) _ _ _
  have hnone : ∀ {h' : Heap} {b : Addr}, s.heap.objs.size ≤ b → s.heap.get? b = none := fun hb => Heap.get?_none_of_le hb
  by_cases hc : (!w.params.followText "set-order" && (!t.plain && decide (es.size > 1))) = true
  · rw [if_pos hc]
    refine wpAny_bind (own_order es.size (List.range es.size) _ _ (by simp) fun pl dr hp => ?_)
    have hpl : pl.length = es.size := by rw [hp.length_eq, List.length_range]
    refine wpAny_bind (wpAny_newTuple ?_ (by rw [List.length_map, hpl]; exact fits_of_scanBound hb))
    refine wpAny_bind (wpAny_setEpoch_of (s := { s with heap := s.heap.push { cls := .type "tuple", data := .seq (pl.map fun (k : Nat) => rawInt k).toArray }, drawn := dr }) (Heap.get?_push_of_some _ ho) hd hf ?_)
    refine wpAny_bind (wpAny_newObj_type (wpAny_pure ⟨_, rfl, "set_iterator", _, ⟨_, Heap.get?_push_size _ rfl, rfl⟩, F.si_next.lookup, ?_⟩))
    have hsz : (s.heap.push { cls := .type "tuple", data := .seq (pl.map fun (k : Nat) => rawInt k).toArray }).objs.size = s.heap.objs.size + 1 := Heap.size_push ..
    have e2 : ∀ b ob, s.heap.get? b = some ob → ((s.heap.push { cls := .type "tuple", data := .seq (pl.map fun (k : Nat) => rawInt k).toArray }).push (siObj (.ref s.heap.objs.size) S 0 es.size ep)).get? b = some ob := fun b ob e => Heap.get?_push_of_some _ (Heap.get?_push_of_some _ e)
    refine h _ _ dr [_, S, s.heap.objs.size] pl.length _ _ e2 (walks_drawn (t := t) hh ?_ ?_ hp) ⟨?_, ⟨⟨o, e2 _ _ ho, hex, hd⟩, hf⟩, ?_⟩ ?_ ?_ (by rw [hpl]; exact hb) (outs_drawn hi nd hm (by simpa using hp))
    · rw [hsz]; exact Nat.ne_of_lt (Nat.lt_succ_of_lt hSlt)
    · rw [hsz]; exact Nat.ne_of_lt (Nat.lt_succ_self _)
    · exact Heap.get?_push_size _ rfl
    · exact Heap.get?_push_of_some _ (Heap.get?_push_size _ rfl)
    · intro b hb'
      simp only [List.mem_cons, List.not_mem_nil, or_false] at hb'
      rcases hb' with rfl | rfl | rfl
      · exact .inr (Heap.get?_none_of_le (by rw [hsz]; exact Nat.le_succ _))
      · exact .inl rfl
      · exact .inr (Heap.get?_none_of_le (Nat.le_refl _))
    · exact Heap.get?_none_of_le (by rw [hsz]; exact Nat.le_succ _)
  · rw [if_neg hc]
    refine wpAny_bind (wpAny_pure (wpAny_bind (wpAny_setEpoch_of ho hd hf ?_)))
    refine wpAny_bind (wpAny_newObj_type (wpAny_pure ⟨_, rfl, "set_iterator", _, ⟨_, Heap.get?_push_size _ rfl, rfl⟩, F.si_next.lookup, ?_⟩))
    have e2 : ∀ b ob, s.heap.get? b = some ob → (s.heap.push (siObj (.int 0 0) S 0 es.size ep)).get? b = some ob := fun b ob e => Heap.get?_push_of_some _ e
    have hne : S ≠ s.heap.objs.size := Nat.ne_of_lt hSlt
    have hfp : ∀ b ∈ [s.heap.objs.size, S], b = S ∨ s.heap.get? b = none := fun b hb' => by
      simp only [List.mem_cons, List.not_mem_nil, or_false] at hb'
      rcases hb' with rfl | rfl
      · exact .inr (Heap.get?_none_of_le (Nat.le_refl _))
      · exact .inl rfl
    cases ht : w.params.followText "set-order" with
    | true =>
      have pm := pick_all (w.params.setOrder S ep) es
      have hlen : (pickOrder (w.params.setOrder S ep) es).toList.length < scanBound := by rw [pm.length_eq, Array.length_toList]; exact hb
      exact h _ _ s.drawn [s.heap.objs.size, S] _ _ _ e2 (walks_text (t := t) (slot := 0) hh ht hne) ⟨Heap.get?_push_size _ rfl, ⟨⟨o, e2 _ _ ho, hex, hd⟩, hf⟩⟩ hfp (Heap.get?_none_of_le (Nat.le_refl _)) hlen (outs_of hi nd hm pm)
    | false =>
      rw [ht] at hT hc
      have hp : t.plain = true ∨ es.size ≤ 1 := by
        cases hpl : t.plain with
        | true => exact .inl rfl
        | false =>
          rw [hpl] at hc
          refine .inr (Nat.le_of_not_lt fun z => hc ?_)
          simpa using z
      exact h _ _ s.drawn [s.heap.objs.size, S] _ _ _ e2 (walks_places hh ht hne hT hf hp) ⟨Heap.get?_push_size _ rfl, ⟨⟨o, e2 _ _ ho, hex, hd⟩, hf⟩, Nat.zero_le _⟩ hfp (Heap.get?_none_of_le (Nat.le_refl _)) (by rw [Array.length_toList]; exact hb) (outs_of hi nd hm (.refl _))
end
end L2
set_option Elab.async false
set_option linter.all false
set_option maxRecDepth 100000
set_option maxHeartbeats 4000000
namespace L2
open PySem PySem.Spec PyProof.Rows
section
variable {P : Program} {w : World} {A : Around} {E : Value → Shared → Prop} {s : Shared}
theorem set_extend {S D : Addr} {ks : List Int} {R : Result → Shared → Prop} (hh : A.handled = none) (hS : SetI P w s.heap S (!w.params.followText "set-order") ks) (hne : D ≠ S) (res : Value) {c0 : Nat} (hD : s.heap.get? D = some { cls := .type "list", data := .seq #[] c0 })
    (hR : ∀ (h' : Heap) (tk : Nat) (dr : Drawn) (acc : Array Value) (c : Nat) (ns : List Int), (∀ b o, b ≠ D → s.heap.get? b = some o → h'.get? b = some o) → h'.get? D = some { cls := .type "list", dict := none, data := .seq acc c, slots := #[] } → IntsAre acc.toList ns → ns.Nodup → (∀ k, k ∈ ns ↔ k ∈ ks) →
      R (.ok (.ret res)) { s with heap := h', toks := tk, drawn := dr }) :
    wpAny (model P w) A.in1 (Builtin.List.listExtendWith (.ref D) (.ref S) res) (fun fin s' => match fin with | .done f => R (.ok f) s' | .again c' => c'.quiet = true ∧ codeAny (model P w) A c' R s') (fun e s' => R (.error e) s') s := by
  have hTy : s.TypeIs (.ref S) "set" := by
    obtain ⟨o, es, ep, t, ns, ho, hex, _⟩ := hS
    exact ⟨o, ho, hex.1⟩
  unfold Builtin.List.listExtendWith
  refine wpAny_bind (wpAny_typeOf (T := "set") hTy ?_)
  have h1 : Builtin.List.listSameRef (.ref D) (.ref S) = false := by simp [Builtin.List.listSameRef, hne]
  have h2 : (Value.type "set" == Value.type "list") = false := by decide
  have h3 : (Value.type "set" == Value.type "tuple") = false := by decide
  simp only [h1, h2, h3, Bool.or_false, Bool.false_eq_true, if_false]
  refine wpAny_bind (set_iter (A := A.in1) hh hS fun I hp dr fp n Pv St kp W st hfp hI hn outs => ?_)
  have hDp := kp _ _ hD
  have hDf : D ∉ fp := fun hm => by
    rcases hfp D hm with e | e
    · exact hne e
    · rw [hD] at e; cases e
  have key : ∀ (h4 : Heap) (c4 tk : Nat), St 0 h4 → (∀ b o, b ≠ D → s.heap.get? b = some o → h4.get? b = some o) → h4.get? D = some { cls := .type "list", data := .seq #[] c4 } →
      codeAny (model P w) A (.builtin "list.extend.loop" ⟨[.ref D, .ref I, res], []⟩) R { s with heap := h4, toks := tk, drawn := dr } := by
    intro h4 c4 tk st4 k4 hD4
    refine codeAny_extend_loopS W.toS (fits_of_scanBound hn) D hDf res n 0 _ #[] c4 rfl (Nat.zero_le _) st4 hD4 (ItemsOf.nil _) fun s5 acc c5 hm hD5 hacc => ?_
    obtain ⟨ns, i1, i2, i3⟩ := outs acc.toList (by rw [Array.length_toList]; exact hacc.1) fun j v e => hacc.2 j v (by rw [← Array.getElem?_toList]; exact e)
    rw [Moved.eq_with hm]
    refine hR s5.heap s5.toks dr acc c5 ns (fun b o hb e => hm.heap b o (fun hmem => ?_) (k4 b o hb e)) hD5 i1 i2 i3
    rcases List.mem_cons.mp hmem with z | z
    · exact hb z
    · rw [List.mem_singleton.mp z] at e; rw [hI] at e; cases e
  refine wpAny_bind (wpAny_holding (hint_set (s := { s with heap := hp, drawn := dr }) (by obtain ⟨o, ho, hc⟩ := hTy; exact ⟨o, kp _ _ ho, hc⟩) ?_))
  refine wpAny_ite_split (fun _ => ?_) (fun _ => wpAny_pure ⟨plainId_quiet PySem.F.plain_extend_loop _, key hp c0 _ st (fun b o _ e => kp b o e) hDp⟩)
  refine wpAny_bind (wpAny_rule (wpAny_bind ?_))
  show wpAny _ _ (updateSeq D (·.push .none) >>= fun _ => updateSeq D (·.pop)) _ _ _
  refine wpAny_bind (wpAny_updateSeq hDp rfl ?_)
  have g2 := Heap.get?_update_self (Obj.mapSeq (·.push Value.none)) hDp rfl
  refine wpAny_updateSeq (hz := by seq_fits) g2 rfl ?_
  have g3 := Heap.get?_update_self (Obj.mapSeq (·.pop)) g2 rfl
  refine wpAny_pure ⟨plainId_quiet PySem.F.plain_extend_loop _, key _ _ _ (W.frame 0 _ _ st fun b hb o e => ?_) (fun b o hb e => ?_) g3⟩
  · have hbD : b ≠ D := fun z => hDf (z ▸ hb)
    exact (Heap.get?_update_other _ _ (Ne.symm hbD)).trans ((Heap.get?_update_other _ _ (Ne.symm hbD)).trans e)
  · exact (Heap.get?_update_other _ _ (Ne.symm hb)).trans ((Heap.get?_update_other _ _ (Ne.symm hb)).trans (kp b o e))
theorem set_collect {S : Addr} {ks : List Int} {R : List Value → Shared → Prop} (hh : A.handled = none) (hS : SetI P w s.heap S (!w.params.followText "set-order") ks)
    (h : ∀ (h' : Heap) (tk : Nat) (dr : Drawn) (vs : List Value) (ns : List Int), (∀ b o, s.heap.get? b = some o → h'.get? b = some o) → IntsAre vs ns → ns.Nodup → (∀ k, k ∈ ns ↔ k ∈ ks) → R vs { s with heap := h', toks := tk, drawn := dr }) :
    wpAny (model P w) A (collect (.ref S)) R E s := by
  have hlt : S < s.heap.objs.size := by
    obtain ⟨o, es, ep, t, ns, ho, _⟩ := hS
    exact Heap.lt_size ho
  unfold collect
  refine wpAny_bind (wpAny_runValue (codeAny_builtin entry_proto_collect' ?_))
  rw [Around.under_plainId PySem.F.plain_proto_collect _]
  show wpAny _ A.in1 (newList [] >>= fun l => again (.builtin "list.__iadd__" ⟨[l, .ref S], []⟩)) _ _ s
  refine wpAny_bind (wpAny_newObj_type (wpAny_pure ⟨plainId_quiet PySem.F.plain_list_iadd _, codeAny_builtin entry_list_iadd' ?_⟩))
  rw [Around.under_plainId PySem.F.plain_list_iadd _]
  have hD : (s.heap.push { cls := .type "list", data := .seq ([] : List Value).toArray }).get? s.heap.objs.size = some { cls := .type "list", data := .seq #[] } := Heap.get?_push_size _ rfl
  show wpAny _ A.in1 (Builtin.List.listExtendWith (.ref s.heap.objs.size) (.ref S) (.ref s.heap.objs.size)) _ _ _
  have key := set_extend (A := A) (s := { s with heap := s.heap.push { cls := .type "list", data := .seq ([] : List Value).toArray } }) (ks := ks)
    (R := fun (q : Result) (s' : Shared) => ∃ (h' : Heap) (tk : Nat) (dr : Drawn) (acc : Array Value) (c : Nat) (ns : List Int), q = .ok (.ret (.ref s.heap.objs.size)) ∧ s' = { s with heap := h', toks := tk, drawn := dr } ∧ (∀ b o, s.heap.get? b = some o → h'.get? b = some o) ∧
      h'.get? s.heap.objs.size = some { cls := .type "list", dict := none, data := .seq acc c, slots := #[] } ∧ IntsAre acc.toList ns ∧ ns.Nodup ∧ ∀ k, k ∈ ns ↔ k ∈ ks)
    hh (hS.keep fun o e => Heap.get?_push_of_some _ e) (Nat.ne_of_gt hlt) (.ref s.heap.objs.size) hD
    (fun h' tk dr acc c ns hk g i1 i2 i3 => ⟨h', tk, dr, acc, c, ns, rfl, rfl, fun b o e => hk b o (Nat.ne_of_lt (Heap.lt_size e)) (Heap.get?_push_of_some _ e), g, i1, i2, i3⟩)
  refine wpAny_mono key (fun fin s' x => ?_) fun e s' x => ?_
  · cases fin with
    | done f =>
      obtain ⟨h', tk, dr, acc, c, ns, e, rfl, hk, g, i1, i2, i3⟩ := x
      cases e
      show wpAny _ A (load s.heap.objs.size >>= _) _ _ _
      exact wpAny_bind (wpAny_load g (wpAny_pure (h h' tk dr acc.toList ns hk i1 i2 i3)))
    | again c1 =>
      refine ⟨x.1, codeAny_mono x.2 fun q s2 y => ?_⟩
      obtain ⟨h', tk, dr, acc, c, ns, rfl, rfl, hk, g, i1, i2, i3⟩ := y
      show wpAny _ A (load s.heap.objs.size >>= _) _ _ _
      exact wpAny_bind (wpAny_load g (wpAny_pure (h h' tk dr acc.toList ns hk i1 i2 i3)))
  · obtain ⟨_, _, _, _, _, _, z, _⟩ := x
    cases z
theorem sorted_set {S : Addr} {ks : List Int} {Q : Value → Shared → Prop} (hh : A.handled = none) (hS : SetI P w s.heap S (!w.params.followText "set-order") ks) (h64 : ∀ ns : List Int, ns.Nodup → (∀ k ∈ ns, k ∈ ks) → ns.length < 64)
    (h : ∀ (h1 h2 : Heap) (tk : Nat) (dr : Drawn) (out : List Value) (ns : List Int) (e : Nat), (∀ b o, s.heap.get? b = some o → h1.get? b = some o) → (∀ b o, h1.get? b = some o → h2.get? b = some o) → IntsAre out ns → ns.Nodup → ns.Pairwise (· ≤ ·) → (∀ k, k ∈ ns ↔ k ∈ ks) →
      h2.get? h1.objs.size = some { cls := .type "list", data := .seq out.toArray e } → Q (.ref h1.objs.size) { s with heap := h2, toks := tk, drawn := dr }) :
    wpAny (model P w) A (call (.builtin "sorted") [.ref S]) Q E s := by
  refine Calls.call_function_entry kind_sorted plain_sorted entry_sorted (args_sorted1 _) ?_
  unfold Builtin.«sorted»
  refine wpAny_bind (m := checkCount "sorted" 1 1 _) (wpAny_pure ?_)
  refine wpAny_bind (set_collect (A := A.in1) hh hS fun h' tk dr vs ns hk i1 i2 i3 => ?_)
  have hl : vs.length < 64 := by rw [i1.length]; exact h64 ns i2 fun k hk => (i3 k).mp hk
  refine wpAny_bind (wpAny_newList ?_ (small (m := 64) (Nat.le_of_lt hl)))
  have hoL : (h'.push (seqObj "list" vs.toArray 0)).get? h'.objs.size = some (seqObj "list" vs.toArray 0) := Heap.get?_push_size _ rfl
  refine wpAny_bind (wpAny_holding (wpAny_call_entry slot_list_sort ⟨_, hoL, rfl⟩ entry_list_sort (list_sort_tree (n := 0) hoL i1 hl fun out ns' a1 a2 a3 => ⟨_, rfl, ?_⟩) (args_list_sort _)))
  obtain ⟨e, he⟩ := sortedHeap_at (out := out) hoL
  refine wpAny_pure ⟨_, rfl, h h' _ tk dr out.toList ns' e hk (fun b o q1 => ?_) a1 (a2.symm.nodup i2) a3 (fun k => a2.mem_iff.trans (i3 k)) (by simpa using he)⟩
  rw [sortedHeap_old (Nat.ne_of_lt (Heap.lt_size q1)) (by rw [size_push']; exact Nat.lt_succ_of_lt (Heap.lt_size q1))]
  exact Heap.get?_push_of_some _ q1
end
theorem rise_lt {ns : List Int} (h : ns.Pairwise (· ≤ ·)) (d : ns.Nodup) : ns.Pairwise (· < ·) := by
  refine (h.and d).imp fun hm0 => ?_
  obtain ⟨a, b⟩ := hm0
  omega
def tSSet (K : PySem.W.Frag) (ta : TA) : TE := fun σ H Q => ta σ H fun vs H1 => ∃ (a : Addr) (ks : List Int), vs = [.ref a] ∧ SqL K H1 a (ks.map V.int) ∧ ks.length + 1 < 4096 ∧ (∀ ns : List Int, ns.Nodup → (∀ k ∈ ns, k ∈ ks) → ns.length < 64) ∧
  ∀ (p : Addr) (ns : List Int), H1 p = none → ns.Pairwise (· < ·) → (∀ k, k ∈ ns ↔ k ∈ ks) → Q (.ref p) (upd H1 p (.lst (ns.map V.int)))
theorem pe_sorted_set {X : Cx} {e : Expr} {ta : TA} {p1 p2 pos1 pos2 : Pos} (hc : X.calm = true) (hg : Gl X "sorted") (hm : X.mg "sorted" = none) (hg2 : Gl X "set") (hm2 : X.mg "set" = none) (he : PA X [e] ta)
    (h1 : starEach [e] X.env = [(false, eval e X.env)] := by rfl) (h2 : starEach [.Call (.Name "set" p2) [e] [] pos2] X.env = [(false, eval (.Call (.Name "set" p2) [e] [] pos2) X.env)] := by rfl) :
    PE X (.Call (.Name "sorted" p1) [.Call (.Name "set" p2) [e] [] pos2] [] pos1) (tSSet X.K ta) := by
  intro pins s σ H Q I h
  have inner : wpAny (model X.prog X.w) X.A (eval (.Call (.Name "set" p2) [e] [] pos2) X.env) (fun v s1 => ∃ (S : Addr) (H1 : Hp) (ks : List Int), v = .ref S ∧ Inv X pins σ H1 s1 ∧ SetI X.prog X.w s1.heap S (!X.w.params.followText "set-order") ks ∧ (∀ ns : List Int, ns.Nodup → (∀ k ∈ ns, k ∈ ks) → ns.length < 64) ∧
      ∀ (p : Addr) (ns : List Int), H1 p = none → ns.Pairwise (· < ·) → (∀ k, k ∈ ns ↔ k ∈ ks) → Q (.ref p) (upd H1 p (.lst (ns.map V.int)))) X.xe s := by
    refine Call_ (ld_blt I hg2 hm2 PyProof.Rows.boot_set (PyProof.Rows.callWith_type1 (thn (he pos2 pins s σ H _ I h) fun us s1 hm0 => ?_) h1 rfl))
    obtain ⟨vs, H1, I1, r, q⟩ := hm0
    obtain ⟨a, ks, rfl, ha, hz, h64, q⟩ := q
    obtain ⟨u, rfl, ru⟩ := vals1 r
    cases ru
    obtain ⟨its, rv, pl, _⟩ := I1.list ha
    have hi : IntsAre its ks := intsAre_of rv
    have hs : its.toArray.size = ks.length := by rw [List.size_toArray]; exact hi.length
    refine PySem.own_set_list (I1.ok.hd hc) pl.isList (by simpa using hi) (by rw [hs]; exact hz) fun h' tk sI k => ?_
    rw [hs, map_getD] at sI
    exact ⟨_, H1, ks, rfl, I1.kept (t' := tk) k, sI, h64, q⟩
  refine Call_ (ld_blt I hg hm PyProof.Rows.boot_sorted (PyProof.Rows.callWith_builtin1 (by
    rw [h2]
    refine Calls.spliced_cons (thn inner fun v s1 x => Calls.spliced_nil ?_)
    obtain ⟨S, H1, ks, rfl, I1, sI, h64, q⟩ := x
    refine sorted_set (I1.ok.hd hc) sI h64 fun h1 h2 tk dr out ns e k1 k2 i1 nd pw mem ho => ?_
    have I2 : Inv X pins σ H1 { s1 with heap := h1, toks := tk, drawn := dr } := I1.call' (s' := { s1 with heap := h1, toks := tk, drawn := dr }) (ch := []) rfl (Un.kept k1) (I1.hok.kept k1) I1.bare (fun _ z => nomatch z)
    have hz : (ns.map V.int).length ≤ sizeLine := by rw [List.length_map]; exact small (m := 64) (Nat.le_of_lt (h64 ns nd fun k hk => (mem k).mp hk))
    exact ⟨.ref h1.objs.size, _, I2.laid (t' := tk) (o := .lst (ns.map V.int)) k2 (Nat.le_refl _) ⟨hz, out, e, vals_of i1, ho⟩, rfl, q _ ns I2.fresh (rise_lt pw nd) mem⟩) h2 rfl))
end L2
set_option Elab.async false
set_option linter.all false
set_option maxRecDepth 100000
set_option maxHeartbeats 1000000
namespace L2
open PySem PySem.Spec PyProof.Rows
theorem inV_ints (x : Int) (ns : List Int) : inV (.int x) (ns.map V.int) = decide (x ∈ ns) := by
  unfold inV
  rw [List.any_map, Bool.eq_iff_iff, decide_eq_true_iff, List.any_eq_true]
  constructor
  · rintro ⟨y, hy, e⟩
    have : y = x := by simpa [eqV] using e
    exact this ▸ hy
  · intro h
    exact ⟨x, h, by simp [eqV]⟩
theorem int_of_at {ns : List Int} {i : Nat} {x : V} (h : (ns.map V.int)[i]? = some x) : ∃ z, ns[i]? = some z ∧ x = .int z := by
  rw [List.getElem?_map] at h
  cases e : ns[i]? with
  | none => rw [e] at h; cases h
  | some z => rw [e] at h; exact ⟨z, rfl, (Option.some.inj h).symm⟩
theorem smlt {n m : Nat} (h : n ≤ m) (hm : m + 1 ≤ 1000000 := by decide) : n < sizeLine := small (n := n + 1) (m := m + 1) (Nat.succ_le_succ h) hm
theorem mem_take_snoc {xs : List Int} {i : Nat} {z : Int} (h : xs[i]? = some z) {x : Int} : x ∈ xs.take (i + 1) ↔ x ∈ xs.take i ∨ x = z := by
  rw [List.take_add_one, h]; simp
def del (H : Hp) (g : Addr) : Hp := fun b => if b = g then none else H b
theorem del_at {H : Hp} {g b : Addr} (h : b ≠ g) : del H g b = H b := if_neg h
theorem del_upd {H : Hp} {g : Addr} {o : HO} : del (upd H g o) g = del H g := by
  funext b
  by_cases e : b = g
  · unfold del; rw [if_pos e, if_pos e]
  · rw [del_at e, del_at e, upd_ne e]
theorem del_same (H : Hp) (g : Addr) : Same (del H g) H := fun b o e => by
  by_cases q : b = g
  · unfold del at e; rw [if_pos q] at e; cases e
  · rw [del_at q] at e; exact e
theorem del_mono {H H' : Hp} (s : Same H H') (g : Addr) : Same (del H g) (del H' g) := fun b o e => by
  by_cases q : b = g
  · unfold del at e; rw [if_pos q] at e; cases e
  · rw [del_at q] at e; rw [del_at q]; exact s b o e
def home (H H2 : Hp) (g : Addr) : Hp := newp H (del H2 g)
structure Bld {α : Type} (R : Rel α) (H H2 : Hp) (g : Addr) (xs : List α) : Prop where
  g0 : H g = none
  s : Same H H2
  ex : ∃ vs, H2 g = some (.lst vs) ∧ Paired (R (home H H2 g)) xs vs
section
variable {α : Type} {R : Rel α} {H H1 H2 H3 : Hp} {g : Addr} {xs : List α}
theorem Bld.start (s : Same H H1) (h : H1 g = none) : Bld R H (upd H1 g (.lst [])) g [] := ⟨s.free h, s.trans (same_upd h _), [], upd_same, .nil⟩
theorem Bld.go (m : MonoR R) (b : Bld R H H2 g xs) (s : Same H2 H3) : Bld R H H3 g xs := by
  obtain ⟨g0, s0, vs, h, p⟩ := b
  exact ⟨g0, s0.trans s, vs, s _ _ h, paired_mono m (newp_mono (Same.refl _) (del_mono s g)) p⟩
theorem Bld.push (m : MonoR R) (b : Bld R H H2 g xs) (s : Same H2 H3) {x : α} {v : V} (r : R (newp H2 H3) x v) : ∃ vs, H3 g = some (.lst vs) ∧ vs.length = xs.length ∧ Bld R H (upd H3 g (.lst (vs ++ [v]))) g (xs ++ [x]) := by
  have b3 := b.go m s
  obtain ⟨g0, s0, vs, h, p⟩ := b3
  refine ⟨vs, h, p.length.symm, g0, s0.put g0 _, vs ++ [v], upd_same, ?_⟩
  have e : home H (upd H3 g (.lst (vs ++ [v]))) g = home H H3 g := by unfold home; rw [del_upd]
  rw [e]
  refine Paired.app p (.cons (m.up (fun c o q => ?_) r) .nil)
  have hc2 : H2 c = none := by
    cases z : H2 c with
    | none => rfl
    | some u => rw [newp_none z] at q; cases q
  rw [newp_at hc2] at q
  have hcg : c ≠ g := fun z => by subst z; rw [b.ex.choose_spec.1] at hc2; cases hc2
  unfold home
  rw [newp_at (b.s.free hc2), del_at hcg]; exact q
theorem Bld.done (m : MonoR R) (b : Bld R H H2 g xs) : rLst R (newp H H2) xs (.ref g) := by
  obtain ⟨g0, s0, vs, h, p⟩ := b
  exact ⟨g, vs, rfl, by rw [newp_at g0]; exact h, paired_mono m (newp_mono (Same.refl _) (del_same _ _)) p⟩
theorem Bld.sq (b : Bld R H H2 g xs) : ∃ vs, H2 g = some (.lst vs) ∧ vs.length = xs.length := by
  obtain ⟨vs, h, p⟩ := b.ex
  exact ⟨vs, h, p.length.symm⟩
end
theorem newp_in {H H1 H2 : Hp} (s : Same H1 H2) : Same (newp H H1) (newp H H2) := newp_mono (Same.refl _) s
theorem new_ints {H H' : Hp} {p : Addr} {ns : List Int} (h : H p = none) (h' : H' p = some (.lst (ns.map V.int))) : rLst rInt (newp H H') ns (.ref p) := rLst_ints.mpr ⟨p, rfl, by rw [newp_at h]; exact h'⟩
abbrev Row := Int × Int × List Int
abbrev rRow : Rel Row := rT3 rInt rInt (rLst rInt)
abbrev rGame : Rel (List Row) := rLst rRow
theorem mono_row : MonoR rRow := mono_t3 mono_int mono_int (mono_lst mono_int)
theorem mono_game : MonoR rGame := mono_lst mono_row
theorem row_parts {H : Hp} {r : Row} {v : V} (h : rRow H r v) : ∃ t wa, v = .ref t ∧ H t = some (.tup [.int r.1, .int r.2.1, .ref wa]) ∧ H wa = some (.lst (r.2.2.map V.int)) := by
  obtain ⟨t, x, y, z, rfl, h1, h2, h3, h4⟩ := h
  obtain ⟨wa, rfl, h5⟩ := rLst_ints.mp h4
  cases h2; cases h3
  exact ⟨t, wa, rfl, h1, h5⟩
theorem row_new {H H1 : Hp} {h r : Int} {ws : List Int} {wa t : Addr} (s : Same H H1) (h1 : H wa = none) (h2 : H1 wa = some (.lst (ws.map V.int))) (ht : H1 t = none) : rRow (newp H (upd H1 t (.tup [.int h, .int r, .ref wa]))) (h, r, ws) (.ref t) := by
  refine ⟨t, _, _, _, rfl, ?_, rfl, rfl, new_ints h1 ?_⟩
  · rw [newp_at (s.free ht), upd_same]
  · rw [upd_ne (ne_of_none h2 ht)]; exact h2
theorem game_parts {H : Hp} {G : List Row} {v : V} (h : rGame H G v) : ∃ g vs, v = .ref g ∧ H g = some (.lst vs) ∧ vs.length = G.length ∧
    ∀ (i : Nat) (r : Row), G[i]? = some r → ∃ t wa, vs[i]? = some (.ref t) ∧ H t = some (.tup [.int r.1, .int r.2.1, .ref wa]) ∧ H wa = some (.lst (r.2.2.map V.int)) := by
  obtain ⟨g, vs, rfl, h1, p⟩ := h
  refine ⟨g, vs, rfl, h1, p.length.symm, fun i r hr => ?_⟩
  obtain ⟨y, hy, ry⟩ := Paired.at p hr
  obtain ⟨t, wa, rfl, h2, h3⟩ := row_parts ry
  exact ⟨t, wa, hy, h2, h3⟩
theorem atI_i {vs : List V} {z : Int} {v : V} (h0 : 0 ≤ z) (h : vs[z.toNat]? = some v) : atI vs z = some v := by
  have := atI_nat h
  rwa [Int.toNat_of_nonneg h0] at this
section
variable {X : Cx} {K : PySem.W.Frag} (hK : X.K = K)
include hK
theorem ixL : IxR X (rIxL K) := by subst hK; exact ix_list
theorem ixT : IxR X (rIxT K) := by subst hK; exact ix_tup
theorem slL : SlR X (rSlL K) := by subst hK; exact sl_list
theorem inS : OpR X (compareOp .In) (rIn K false) := by subst hK; exact op_in_seq
theorem notInS : OpR X (compareOp .NotIn) (rIn K true) := by subst hK; exact op_notIn_seq
theorem clLen : CallR X (.builtin "len") (fun xs H Q => ∃ p ys, xs = [.ref p] ∧ (SqL K H p ys ∨ SqT K H p ys) ∧ Q (.int ys.length) H) := by subst hK; exact call_len_seq
theorem clIsi {T : String} : CallR X (.builtin "isinstance") (fun xs H Q => ∃ x S b, xs = [x, .ty T] ∧ kindV H x S ∧ PySem.W.kitOne K (.type S) (.type T) = some b ∧ Q (.bl b) H) := by subst hK; exact call_isi
theorem ptg2 {x y : Str} {p1 p2 pos : Pos} {k : Nat} (hc : X.calm = true) (hN : X.N.Nodup) (h0 : X.N[0]? = some x) (h1 : X.N[1]? = some y) (hx : X.env.scope.names.lookup x = some .local) (hy : X.env.scope.names.lookup y = some .local) :
    PTg X 2 (.Tuple [.Name x p1, .Name y p2] k pos) (ttTup K 2) := by subst hK; exact ptg_tup2 hc hN h0 h1 hx hy
end
theorem comp_listD {K : PySem.W.Frag} {a : Addr} {xs : List V} {tt : TTg} {tc : TT} {te : TE} {cap : List Nat} {σ : St} {H : Hp} {D : Addr → List V → Hp → Prop} (Pv : Nat → List V → Hp → Prop) (h0 : Pv 0 [] H) (hz : xs.length ≤ sizeLine) (hl : ∀ i ys H, i ≤ xs.length → Pv i ys H → SqL K H a xs ∧ ys.length ≤ i)
    (hs : ∀ i x ys H, xs[i]? = some x → Pv i ys H → tt x H fun ws => tc (ws.map some ++ capS σ cap) H fun b H4 => if b = true then te (ws.map some ++ capS σ cap) H4 fun y H5 => Pv (i + 1) (ys ++ [y]) H5 else Pv (i + 1) ys H4)
    (hd : ∀ ys H, Pv xs.length ys H → ∀ p, H p = none → D p ys H) :
    ∃ W : Nat → Nat → List V → Hp → Prop, (∃ m, W 0 m [] H) ∧ ∀ i m ys H2, W i m ys H2 →
    ((Itl K a).stop i H2 ∧ ys.length ≤ sizeLine ∧ ∀ p, H2 p = none → D p ys H2) ∨
    ((Itl K a).go i H2 ∧ ∃ N : List V → Hp → Prop, (∀ ys' H', N ys' H' → ys'.length ≤ sizeLine ∧ ∃ m', m' < m ∧ W (i + 1) m' ys' H') ∧
      ∀ x H3, (Itl K a).yld i H2 x H3 → tt x H3 fun ws => tc (ws.map some ++ capS σ cap) H3 fun b H4 =>
        if b = true then te (ws.map some ++ capS σ cap) H4 fun y H5 => N (ys ++ [y]) H5 else N ys H4) := by
  refine ⟨fun i m ys H => m = xs.length - i ∧ i ≤ xs.length ∧ Pv i ys H, ⟨xs.length, by simp, Nat.zero_le _, h0⟩, ?_⟩
  rintro i m ys H2 ⟨rfl, hi, p⟩
  obtain ⟨q, hy⟩ := hl i ys H2 hi p
  by_cases hlt : i < xs.length
  · refine .inr ⟨⟨xs, xs[i], q, by simp [hlt]⟩, Pv (i + 1), fun ys' H' r => ?_, fun x H3 y => ?_⟩
    · obtain ⟨_, h2⟩ := hl (i + 1) ys' H' hlt r
      exact ⟨by omega, xs.length - (i + 1), by omega, rfl, hlt, r⟩
    · obtain ⟨e, y⟩ := y
      subst e
      exact hs i x ys _ (y xs q) p
  · have e : i = xs.length := by omega
    subst e
    exact .inl ⟨⟨xs, q, Nat.le_refl _⟩, by omega, hd ys H2 p⟩
end L2
set_option Elab.async false
set_option linter.all false
set_option maxRecDepth 100000
set_option maxHeartbeats 1000000
namespace L2
open PySem PySem.Spec PyProof.Rows
theorem Inv.turnedL {X : Cx} {pins : List (Addr × Obj)} {σ : St} {H : Hp} {s : Shared} {h' : Heap} {t' : Nat} {ch : List Addr} (I : Inv X pins σ H s) (hf : ∀ b ∈ ch, FpOk X pins H b) (k : ∀ b o, b ∉ ch → s.heap.get? b = some o → h'.get? b = some o) :
    Inv X pins σ H { s with heap := h', toks := t' } := by
  have nit : ∀ b u, H b = some u → b ∉ ch := fun b u e z => by rw [(hf b z).1] at e; cases e
  refine I.step (g' := s.gens) (d' := s.drawn) (ch := ch) (fun b hb => ?_) (fun b o _ _ hc e _ => k b o hc e) (fun b o _ _ hc e _ => ⟨o.slots, k b o hc e⟩) (fun _ _ _ _ n => n)
    (fun b o hc e => ⟨o, k b o hc e⟩) (fun _ _ e => e) (fun _ _ _ e => e) (fun b ps e => ⟨#[], by rw [e]; simp⟩) (fun m hm => ?_) (fun b u e => ?_) I.bare
  · obtain ⟨_, h1, _, h3, h4, h5⟩ := hf b hb
    exact ⟨h3, h1, h4, h5⟩
  · obtain ⟨o, es, ep, ho, r⟩ := hm
    exact ⟨o, es, ep, k _ o (fun z => (hf _ z).2.1 rfl) ho, r⟩
  · refine (I.hok b u e).stay (fun c v hc q => k c v ?_ q) (fun _ q => q) fun _ _ q => q
    rcases hc with z | z
    · rw [z]; exact nit b u e
    · exact nit c _ z
theorem Inv.adopt {X : Cx} {pins : List (Addr × Obj)} {σ : St} {H : Hp} {s : Shared} {T : Addr} {o : HO} (I : Inv X pins σ H s) (hf : FpOk X pins H T) (new : ObjOk X.prog X.w (upd H T o) s.heap T o) : Inv X pins σ (upd H T o) s := by
  obtain ⟨h0, h1, h2, h3, h4, h5⟩ := hf
  refine I.step (h' := s.heap) (g' := s.gens) (d' := s.drawn) (t' := s.toks) (ch := [T]) (fun b hb => ?_) (fun b u _ _ _ e _ => e) (fun b u _ _ _ e _ => ⟨u.slots, e⟩) (fun b u hc e n => ?_)
    (fun b u _ e => ⟨u, e⟩) (fun b xs e => ?_) (fun b u v e => ?_) (fun b ps e => ⟨#[], ?_⟩) (fun m hm => hm) (I.hok.adopt h0 new) I.bare
  · have e : b = T := by simpa using hb
    subst e
    exact ⟨h3, h1, h4, h5⟩
  · rw [upd_ne (fun z => hc (by simp [z]))]; exact n
  · rw [upd_ne (ne_of_none e h0)]; exact e
  · rw [upd_ne (ne_of_none e h0)]; exact e
  · rw [upd_ne (ne_of_none e h0), e]; simp
def Ite (K : PySem.W.Frag) (a : Addr) : It :=
  ⟨fun i H => ∃ xs x, SqL K H a xs ∧ xs[i]? = some x, fun i H v H' => ∃ T x, v = .ref T ∧ H T = none ∧ (∀ xs, SqL K H a xs → xs[i]? = some x) ∧ H' = upd H T (.tup [.int (i : Nat), x]), fun i H => ∃ xs, SqL K H a xs ∧ xs.length ≤ i⟩
theorem turn_enum {P : Program} {w : World} {K : PySem.W.Frag} {elts : List Expr} {k : Nat} {pos : Pos} (a e it : Addr) (hne : e ≠ it) : Turn P w K (.Tuple elts k pos) (Ite K a) [e, it] e (fun i h => (∃ old, IsEnum h e it (i : Nat) old) ∧ h.IsListIter it a i) where
  mem := by simp
  obj := fun i h st b hb => by
    obtain ⟨⟨old, s1⟩, o, e1, c, d⟩ := st
    rcases List.mem_cons.mp hb with z | z
    · subst z
      exact ⟨_, s1, fun v z => by cases z⟩
    · have z : b = it := by simpa using z
      subst z
      exact ⟨o, e1, fun v z => by rw [d] at z; cases z⟩
  keep := fun i h h' st k => ⟨by obtain ⟨⟨old, s1⟩, _⟩ := st; exact ⟨old, k e (by simp) _ s1⟩, st.2.at fun o q => k it (by simp) o q⟩
  item := by
    intro X hP hw hK hc i pins s σ H E I hf st hg
    subst hP hw hK
    obtain ⟨xs, x, hq, hx⟩ := hg
    obtain ⟨its, rv, p, hz⟩ := I.list hq
    obtain ⟨u, hu, ru⟩ := rv.get hx
    obtain ⟨⟨old, s1⟩, s2⟩ := st
    have le : e < s.heap.objs.size := Heap.lt_size s1
    refine wpAny_pyNext_enum_item s1 s2 p.isList (x := u) (by simpa using hu) hne fun h' ho hi' ht hsz kp => ?_
    refine ⟨_, rfl, wpAny_letOwnedTupleGo_enum ho fun h2 he2 sb => ?_⟩
    have I1 : Inv X pins σ H { s with heap := h2, toks := s.toks + 1 } := I.turnedL (t' := s.toks + 1) (ch := [e, it]) hf fun b o hb q => by
      have hbe : b ≠ e := fun z => hb (by simp [z])
      have hbi : b ≠ it := fun z => hb (by simp [z])
      exact (sb.2 b hbe).trans (kp b o hbe hbi q)
    have hT : h2.get? s.heap.objs.size = some { cls := .type "tuple", data := .seq #[Value.int (i : Nat) s.toks, u] } := (sb.2 _ (Nat.ne_of_gt le)).trans ht
    have hfr : H s.heap.objs.size = none := I.hok.fresh (Nat.le_refl _)
    have vs2 : Vals [V.int (i : Nat), x] [Value.int (i : Nat) s.toks, u] := .cons ⟨s.toks, rfl⟩ (.cons ru .nil)
    have I2 := I1.adopt (o := .tup [.int (i : Nat), x]) (I.fpOk (Nat.le_refl _) hfr) ⟨(by show 2 ≤ sizeLine; decide), [Value.int (i : Nat) s.toks, u], vs2, ⟨_, hT, rfl, _, rfl⟩⟩
    have en : IsEnum h2 e it ((i + 1 : Nat) : Int) u := by
      have e1 : ((i + 1 : Nat) : Int) = ((i : Nat) : Int) + 1 := by omega
      rw [e1]; exact he2
    refine ⟨.ref s.heap.objs.size, _, I2, rfl, ⟨_, x, rfl, hfr, fun ys hy => by rw [I.list_inj hy hq]; exact hx, rfl⟩, ⟨⟨u, en⟩, hi'.at fun o q => (sb.2 it (Ne.symm hne)).trans q⟩, fun b hb => ?_⟩
    rw [upd_ne (fun z => ?_)]
    · exact (hf b hb).1
    · subst z
      rcases List.mem_cons.mp hb with z | z
      · exact absurd z (Nat.ne_of_gt le)
      · have z : s.heap.objs.size = it := by simpa using z
        obtain ⟨o, q, _⟩ := s2
        exact absurd z (Nat.ne_of_gt (Heap.lt_size q))
  done := by
    intro X hP hw hK hc i pins s σ H E I hf st hg
    subst hP hw hK
    obtain ⟨xs, hq, hx⟩ := hg
    obtain ⟨its, rv, p, hz⟩ := I.list hq
    obtain ⟨⟨old, s1⟩, s2⟩ := st
    have hl := rv.length
    refine wpAny_pyNext_enum_end (I.ok.hd hc) s1 s2 p.isList (by simp; omega) fun h' eb => ⟨rfl, ?_⟩
    exact I.turnedL (t' := s.toks) (ch := [it]) (fun b hb => hf b (List.mem_cons_of_mem _ hb)) fun b o hb q => eb b o (fun z => hb (by simp [z])) q
  self := fun _ _ _ _ _ st h => wpAny_pyIter_enum st.1.choose_spec h
def iEnum (K : PySem.W.Frag) (ta : TA) : TI := fun σ H R => ta σ H fun vs H1 => ∃ a, vs = [.ref a] ∧ (∃ xs, SqL K H1 a xs) ∧ R (Ite K a) H1
theorem pi_enum {X : Cx} {K : PySem.W.Frag} {elts : List Expr} {k : Nat} {tpos : Pos} {l : Expr} {ta : TA} {p pos : Pos} (hK : X.K = K) (hg : Gl X "enumerate") (hm : X.mg "enumerate" = none) (ha : PA X [l] ta) (hs : starEach [l] X.env = [(false, eval l X.env)] := by rfl) :
    PI X (.Tuple elts k tpos) (.Call (.Name "enumerate" p) [l] [] pos) (iEnum K ta) := by
  subst hK
  intro pins s σ H R I h
  refine Call_ (ld_blt I hg hm PyProof.Rows.boot_enumerate (PyProof.Rows.callWith_type1 (thn (ha pos pins s σ H _ I h) fun us s1 hm0 => ?_) hs rfl))
  obtain ⟨vs, H1, I1, r1, q1⟩ := hm0
  obtain ⟨a, rfl, ⟨xs, hq⟩, q⟩ := q1
  obtain ⟨u, rfl, ru⟩ := vals1 r1
  cases ru
  obtain ⟨its, rv, p, hz⟩ := I1.list hq
  refine call_enumerate_list p.isList fun h' he hi hsz kp => ?_
  refine wpAny_pyIter_enum he ?_
  refine ⟨s1.heap.objs.size + 1, [s1.heap.objs.size + 1, s1.heap.objs.size], _, _, H1, rfl, I1.kept (t' := s1.toks) kp, turn_enum a _ _ (Nat.succ_ne_self _), ⟨⟨_, he⟩, hi⟩, fun b hb => ?_, q⟩
  have hb' : s1.heap.objs.size ≤ b := by
    rcases List.mem_cons.mp hb with z | z
    · rw [z]; exact Nat.le_succ _
    · have z : b = s1.heap.objs.size := by simpa using z
      rw [z]; exact Nat.le_refl _
  exact I1.fpOk hb' (I1.hok.fresh hb')
end L2
set_option Elab.async false
set_option linter.all false
set_option maxRecDepth 100000
set_option maxHeartbeats 1000000
namespace L2
open PySem
section
variable {H H' : Hp} {r : Addr} {as : List Addr} {Ls : List (List Int)}
end
end L2
set_option Elab.async false
set_option linter.all false
set_option maxRecDepth 100000
set_option maxHeartbeats 1000000
namespace L2
open PySem PySem.Spec PyProof.Rows
section
variable {X : Cx}
theorem pe_gint {x : Str} {n : Int} {pos : Pos} (hm : ∃ t, X.mg x = some (.int n t)) (hg : Gl X x := by rfl) (hd : (x == ("__debug__" : Str)) = false := by decide) : PE X (.Name x pos) (tC (.int n)) := by
  obtain ⟨t, hm⟩ := hm
  exact pe_glob hg hm ⟨t, rfl⟩ hd
theorem pe_sorted_setK {K : PySem.W.Frag} {e : Expr} {ta : TA} {p1 p2 pos1 pos2 : Pos} (hK : X.K = K) (hc : X.calm = true) (hg : Gl X "sorted") (hm : X.mg "sorted" = none) (hg2 : Gl X "set") (hm2 : X.mg "set" = none) (he : PA X [e] ta)
    (h1 : starEach [e] X.env = [(false, eval e X.env)] := by rfl) (h2 : starEach [.Call (.Name "set" p2) [e] [] pos2] X.env = [(false, eval (.Call (.Name "set" p2) [e] [] pos2) X.env)] := by rfl) :
    PE X (.Call (.Name "sorted" p1) [.Call (.Name "set" p2) [e] [] pos2] [] pos1) (tSSet K ta) := by subst hK; exact pe_sorted_set hc hg hm hg2 hm2 he h1 h2
end
theorem lt_ext : ∀ {xs ys : List Int}, xs.Pairwise (· < ·) → ys.Pairwise (· < ·) → (∀ k, k ∈ xs ↔ k ∈ ys) → xs = ys
  | [], [], _, _, _ => rfl
  | [], y :: ys, _, _, h => by have := (h y).mpr List.mem_cons_self; cases this
  | x :: xs, [], _, _, h => by have := (h x).mp List.mem_cons_self; cases this
  | x :: xs, y :: ys, hx, hy, h => by
    obtain ⟨a1, a2⟩ := List.pairwise_cons.mp hx
    obtain ⟨b1, b2⟩ := List.pairwise_cons.mp hy
    have e : x = y := by
      rcases List.mem_cons.mp ((h x).mp List.mem_cons_self) with z | z
      · exact z
      · rcases List.mem_cons.mp ((h y).mpr List.mem_cons_self) with z2 | z2
        · exact z2.symm
        · have := b1 x z; have := a1 y z2; omega
    subst e
    have : xs = ys := lt_ext a2 b2 fun k => by
      constructor
      · intro hk
        rcases List.mem_cons.mp ((h k).mp (List.mem_cons_of_mem _ hk)) with z | z
        · subst z; have := a1 _ hk; omega
        · exact z
      · intro hk
        rcases List.mem_cons.mp ((h k).mpr (List.mem_cons_of_mem _ hk)) with z | z
        · subst z; have := b1 _ hk; omega
        · exact z
    rw [this]
def norm (n : Nat) (ws : List Int) : List Int := ((List.range n).filter fun (k : Nat) => decide ((k : Int) ∈ ws)).map fun (k : Nat) => (k : Int)
theorem norm_lt (n : Nat) (ws : List Int) : (norm n ws).Pairwise (· < ·) := by
  unfold norm
  rw [List.pairwise_map]
  exact (List.pairwise_lt_range.filter _).imp fun h => by omega
theorem norm_mem {n : Nat} {ws : List Int} (h : ∀ x ∈ ws, 0 ≤ x ∧ x < n) (k : Int) : k ∈ norm n ws ↔ k ∈ ws := by
  unfold norm
  rw [List.mem_map]
  constructor
  · rintro ⟨j, hj, rfl⟩
    exact of_decide_eq_true (List.mem_filter.mp hj).2
  · intro hk
    obtain ⟨a, b⟩ := h k hk
    refine ⟨k.toNat, List.mem_filter.mpr ⟨List.mem_range.mpr (by omega), decide_eq_true ?_⟩, by omega⟩
    rw [Int.toNat_of_nonneg a]; exact hk
theorem norm_eq {n : Nat} {ws ns : List Int} (h : ∀ x ∈ ws, 0 ≤ x ∧ x < n) (pw : ns.Pairwise (· < ·)) (mem : ∀ k, k ∈ ns ↔ k ∈ ws) : ns = norm n ws := lt_ext pw (norm_lt n ws) fun k => (mem k).trans (norm_mem h k).symm
end L2
set_option Elab.async false
set_option linter.all false
set_option maxRecDepth 100000
set_option maxHeartbeats 1000000
namespace L2
open PySem PySem.Spec PyProof.Rows
section
variable {X : Cx}
end
end L2
set_option Elab.async false
set_option linter.all false
set_option maxRecDepth 100000
set_option maxHeartbeats 1000000
namespace L2
open PySem PySem.Spec PyProof.Rows
section
variable {X : Cx}
end
end L2
set_option Elab.async false
set_option linter.all false
set_option maxRecDepth 100000
set_option maxHeartbeats 4000000
namespace L2
open PySem PySem.Spec PyProof.Rows
section
variable {P : Program} {w : World} {A : Around} {E : Value → Shared → Prop} {s : Shared}
end
end L2
set_option Elab.async false
set_option linter.all false
set_option maxRecDepth 100000
set_option maxHeartbeats 1000000
namespace L2
open PySem PySem.Spec PySem.W PyProof.Rows PySem.Builtin PySem.Builtin.ObjectAttr PySem.Builtin.Getset_descriptor
structure XcK (K : Frag) (C : Addr) : Prop where
  ga : findIn K (.ref C) "__getattribute__" = some (some (.builtin "BaseException.__getattribute__"))
  gn : findIn K (.ref C) "__getattr__" = some none
  cl : findIn K (.ref C) "__class__" = some (some (.builtin "object.__class__"))
  sp : specialIn K (.builtin "object.__class__") "__get__" = some (some (.builtin "getset_descriptor.__get__"))
  tk : takesIn K (.builtin "object.__class__") = some true
  mo : mroIn K C (.type "object") = some true
  me : mroIn K C (.type "BaseException") = some true
  ci : (clsIn K C).isSome = true
def XObj (e C : Addr) (h : Heap) : Prop := ∃ (o : Obj) (vs : Array Value), h.get? e = some o ∧ o.cls = .ref C ∧ o.data = .fields vs
theorem XObj.ty {e C : Addr} {h : Heap} {M : Model} (x : XObj e C h) : Looks M h (typeOf (.ref e)) (.ref C) := by
  obtain ⟨o, vs, h1, h2, _⟩ := x
  rw [← h2]
  exact (Looks.ld h1).andThen .now
theorem XObj.keeps {e C : Addr} {h h' : Heap} (x : XObj e C h) (k : ∀ o, h.get? e = some o → h'.get? e = some o) : XObj e C h' := let ⟨o, vs, h1, h2⟩ := x; ⟨o, vs, k o h1, h2⟩
section
variable {prog : Program} {w : World} {A : Around} {E : Value → Shared → Prop} {s : Shared} {K : Frag} {x C : Addr}
theorem xc_find {M : Model} {h : Heap} (Z : XcK K C) (X : K.In h) : Looks M h (Builtin.ObjectAttr.find (.ref x) (.ref C) "__class__") (.bind (.builtin "getset_descriptor.__get__") (.builtin "object.__class__")) := by
  have L3 := looks_takesIn (M := M) X Z.tk
  have L4 : Looks M h (Builtin.ObjectAttr.dataDescriptor? (some (.builtin "object.__class__")) (some (.builtin "getset_descriptor.__get__"))) (some (.builtin "getset_descriptor.__get__", .builtin "object.__class__")) := L3.andThen .now
  have L2 : Looks M h (Builtin.ObjectAttr.getOf (some (.builtin "object.__class__"))) (some (.builtin "getset_descriptor.__get__")) := looks_specialIn X Z.sp
  exact (looks_findIn X Z.cl).andThen (L2.andThen (L4.andThen (Looks.tag .now)))
theorem xc_get {tp : Value} {R : Result → Shared → Prop} (Z : XcK K C) (X : K.In s.heap) (I : XObj x C s.heap) (h : R (.ok (.ret (.ref C))) s) :
    codeAny (model prog w) A (.call (.builtin "getset_descriptor.__get__") ⟨[.builtin "object.__class__", .ref x, tp], []⟩) R s := by
  obtain ⟨hp, gs, dr, tk, os⟩ := s
  have T0 := I.ty (M := model prog w)
  have T1 := looks_mroIn (M := model prog w) X Z.mo
  refine codeAny_call_builtin KF.slot_gs.plain KF.entry_gs ?_
  refine KF.slot_gs.check _ _ _ _ _ _ _ _ KF.type_class (KF.args_gs _ _ _) ?_
  unfold Builtin.«getset_descriptor.__get__»
  unfold descrGet
  rw [dga_obj]
  apply wpAny_bind
  apply wpAny_pure
  unfold descrGetter descrCheckInstance
  unfold descrNameAndClass isInstance
  simp only [KF.owner_class]
  repeat lk
  constructor
  · exact Code.quiet_builtin _ (by decide +kernel)
  · apply codeAny_builtin KF.entry_class
    unfold Builtin.«object.__class__»
    unfold shownTypeOf
    repeat lk
    exact h
theorem xc_check {nv : Value} {M : Model} {Q : Unit → Shared → Prop} (Z : XcK K C) (X : K.In s.heap) (I : XObj x C s.heap) (h : Q () s) : wpAny M A (checkBuiltinCall "BaseException.__getattribute__" ⟨[.ref x, nv], []⟩) Q E s := by
  obtain ⟨hh, g, d, t, os⟩ := s
  have L0 := I.ty (M := M)
  have L1 := looks_mroIn (M := M) X Z.me
  have k1 : builtinKind "BaseException.__getattribute__" = some .slot := by decide +kernel
  have k2 : splitId "BaseException.__getattribute__" = some ("BaseException", "__getattribute__") := by decide +kernel
  have k3 := F.args_bexc_ga (.ref x) nv
  simp only [checkBuiltinCall, k1, k2]
  refine wpAny_bind ?_
  unfold isInstance
  repeat (first | with_reducible refine L0.at ?_ | with_reducible refine L1.at ?_ | wp_step)
  exact h
theorem xc_call {tk : Tok} {R : Result → Shared → Prop} (Z : XcK K C) (X : K.In s.heap) (I : XObj x C s.heap) (h : R (.ok (.ret (.ref C))) s) :
    codeAny (model prog w) A (.call (.builtin "BaseException.__getattribute__") ⟨[.ref x, .str "__class__" tk], []⟩) R s := by
  refine codeAny_call_builtin F.excAttr_ValueError.ga.plain F.entry_bexc_ga (xc_check Z X I ?_)
  obtain ⟨hh, g, d, t, os⟩ := s
  have L0 := I.ty (M := model prog w)
  have L3 := xc_find (M := model prog w) (x := x) Z X
  unfold Builtin.«object.__getattribute__»
  repeat (any_goals (first | assumption | with_reducible refine L0.at ?_ | with_reducible refine L3.at ?_ | wp_step))
  refine xc_get Z X I ?_
  repeat (any_goals (first | assumption | wp_step))
theorem xc_class {Q : Option Value → Shared → Prop} (Z : XcK K C) (X : K.In s.heap) (I : XObj x C s.heap) (h : Q (some (.ref C)) { s with toks := s.toks + 1 }) : wpAny (model prog w) A (getAttr? (.ref x) "__class__") Q E s := by
  obtain ⟨hh, g, d, t, os⟩ := s
  have L0 := I.ty (M := model prog w)
  have L1 := looks_findIn (M := model prog w) X Z.ga
  have L2 := looks_findIn (M := model prog w) X Z.gn
  have L3 := xc_find (M := model prog w) (x := x) Z X
  unfold getAttr? getAttrBy? getAttrBy
  refine wpAny_bind (wpAny_mkText (wpAny_bind (wpAny_attempt (wpAny_holding (wpAny_bind (L0.at (wpAny_bind (L1.at ?_))))))))
  have f3 := F.excAttr_ValueError.ga.bind (.ref x)
  have e0 : (false && onTheHeap (Value.builtin "BaseException.__getattribute__")) = false := rfl
  have e2 : (Value.builtin "BaseException.__getattribute__" == Value.builtin "object.__getattribute__") = false := by decide +kernel
  have e1 : (onTheHeap (Value.ref C) && Value.builtin "BaseException.__getattribute__" == Value.builtin "object.__getattribute__") = false := by rw [e2]; rfl
  repeat (any_goals (first | assumption | with_reducible refine L0.at ?_ | with_reducible refine L1.at ?_ | with_reducible refine L2.at ?_ | wp_step))
  refine xc_call Z X I ?_
  repeat (any_goals (first | assumption | wp_step))
end
theorem cls_at {K : Frag} {C : Addr} {h : Heap} (X : K.In h) (z : (clsIn K C).isSome = true) : ∃ (o : Obj) (cd : ClassData), h.get? C = some o ∧ o.data = .cls cd := by
  obtain ⟨cd, hc⟩ := Option.isSome_iff_exists.mp z
  unfold clsIn at hc
  split at hc
  · rename_i ho
    exact ⟨_, _, X _ _ ho, rfl⟩
  · cases hc
theorem kitx_exc {K : Frag} {e C : Addr} (Z : XcK K C) : KitX K (.ref e) (.ref C) (XObj e C) where
  ty := fun _ _ _ p => p.ty
  it := fun M h X _ => by
    obtain ⟨o, cd, ho, hd⟩ := cls_at X Z.ci
    intro A' Q' E' s' k q
    unfold isType loadHead
    refine wpAny_bind (wpAny_loadPart (k _ _ ho) ?_)
    rw [hd]
    exact wpAny_pure q
  ne := fun h tp dd its n sl X htp => by
    obtain ⟨o, cd, ho, hd⟩ := cls_at X Z.ci
    refine Bool.eq_false_iff.mpr fun q => ?_
    have e' : C = tp := Value.ref.inj (beq_iff_eq.mp q)
    subst e'
    rw [ho] at htp
    cases htp
    cases hd
  ca := fun X p k => xc_class Z X p k
end L2
set_option Elab.async false
set_option linter.all false
set_option maxRecDepth 100000
set_option maxHeartbeats 1000000
namespace L2
open PySem PySem.Spec PyProof.Rows
theorem ObjOk.got {P : Program} {w : World} {H : Hp} {h : Heap} {a : Addr} {o : HO} (x : ObjOk P w H h a o) : ∃ ob, h.get? a = some ob := by
  cases o with
  | lst xs => obtain ⟨_, _, _, _, e⟩ := x; exact ⟨_, e⟩
  | tup xs => obtain ⟨_, _, _, _, e, _⟩ := x; exact ⟨_, e⟩
  | dK kvs => obtain ⟨_, _, _, _, _, _, _, e, _⟩ := x; exact ⟨_, e⟩
  | dT kvs => obtain ⟨_, _, _, _, _, _, _, e, _⟩ := x; exact ⟨_, e⟩
  | set S n => obtain ⟨_, _, _, _, e, _⟩ := x; exact ⟨_, e⟩
  | ins C dx fs => obtain ⟨_, _, _, e, _⟩ := x; exact ⟨_, e⟩
  | own y => exact x
  | xd fs => obtain ⟨_, ⟨_, _, _, e, _⟩, _⟩ := x; exact ⟨_, e⟩
  | rng lo hi => obtain ⟨_, _, _, e⟩ := x; exact ⟨_, e⟩
  | frz ob u => exact ⟨_, x.1⟩
  | tbl ps => exact ⟨_, x⟩
  | met f y => exact ⟨_, x⟩
  | ext φ => exact x.2.1
theorem HOk.by {P : Program} {w : World} {H : Hp} {h h' B : Heap} (x : HOk P w H h) (hB : ∀ b u, H b = some u → ∃ o, B.get? b = some o) (k1 : ∀ b o, B.get? b = some o → h.get? b = some o) (k2 : ∀ b o, B.get? b = some o → h'.get? b = some o) : HOk P w H h' := fun a o e =>
  (x a o e).stay (fun b u hb q => by
    have ht : ∃ v, H b = some v := by
      rcases hb with rfl | hb
      · exact ⟨_, e⟩
      · exact ⟨_, hb⟩
    obtain ⟨v, hv⟩ := ht
    obtain ⟨ob, ho⟩ := hB b v hv
    have := k1 b ob ho
    rw [q] at this
    cases this
    exact k2 b _ ho) (fun _ q => q) fun _ _ q => q
def CXR (P : Program) (w : World) : CXT := fun outer H s E e s' => ∃ (ea C t : Addr) (H' : Hp) (B : Heap), e = .ref ea ∧ s'.os = s.os ∧ AllBare s'.gens ∧ Un (frs outer) [] H H' s.heap s'.heap ∧ HOk P w H' s'.heap ∧
  Heap.FlyingW B outer ea (.ref C) (.ref t) s'.heap ∧ (∀ b o, s.heap.get? b = some o → b ∉ frs outer → ∃ o', B.get? b = some o') ∧ (∀ b u, H' b = some u → ∃ o, B.get? b = some o) ∧ E (.ref C) none H'
theorem passX0 {P : Program} {w : World} {X : Cx} : Passes (CXR P w) X E0 := fun _ _ _ _ _ _ _ ⟨_, _, _, _, _, _, _, _, _, _, _, _, _, h⟩ => h.elim
section
variable {X : Cx} {pins : List (Addr × Obj)} {σ : St} {H : Hp} {s : Shared}
theorem Inv.notStk (I : Inv X pins σ H s) {b : Addr} {o : Obj} (e : X.s₀.heap.get? b = some o) (h : b ∉ X.fs) : b ∉ frs X.stack := fun z => by
  rcases List.mem_cons.mp (I.stkSub b z) with q | q
  · exact absurd q (Nat.ne_of_lt (Nat.lt_of_lt_of_le (Heap.lt_size e) I.ok.above))
  · exact h q
theorem Inv.stkSup (I : Inv X pins σ H s) {b : Addr} (h : b ∈ X.fs) : b ∈ frs X.stack := by
  rcases I.ok.stk with e | ⟨e, hf⟩
  · rw [e]; exact h
  · rw [e]; unfold frs; rw [List.filterMap_cons, hf]; exact List.mem_cons_of_mem _ h
theorem leaves_made {M : Model} {E2 : Value → Shared → Prop} {h' : Heap} {e C : Addr} {us : List Value} {E : XK} (I : Inv X pins σ H s) (hst : X.stack = X.env :: X.outer) (hf : X.env.frame = some X.env.locals) (hex : X.ex = [])
    (hm : Heap.MadeExcOf s.heap h' e (.ref C) us) (hE : E (.ref C) none H) : wpAny M X.A (leaving X.env (.ref e)) (fun _ s'' => CXR X.prog X.w X.outer X.H₀ X.s₀ E (.ref e) s'') E2 { s with heap := h' } := by
  have hfun := I.stack
  have hin : ∀ env ∈ X.stack, ∀ a, env.frame = some a → a ∈ frs X.stack := fun env he a ha => List.mem_filterMap.mpr ⟨env, he, ha⟩
  have hB1 : ∀ b o, s.heap.get? b = some o → b ∉ frs X.stack → (PySem.W.hideAll s.heap (frs X.stack)).get? b = some o := fun b o q n => PySem.W.hideAll_get _ q n
  have hB0 : ∀ b o, (PySem.W.hideAll s.heap (frs X.stack)).get? b = some o → s.heap.get? b = some o := fun b o q => PySem.W.of_hideAll _ q
  have hfun2 := PySem.W.funFrames_hide hfun hin
  have noex : ∀ b, b ∉ X.ex := fun b z => by rw [hex] at z; cases z
  rw [hst] at hfun2
  have trk : ∀ b u, H b = some u → ∃ o, (PySem.W.hideAll s.heap (frs X.stack)).get? b = some o := fun b u q => by
    obtain ⟨o, ho⟩ := (I.hok b u q).got
    exact ⟨o, hB1 b o ho fun z => by rw [I.stkFree b z] at q; cases q⟩
  have old : ∀ b o, X.s₀.heap.get? b = some o → b ∉ X.fs → ∃ o', (PySem.W.hideAll s.heap (frs X.stack)).get? b = some o' := fun b o q n => by
    obtain ⟨o', ho⟩ := I.base.there b o q (noex b)
    exact ⟨o', hB1 b o' ho (I.notStk q n)⟩
  refine wpAny_leaves_madeW (base := PySem.W.hideAll s.heap (frs X.stack)) (hst ▸ I.ok.frames) hf hB0 (hst ▸ hfun2) hm fun h2 t x1 x2 x3 x4 => ?_
  have fr : ∀ b o, s.heap.get? b = some o → b ∈ X.fs → ∃ sl, h2.get? b = some { o with slots := sl } := fun b o q hb => by
    obtain ⟨_, o', ho', hd⟩ := I.funs.mem hb
    rw [q] at ho'; cases ho'
    exact x4 b o (hm.keeps b o q) hd
  refine ⟨e, C, t, H, _, rfl, I.os, I.bare, ⟨fun b o q n hb _ => ?_, fun b o q n hb _ => ?_, fun b o q n _ => I.base.free b o q n (noex b), fun b o q _ => ?_, I.base.tups, I.base.frzs, I.base.tbls⟩, I.hok.by trk hB0 x1.1, x1, old, trk, hE⟩
  · exact x1.1 b o (hB1 b o (I.base.keep b o q n hb (noex b)) (I.notStk q hb))
  · obtain ⟨sl, e1⟩ := I.base.slot b o q n hb (noex b)
    obtain ⟨sl2, e2⟩ := fr b _ e1 hb
    exact ⟨sl2, e2⟩
  · by_cases hb : b ∈ X.fs
    · obtain ⟨o', e1⟩ := I.base.there b o q (noex b)
      obtain ⟨sl2, e2⟩ := fr b _ e1 hb
      exact ⟨_, e2⟩
    · obtain ⟨o', e1⟩ := old b o q hb
      exact ⟨_, x1.1 b o' e1⟩
theorem leaves_on {M : Model} {E2 : Value → Shared → Prop} {e : Value} {s' : Shared} {E : XK} (I : Inv X pins σ H s) (hst : X.stack = X.env :: X.outer) (hf : X.env.frame = some X.env.locals) (hex : X.ex = [])
    (h : CXR X.prog X.w X.stack H s E e s') : wpAny M X.A (leaving X.env e) (fun _ s'' => CXR X.prog X.w X.outer X.H₀ X.s₀ E e s'') E2 s' := by
  obtain ⟨ea, C, t, H', B, rfl, os, bare, un, hok, fl, b1, b2, hE⟩ := h
  have noex : ∀ b, b ∉ X.ex := fun b z => by rw [hex] at z; cases z
  have fl0 := fl
  rw [hst] at fl0
  refine wpAny_leaves_onW (hst ▸ I.ok.frames) hf fl0 fun h2 x1 x2 => ?_
  have nex : ∀ b : Addr, b ∉ ([] : List Addr) := fun b z => by cases z
  have old : ∀ b o, X.s₀.heap.get? b = some o → b ∉ X.fs → ∃ o', B.get? b = some o' := fun b o q n => by
    obtain ⟨o', ho⟩ := I.base.there b o q (noex b)
    exact b1 b o' ho (I.notStk q n)
  have fr : ∀ b o, s'.heap.get? b = some o → b ∈ X.fs → ∃ sl, h2.get? b = some { o with slots := sl } := fun b o q hb => by
    obtain ⟨_, o', ho', hd⟩ := fl.2.2.1.mem (I.stkSup hb)
    rw [q] at ho'; cases ho'
    exact x2 b o q hd
  refine ⟨ea, C, t, H', B, rfl, os.trans I.os, bare, ⟨fun b o q n hb _ => ?_, fun b o q n hb _ => ?_, fun b o q n _ => ?_, fun b o q _ => ?_, fun b xs q => un.tups b xs (I.base.tups b xs q), fun b o u q => un.frzs b o u (I.base.frzs b o u q), fun b ps q => ?_⟩, hok.by b2 fl.1 x1.1, x1, old, b2, hE⟩
  · have e1 := I.base.keep b o q n hb (noex b)
    have e2 := un.keep b o e1 (I.base.free b o q n (noex b)) (I.notStk q hb) (nex b)
    obtain ⟨o', e3⟩ := old b o q hb
    have e4 := fl.1 b o' e3
    rw [e2] at e4; cases e4
    exact x1.1 b _ e3
  · obtain ⟨sl, e1⟩ := I.base.slot b o q n hb (noex b)
    obtain ⟨sl1, e2⟩ := un.slot b _ e1 (I.base.free b o q n (noex b)) (I.stkSup hb) (nex b)
    obtain ⟨sl2, e3⟩ := fr b _ e2 hb
    exact ⟨sl2, e3⟩
  · obtain ⟨o', e1⟩ := I.base.there b o q (noex b)
    exact un.free b o' e1 (I.base.free b o q n (noex b)) (nex b)
  · by_cases hb : b ∈ X.fs
    · obtain ⟨o', e1⟩ := I.base.there b o q (noex b)
      obtain ⟨o2, e2⟩ := un.there b o' e1 (nex b)
      obtain ⟨sl2, e3⟩ := fr b _ e2 hb
      exact ⟨_, e3⟩
    · obtain ⟨o', e1⟩ := old b o q hb
      exact ⟨_, x1.1 b o' e1⟩
  · obtain ⟨m1, e1⟩ := I.base.tbls b ps q
    obtain ⟨m2, e2⟩ := un.tbls b _ e1
    exact ⟨m1 ++ m2, by rw [e2, Array.append_assoc]⟩
end
end L2
set_option Elab.async false
set_option linter.all false
set_option maxRecDepth 100000
set_option maxHeartbeats 1000000
namespace L2
open PySem PySem.Spec PyProof.Rows
abbrev bmV : List Value := [.type "ValueError", .type "Exception", .type "BaseException", .type "object"]
theorem exc_at {K : PySem.W.Frag} {h : Heap} {C : Addr} {bmB : List Value} {newId : String} (X : K.In h) (q : PySem.W.excIn K C bmB newId = true) :
    ∃ bm N nm qn bs hdct sn sub ab col dd k0 k1 k2 k3 k5 mN, h.get? C = some (excClassObj nm qn C N bs bm hdct sn sub ab col dd k0 k1 k2 k3 k5 newId) ∧ h.Ns N mN ∧ mN "__init__" = none ∧ OwnTail h bmB bm := by
  unfold PySem.W.excIn at q
  split at q
  case h_2 => cases q
  case h_1 dd cd sl ho =>
    split at q
    case h_2 => cases q
    case h_1 C' bm k0 k1 k2 k3 n k5 hm hs =>
      simp only [Bool.and_eq_true, beq_iff_eq, Bool.not_eq_true'] at q
      obtain ⟨⟨⟨⟨⟨z1, z2⟩, z3⟩, z4⟩, z5⟩, z6⟩ := q
      cases z1
      cases z2
      obtain ⟨nm, bs, mro, ns, qn, hd, sn, sub, ab, col, del⟩ := cd
      cases hm
      cases z3
      have es : sl = #[k0, k1, k2, k3, some (.builtin newId), k5] := by
        cases sl with
        | mk l => simp only at hs; rw [hs]
      cases es
      exact ⟨bm, ns, nm, qn, bs, hd, sn, sub, ab, col, dd, k0, k1, k2, k3, k5, _, X _ _ ho, Heap.Ns.of_isNs (PySem.W.isNs_of_in X z5), PySem.W.nsMap_none_of_in X z5 z6, PySem.W.tail_of_in X z4⟩
def Raises (X : Cx) (E : XK) : Prop := ∀ (pins : List (Addr × Obj)) (σ : St) (H : Hp) (s : Shared) (h' : Heap) (e C : Addr) (us : List Value), Inv X pins σ H s → Heap.MadeExcOf s.heap h' e (.ref C) us → E (.ref C) none H → X.xe (.ref e) { s with heap := h' }
def tRaise (t : TA) (C : Addr) (E : XK) : TS := fun _ σ H => t σ H fun vs H1 => vs.length ≤ sizeLine ∧ E (.ref C) none H1
section
variable {X : Cx}
theorem ps_raise {E : XK} {x : Str} {C : Addr} {e0 : Expr} {rest : List Expr} {t : TA} {np cpos pos : Pos} (hr : Raises X E) (hm : X.mg x = some (.ref C)) (q : PySem.W.excIn X.K C bmV "ValueError.__new__" = true) (ha : PA X (e0 :: rest) t) (hc : X.calm = true := by rfl) (hg : Gl X x := by rfl)
    (hdb : (x == ("__debug__" : Str)) = false := by decide) (he : starEach (e0 :: rest) X.env = (false, eval e0 X.env) :: starEach rest X.env := by rfl) (hpl : (backTo cpos (starEach rest X.env)).any (·.1) = false := by rfl) :
    PS X (.Raise (some (.Call (.Name x np) (e0 :: rest) [] cpos)) none pos) (tRaise t C E) := by
  intro pins s σ H D I h
  obtain ⟨tl, N, nm, qn, bs, hdct, sn, sub, ab, col, dd, k0, k1, k2, k3, k5, mN, hC, hN, hni, T⟩ := exc_at I.mod.kin q
  refine wpAny_Raise_call_subT (C := C) (nm := nm) (q := qn) (N := N) (bs := bs) (bm := tl) (hdct := hdct) (sn := sn) (sub := sub) (ab := ab) (col := col) (dd := dd) (k0 := k0) (k1 := k1) (k2 := k2) (k3 := k3) (k5 := k5)
    PySem.F.excBase_ValueError (mN := mN) (T.hasType PySem.F.excBase_ValueError.hasBase) (I.ok.hd hc) ?_ hni (ld_glob I hg hm ⟨rfl, ?_⟩ hdb)
  · rw [he]
    show (false || (backTo cpos (starEach rest X.env)).any (·.1)) = false
    rw [hpl]; rfl
  have h2 := ha cpos pins s σ H _ I h
  rw [he] at h2 ⊢
  refine Calls.evalArgs_plain (thn h2 fun us s2 hm0 => ?_)
  obtain ⟨vs, H1, I1, r1, q1, q2⟩ := hm0
  exact ⟨rfl, by rw [← r1.length]; exact q1, I1.bk _ _ hC, hN.keeps I1.bk, T.keeps I1.bk, fun h' e hm => hr pins σ H1 s2 h' e C us I1 hm q2⟩
end
section
variable {P : Program} {w : World} {K : PySem.W.Frag} {mg : Str → Option Value} {base : Heap}
abbrev cxR (P : Program) (w : World) (K : PySem.W.Frag) (mg : Str → Option Value) (base : Heap) (N : List Str) (qual : Str) (scope : Scope) (f : Addr) (cd : Value) (A : Around) (outer : List Env) (s : Shared) (H : Hp) (E : XK) : Cx := cxOf (CXR P w) P w K mg base N qual scope f cd A outer s H E
theorem raisesR {N : List Str} {qual : Str} {scope : Scope} {f : Addr} {cd : Value} {A : Around} {outer : List Env} {s : Shared} {H : Hp} {E : XK} : Raises (cxR P w K mg base N qual scope f cd A outer s H E) E :=
  fun pins σ H1 s1 h' e C us I hm hE => leaves_made (X := cxR P w K mg base N qual scope f cd A outer s H E) I rfl rfl rfl hm hE
theorem passR {N : List Str} {qual : Str} {scope : Scope} {f : Addr} {cd : Value} {A : Around} {outer : List Env} {s : Shared} {H : Hp} {E : XK} : Passes (CXR P w) (cxR P w K mg base N qual scope f cd A outer s H E) E :=
  fun pins σ H1 s1 e s' I h => leaves_on (X := cxR P w K mg base N qual scope f cd A outer s H E) I rfl rfl rfl h
structure DnX (P : Program) (w : World) (K : PySem.W.Frag) (mg : Str → Option Value) (base : Heap) (x : Str) (n : Nat) (ps : List Str) (sp : Sp) : Prop where
  ex : ∃ f fd, FnOk P w K mg base (CXR P w) n f fd ps sp ∧ mg x = some (.ref f) ∧ PySem.W.keepIn K (.ref f) = true ∧ Binds K fd ps []
theorem DefAt.okX {x : Str} {st : Stmt} {N ps : List Str} {k : Nat} {sp : Sp} (F : DefAt K mg x st ps) (S : FnScope N ps (defScope st)) (len : ∀ vs H Q E, sp vs H Q E → vs.length = ps.length)
    (hbody : ∀ (f : Addr) (cdv : Value) (A : Around) (outer : List Env) (s : Shared) (H : Hp) (vs : List V) (Q : VK) (E : XK), Room k (A.deeper (envOfC x (defScope st) s.heap.objs.size f cdv)) → sp vs H Q E →
      ∃ t, PSs (cxR P w K mg base N x (defScope st) f cdv A outer s H E) (defBody st) t ∧ t { nx := fun _ H' => Q .non H', rt := Q } (start N vs) H) : DnX P w K mg base x (k + 1) ps sp := by
  obtain ⟨f, fd, F, hm, hb⟩ := F.ex
  have kp := F.kp
  obtain ⟨oc, od, kV, doc, pm, an, cdv, ct, osl, rfl, lk, hcd⟩ := F.ex
  exact ⟨f, _, fn_of lk hcd S len fun A outer s H vs Q E hr hsp => hbody f cdv A outer s H vs Q E hr hsp, hm, kp, hb⟩
end
theorem pe_dnX {X : Cx} {E : XK} {x : Str} {n k : Nat} {ps : List Str} {sp : Sp} {e : Expr} {es : List Expr} {t : TA} {p pos : Pos} (hx : Passes (CXR X.prog X.w) X E) (D : DnX X.prog X.w X.K X.mg X.base x n ps sp) (hr : Room k X.A) (ha : PA X (e :: es) t) (hk : n ≤ k := by decide) (hg : Gl X x := by rfl)
    (hdb : (x == ("__debug__" : Str)) = false := by decide) (he : starEach (e :: es) X.env = (false, eval e X.env) :: starEach es X.env := by rfl) (hpl : (backTo pos (starEach es X.env)).any (·.1) = false := by rfl) :
    PE X (.Call (.Name x p) (e :: es) [] pos) (tCall sp [] E t) := by
  obtain ⟨f, fd, F, hm, kp, hb⟩ := D.ex
  exact pe_call F (hr.mono hk) hg hm kp hb .nil hx ha hdb he hpl
end L2
set_option Elab.async false
set_option linter.all false
set_option maxRecDepth 100000
set_option maxHeartbeats 1000000
namespace L2
open PySem PySem.Spec PyProof.Rows
def xcO (e C : Addr) : HO := .ext fun h => XObj e C h
theorem fly_obj {B h : Heap} {l : List Env} {e C : Addr} {a0 : Value} (f : Heap.FlyingW B l e (.ref C) a0 h) : XObj e C h := by
  obtain ⟨_, _, _, oe, ws, _, _, _, he, hc, hd, _⟩ := f
  exact ⟨oe, ws, he, hc.1, hd⟩
abbrev Cx.suite (X : Cx) (e : Addr) : Cx := { X with A := X.A.mark (some (.ref e)), calm := false, xe := fun _ _ => False }
section
variable {X : Cx} {pins : List (Addr × Obj)} {σ : St} {H : Hp} {s : Shared}
theorem Inv.suite (I : Inv X pins σ H s) (e : Addr) : Inv (X.suite e) pins σ H s :=
  ⟨⟨I.ok.mod, I.ok.kind, I.ok.glob, I.ok.blt, I.ok.above, I.ok.inj, I.ok.has, I.ok.cab, (fun z => by cases z), I.ok.frames, I.ok.stk, I.ok.exf, I.ok.bs, I.ok.bsz, I.ok.noex, I.ok.exfs, I.ok.funs, I.ok.frf⟩, I.os, I.bare, I.base, I.loc, I.cell, I.free, I.freeC, I.pin, I.hok, I.len⟩
theorem Inv.unsuite {e : Addr} (hh : X.A.handled = none) (I : Inv (X.suite e) pins σ H s) : Inv X pins σ H s :=
  ⟨⟨I.ok.mod, I.ok.kind, I.ok.glob, I.ok.blt, I.ok.above, I.ok.inj, I.ok.has, I.ok.cab, (fun _ => hh), I.ok.frames, I.ok.stk, I.ok.exf, I.ok.bs, I.ok.bsz, I.ok.noex, I.ok.exfs, I.ok.funs, I.ok.frf⟩, I.os, I.bare, I.base, I.loc, I.cell, I.free, I.freeC, I.pin, I.hok, I.len⟩
theorem Inv.forget {i : Nat} {n : Str} {h' : Heap} {v : Option Value} {m : Str → Option Value} {t' : Nat} (I : Inv X pins σ H s) (hN : X.N.Nodup) (hi : X.N[i]? = some n) (hn : s.heap.Ns X.env.locals m) (hn' : h'.Ns X.env.locals (fun x => if x = n then v else m x)) (hs : Heap.SameBut X.env.locals s.heap h') :
    Inv X pins (σ.set i none) H { s with heap := h', toks := t' } := by
  obtain ⟨oL, _, _, hoL, _⟩ := id hn
  have neL : ∀ b o, X.s₀.heap.get? b = some o → b ≠ X.env.locals := fun b o e => Nat.ne_of_lt (Nat.lt_of_lt_of_le (Heap.lt_size e) I.ok.above)
  have gen : ∀ b o, b ≠ X.env.locals → s.heap.get? b = some o → h'.get? b = some o := fun b o hb e => (hs.2 b hb).trans e
  refine ⟨I.ok, I.os, I.bare, ⟨fun b o e n0 hb hx => ?_, fun b o e n0 hb hx => ?_, I.base.free, fun b o e hx => ?_, I.base.tups, I.base.frzs, I.base.tbls⟩, ⟨_, hn', fun j y v' e1 e2 e3 => ?_⟩, fun y c e => ?_, I.free, I.freeC, fun p hp => ?_, fun b ob e => ?_, by simpa using I.len⟩
  · exact gen _ _ (neL b o e) (I.base.keep b o e n0 hb hx)
  · obtain ⟨sl, e1⟩ := I.base.slot b o e n0 hb hx
    exact ⟨sl, gen _ _ (neL b o e) e1⟩
  · obtain ⟨o', e1⟩ := I.base.there b o e hx
    exact ⟨o', gen _ _ (neL b o e) e1⟩
  · by_cases hj : j = i
    · subst hj
      rw [List.getElem?_set] at e2
      simp only [if_true] at e2
      split at e2 <;> cases e2
    · rw [List.getElem?_set_ne (Ne.symm hj)] at e2
      obtain ⟨m0, hm0, hl⟩ := I.loc
      obtain ⟨u', r', q⟩ := hl j y v' e1 e2 e3
      have hyn : y ≠ n := fun e => hj (nodup_ix hN e1 (e ▸ hi))
      refine ⟨u', r', ?_⟩
      rcases q with ⟨k, e⟩ | ⟨k, c, e, z⟩
      · refine .inl ⟨k, ?_⟩
        have : m0 y = m y := by
          obtain ⟨o1, es1, ep1, p1, p2, _, p3⟩ := hm0
          obtain ⟨o2, es2, ep2, q1, q2, _, q3⟩ := id hn
          rw [p1] at q1; cases q1
          rw [p2] at q2; cases q2
          rw [← p3 y, ← q3 y]
        simp [hyn, ← this, e]
      · exact .inr ⟨k, c, e, z.sameBut hs (I.cne y c e)⟩
  · obtain ⟨w', z⟩ := I.cell y c e
    exact ⟨w', z.sameBut hs (I.cne y c e)⟩
  · obtain ⟨e, n0, ne, nf, d⟩ := I.pin p hp
    exact ⟨gen _ _ ne e, n0, ne, nf, d⟩
  · refine (I.hok b ob e).stay (fun c w' hc q => gen c w' ?_ q) (fun _ q => q) fun _ _ q => q
    rintro rfl
    rcases hc with rfl | hc
    · rw [I.free] at e; cases e
    · rw [I.free] at hc; cases hc
theorem fly_inv {s' : Shared} {h5 B : Heap} {ea C t : Addr} {a5 : Value} {H' : Hp} (I : Inv X pins σ H s) (os : s'.os = s.os) (bare : AllBare s'.gens) (un : Un (frs X.stack) [] H H' s.heap s'.heap) (hok : HOk X.prog X.w H' s'.heap)
    (fl : Heap.FlyingW B X.stack ea (.ref C) (.ref t) s'.heap) (b1 : ∀ b o, s.heap.get? b = some o → b ∉ frs X.stack → ∃ o', B.get? b = some o') (b2 : ∀ b u, H' b = some u → ∃ o, B.get? b = some o)
    (fl5 : Heap.FlyingW B X.stack ea (.ref C) a5 h5) (u5 : s'.heap.UpToSlots h5) : H' ea = none ∧ Inv X pins σ (upd H' ea (xcO ea C)) { s' with heap := h5 } := by
  have nex : ∀ b : Addr, b ∉ ([] : List Addr) := fun b z => by cases z
  have hea : H' ea = none := by
    cases q : H' ea with
    | none => rfl
    | some u => obtain ⟨o, ho⟩ := b2 ea u q; rw [fl.2.1] at ho; cases ho
  have fr : ∀ b o, s'.heap.get? b = some o → b ∈ frs X.stack → ∃ sl, h5.get? b = some { o with slots := sl } := fun b o q hb => by
    obtain ⟨_, o', ho', hd⟩ := fl.2.2.1.mem hb
    rw [q] at ho'; cases ho'
    exact u5 b o q hd
  have nea : ∀ b o, s.heap.get? b = some o → b ≠ ea := fun b o q z => by
    subst z
    by_cases hb : b ∈ frs X.stack
    · obtain ⟨_, o', ho', hd⟩ := fl.2.2.1.mem hb
      obtain ⟨oe, ws, he, _, hdat⟩ := fly_obj fl
      rw [he] at ho'; cases ho'
      exact hd _ hdat
    · obtain ⟨o', ho⟩ := b1 b o q hb
      rw [fl.2.1] at ho; cases ho
  refine ⟨hea, I.call' (s' := { s' with heap := h5 }) (ch := []) os ⟨fun b o q n hb _ => ?_, fun b o q n hb _ => ?_, fun b o q n _ => ?_, fun b o q _ => ?_, fun b xs q => ?_, fun b o u q => ?_, fun b ps q => ?_⟩ ?_ bare fun b z => absurd z (nex b)⟩
  · have e2 := un.keep b o q n hb (nex b)
    obtain ⟨o', e3⟩ := b1 b o q hb
    have e4 := fl.1 b o' e3
    rw [e2] at e4; cases e4
    exact fl5.1 b _ e3
  · obtain ⟨sl1, e2⟩ := un.slot b _ q n hb (nex b)
    obtain ⟨sl2, e3⟩ := fr b _ e2 hb
    exact ⟨sl2, e3⟩
  · rw [upd_ne (nea b o q)]; exact un.free b o q n (nex b)
  · by_cases hb : b ∈ frs X.stack
    · obtain ⟨o2, e2⟩ := un.there b o q (nex b)
      obtain ⟨sl2, e3⟩ := fr b _ e2 hb
      exact ⟨_, e3⟩
    · obtain ⟨o', e1⟩ := b1 b o q hb
      exact ⟨_, fl5.1 b o' e1⟩
  · have := un.tups b xs q
    rw [upd_ne (ne_of_none this hea)]; exact this
  · have := un.frzs b o u q
    rw [upd_ne (ne_of_none this hea)]; exact this
  · obtain ⟨m2, e2⟩ := un.tbls b _ q
    exact ⟨m2, by rw [upd_ne (ne_of_none e2 hea)]; exact e2⟩
  · have ok5 := hok.by b2 fl.1 fl5.1
    intro b u e
    by_cases hb : b = ea
    · subst hb
      rw [upd_same] at e; cases e
      have x := fly_obj fl5
      obtain ⟨oe, ws, he, r⟩ := id x
      exact ⟨x, ⟨oe, he⟩, fun h1 h2 p k => p.keeps k⟩
    · rw [upd_ne hb] at e
      exact (ok5 b u e).stay (fun _ _ _ q => q) (fun c q => by rw [upd_ne (ne_of_none q hea)]; exact q) fun c xs q => by rw [upd_ne (ne_of_none q hea)]; exact q
theorem caught {s' : Shared} {e : Value} {E : XK} {D : Ends} {i : Nat} {n g : Str} {G : Addr} {b0 : Stmt} {suite : List Stmt} {hpos np : Pos} {th : TS} (I : Inv X pins σ H s) (hst : X.stack = X.env :: X.outer) (hf : X.env.frame = some X.env.locals) (hc : X.calm = true)
    (hN : X.N.Nodup) (hi : X.N[i]? = some n) (hl : X.env.scope.names.lookup n = some .local) (hg : Gl X g) (hm : X.mg g = some (.ref G)) (hs : ∀ ea, PSs (X.suite ea) (b0 :: suite) th) (hdb : (g == ("__debug__" : Str)) = false)
    (hx : CXR X.prog X.w X.stack H s E e s')
    (hE : ∀ C H', E (.ref C) none H' → PySem.W.exmOne X.K (.ref C) (.ref G) = some true ∧ ∀ ea, H' ea = none → th { D with nx := fun σ' H2 => D.nx (σ'.set i none) H2, bk := fun σ' H2 => D.bk (σ'.set i none) H2, ct := fun σ' H2 => D.ct (σ'.set i none) H2 } (σ.set i (some (.ref ea))) (upd H' ea (xcO ea C))) :
    wpAny (model X.prog X.w) X.A (noteFrame e X.env) (fun _ s2 => wpAny (model X.prog X.w) X.A (setFlight e none) (fun _ s3 => wpAny (model X.prog X.w) X.A (handleBy e X.env [.ExceptHandler (some (.Name g np)) (some n) (b0 :: suite) hpos]) (SP X pins D) X.xe s3) X.xe s2) X.xe s' := by
  obtain ⟨ea, C, t, H', B, rfl, os, bare, un, hok, fl, b1, b2, hw⟩ := hx
  obtain ⟨hm1, hth⟩ := hE C H' hw
  have fl0 := fl
  rw [hst] at fl0
  have hh := I.ok.hd hc
  have hk := I.ok.kind
  refine wpAny_looks_onW (hst ▸ I.ok.frames) hf fl0 fun h4 held u4 => ?_
  refine wpAny_landsW held fun h5 fl5 u5 => ?_
  rw [← hst] at fl5
  obtain ⟨hea, I5⟩ := fly_inv I os bare un hok fl b1 b2 fl5 (u4.trans u5)
  refine wpAny_handleBy_cons (codeAny_handlers_test (ld_glob (X := X.suite ea) (I5.suite ea) hg hm ?_ hdb)) (by intro q; cases q)
  refine (PySem.W.exm_one I5.kIn (fly_obj fl5).ty hm1).here ?_
  refine codeAny_handlers_suite_as ?_
  refine lands_againW fl5 fun h6 fl6 u6 => ?_
  obtain ⟨_, I6⟩ := fly_inv I os bare un hok fl b1 b2 fl6 ((u4.trans u5).trans u6)
  refine store_ok (X := X) I6 hN hi (.inl hl) (v := .ref ea) (u := .ref ea) rfl (fun s7 I7 => ?_) (.inr hl)
  refine wpAny_mono (hs ea pins s7 _ _ _ (I7.suite ea) (hth ea hea)) (fun f s8 q8 => ?_) fun _ _ z => False.elim z
  have key : ∀ {σ' : St} {H2 : Hp} {R : Prop}, Inv (X.suite ea) pins σ' H2 s8 → (∀ s9, Inv X pins (σ'.set i none) H2 s9 → SP X pins D f s9) →
      wpAny (model X.prog X.w) X.A (do bindName X.env n .none; unbindBehindTheSuite X.env n hpos) (fun _ s9 => SP X pins D f s9) X.xe s8 := fun {σ' H2 R} J k => by
    have J' := J.unsuite hh
    obtain ⟨m, hn, _⟩ := J'.loc
    refine wpAny_nameGoes_keeps hl hn (by rw [hk]; rfl) fun h' v hn' hsb => k _ (J'.forget hN hi hn hn' hsb)
  cases f with
  | next => obtain ⟨σ', H2, J, q⟩ := q8; exact key (R := True) J fun s9 I9 => ⟨_, H2, I9, q⟩
  | brk => obtain ⟨σ', H2, J, q⟩ := q8; exact key (R := True) J fun s9 I9 => ⟨_, H2, I9, q⟩
  | cont => obtain ⟨σ', H2, J, q⟩ := q8; exact key (R := True) J fun s9 I9 => ⟨_, H2, I9, q⟩
  | ret u => obtain ⟨v, σ', H2, J, r, q⟩ := q8; exact key (R := True) J fun s9 I9 => ⟨v, _, H2, I9, r, q⟩
end
end L2
set_option Elab.async false
set_option linter.all false
set_option maxRecDepth 100000
set_option maxHeartbeats 1000000
namespace L2
open PySem PySem.Spec PyProof.Rows
section
variable {X : Cx} {CX : CXT} {k : Nat} {f : Addr} {fd : FuncData} {ps : List Str} {sp : Sp} {E : XK} {x : Str} {p pos : Pos} {e : Expr} {es : List Expr} {t : TA} {pins : List (Addr × Obj)} {σ : St} {H : Hp} {s : Shared} {Q : VK} {EE : Value → Shared → Prop}
theorem run_fnT {us : List Value} {vs : List V} (F : FnOk X.prog X.w X.K X.mg X.base CX k f fd ps sp) (hr : Room k X.A) (hb : Binds X.K fd ps []) (I : Inv X pins σ H s) (hx : ∀ e s', CX X.stack H s E e s' → EE e s') (r : Vals vs us) (h : sp vs H Q E) :
    wpAny (model X.prog X.w) X.A (call (.ref f) us) (EP X pins σ Q) EE s := by
  have hl : us.length = ps.length := by rw [← r.length]; exact F.len _ _ _ _ h
  have hb2 := hb s us I.kIn (by simpa using hl)
  rw [List.append_nil] at hb2
  refine wpAny_call (codeAny_mono (F.run X.A X.stack s H ⟨us, []⟩ us vs Q E hr I.env0 hb2 r h) fun r s' hq => ?_)
  cases r with
  | error e => exact hx e s' hq
  | ok fl =>
    cases fl with
    | ret u => exact I.after hq
    | next => cases hq
    | brk => cases hq
    | cont => cases hq
theorem call_T (F : FnOk X.prog X.w X.K X.mg X.base CX k f fd ps sp) (hr : Room k X.A) (hg : Gl X x) (hm : X.mg x = some (.ref f)) (hk : PySem.W.keepIn X.K (.ref f) = true) (hb : Binds X.K fd ps []) (ha : PA X.nox (e :: es) t) (hdb : (x == ("__debug__" : Str)) = false)
    (he : starEach (e :: es) X.env = (false, eval e X.env) :: starEach es X.env) (hpl : (backTo pos (starEach es X.env)).any (·.1) = false) (I : Inv X pins σ H s) (h : t σ H fun vs H1 => sp vs H1 Q E) (hx : ∀ H1 s1 e s', Inv X pins σ H1 s1 → CX X.stack H1 s1 E e s' → EE e s') :
    wpAny (model X.prog X.w) X.A (eval (.Call (.Name x p) (e :: es) [] pos) X.env) (EP X pins σ Q) EE s := by
  refine wpAny_Call_Name_kw (ld_glob I hg hm ?_ hdb)
  refine PySem.W.callWith_K (h₀ := X.base) I.ok.mod.kin hk (wpAny_mono (ha pos pins s σ H _ (I.wish _) h) (fun us s1 hm0 => ?_) fun _ _ z => False.elim z) he hpl
  obtain ⟨vs, H1, I1, r, q⟩ := hm0
  have J : Inv X pins σ H1 s1 := I1.unwish
  exact ⟨J.kIn, run_fnT F hr hb J (fun e s' z => hx H1 s1 e s' J z) r q⟩
end
def exTry (K : PySem.W.Frag) (G : Addr) (th : TS) (i : Nat) (D : Ends) (σ : St) : XK := fun c _ H' => ∃ C, c = .ref C ∧ PySem.W.exmOne K (.ref C) (.ref G) = some true ∧ ∀ ea, H' ea = none →
  th { D with nx := fun σ' H2 => D.nx (σ'.set i none) H2, bk := fun σ' H2 => D.bk (σ'.set i none) H2, ct := fun σ' H2 => D.ct (σ'.set i none) H2 } (σ.set i (some (.ref ea))) (upd H' ea (xcO ea C))
def tTryE (K : PySem.W.Frag) (G : Addr) (sp : Sp) (t : TA) (th : TS) (i : Nat) : TS := fun D σ H => t σ H fun vs H1 => sp vs H1 (fun _ H2 => D.nx σ H2) (exTry K G th i D σ)
section
variable {X : Cx} {x y g n : Str} {i j m k : Nat} {ps : List Str} {sp : Sp} {p py pos epos np hpos tpos : Pos} {e : Expr} {es : List Expr} {t : TA} {th : TS} {G : Addr} {b0 : Stmt} {suite : List Stmt}
theorem ps_tryE (D : DnX X.prog X.w X.K X.mg X.base x m ps sp) (hr : Room k X.A) (ha : PA X.nox (e :: es) t) (hmg : X.mg g = some (.ref G)) (hs : ∀ ea, PSs (X.suite ea) (b0 :: suite) th) (hN : X.N.Nodup) (hi : X.N[i]? = some n) (hl : X.env.scope.names.lookup n = some .local)
    (hk : m ≤ k := by decide) (hc : X.calm = true := by rfl) (hst : X.stack = X.env :: X.outer := by rfl) (hf : X.env.frame = some X.env.locals := by rfl) (hg : Gl X x := by rfl) (hgg : Gl X g := by rfl)
    (hdb : (x == ("__debug__" : Str)) = false := by decide) (hdg : (g == ("__debug__" : Str)) = false := by decide) (he : starEach (e :: es) X.env = (false, eval e X.env) :: starEach es X.env := by rfl) (hpl : (backTo pos (starEach es X.env)).any (·.1) = false := by rfl)
    (hsw : swapsWith (.Call (.Name x p) (e :: es) [] pos) none epos.line X.env = pure false := by rfl) :
    PS X (.Try [.Expr (.Call (.Name x p) (e :: es) [] pos) epos] [.ExceptHandler (some (.Name g np)) (some n) (b0 :: suite) hpos] [] [] tpos) (tTryE X.K G sp t th i) := by
  intro pins s σ H D0 I h
  obtain ⟨f, fd, F, hm, kp, hb⟩ := D.ex
  refine wpAny_Try_except (wpAny_execs_cons ?_)
  refine wpAny_Expr_any (thn (call_T F (hr.mono hk) hg hm kp hb ha hdb he hpl I h (fun H1 s1 e s' J z => ?_)) fun v s1 ⟨u, H1, I1, r1, q1⟩ => ?_) I.quiet hsw
  · exact caught (D := D0) J hst hf hc hN hi hl hgg hmg hs hdg z fun C H' ⟨C', e1, q1, q2⟩ => by cases e1; exact ⟨q1, q2⟩
  · exact wpAny_execs_nil (wpAny_execs_nil ⟨σ, H1, I1, q1⟩)
end
end L2
set_option Elab.async false
set_option linter.all false
set_option maxRecDepth 100000
set_option maxHeartbeats 1000000
namespace L2
open PySem PySem.Spec PyProof.Rows
def clK (K : PySem.W.Frag) (x : Str) : Addr := match PySem.W.nsIn K mainGlobals x with
  | some (some (.ref C)) => C
  | _ => 0
def xcB (K : PySem.W.Frag) (C : Addr) : Bool :=
  PySem.W.findIn K (.ref C) "__getattribute__" == some (some (.builtin "BaseException.__getattribute__")) && PySem.W.findIn K (.ref C) "__getattr__" == some none &&
  PySem.W.findIn K (.ref C) "__class__" == some (some (.builtin "object.__class__")) && PySem.W.specialIn K (.builtin "object.__class__") "__get__" == some (some (.builtin "getset_descriptor.__get__")) &&
  PySem.W.takesIn K (.builtin "object.__class__") == some true && PySem.W.mroIn K C (.type "object") == some true && PySem.W.mroIn K C (.type "BaseException") == some true && (PySem.W.clsIn K C).isSome
def xcFacts (K : PySem.W.Frag) (top : Str) (rs ns : List Str) : Bool :=
  (PySem.W.nsIn K mainGlobals top == some (some (.ref (clK K top)))) &&
  (ns.all fun y => PySem.W.nsIn K mainGlobals y == some (some (.ref (clK K y)))) &&
  rs.all fun x => (PySem.W.nsIn K mainGlobals x == some (some (.ref (clK K x)))) && xcB K (clK K x) && PySem.W.excIn K (clK K x) bmV "ValueError.__new__" &&
    (PySem.W.exmOne K (.ref (clK K x)) (.ref (clK K top)) == some true) && (PySem.W.kitOne K (.ref (clK K x)) (.type "ValueError") == some true) &&
    ns.all fun y => PySem.W.kitOne K (.ref (clK K x)) (.ref (clK K y)) == some (decide (x = y))
structure XT (K : PySem.W.Frag) (mg : Str → Option Value) (top : Str) (rs ns : List Str) : Prop where
  m : ∀ x, (x = top ∨ x ∈ rs ∨ x ∈ ns) → mg x = some (.ref (clK K x))
  exc : ∀ x ∈ rs, PySem.W.excIn K (clK K x) bmV "ValueError.__new__" = true
  k : ∀ x ∈ rs, XcK K (clK K x)
  hit : ∀ x ∈ rs, PySem.W.exmOne K (.ref (clK K x)) (.ref (clK K top)) = some true
  val : ∀ x ∈ rs, PySem.W.kitOne K (.ref (clK K x)) (.type "ValueError") = some true
  one : ∀ x ∈ rs, ∀ y ∈ ns, PySem.W.kitOne K (.ref (clK K x)) (.ref (clK K y)) = some (decide (x = y))
theorem xt_of {K : PySem.W.Frag} {h : Heap} {mg : Str → Option Value} {top : Str} {rs ns : List Str} (X : K.In h) (G : h.Ns mainGlobals mg) (e : xcFacts K top rs ns = true) : XT K mg top rs ns := by
  unfold xcFacts at e
  simp only [Bool.and_eq_true, List.all_eq_true, beq_iff_eq] at e
  obtain ⟨⟨e1, e2⟩, e3⟩ := e
  refine ⟨fun x hx => ?_, fun x hx => (e3 x hx).1.1.1.2, fun x hx => ?_, fun x hx => (e3 x hx).1.1.2, fun x hx => (e3 x hx).1.2, fun x hx y hy => (e3 x hx).2 y hy⟩
  · rcases hx with rfl | hx | hx
    · exact PySem.W.mg_of X G e1
    · exact PySem.W.mg_of X G (e3 x hx).1.1.1.1.1
    · exact PySem.W.mg_of X G (e2 x hx)
  · have z := (e3 x hx).1.1.1.1.2
    unfold xcB at z
    simp only [Bool.and_eq_true, beq_iff_eq] at z
    obtain ⟨⟨⟨⟨⟨⟨⟨z1, z2⟩, z3⟩, z4⟩, z5⟩, z6⟩, z7⟩, z8⟩ := z
    exact ⟨z1, z2, z3, z4, z5, z6, z7, z8⟩
theorem boot_VE : bootBuiltins "ValueError" = some (.type "ValueError") := by decide +kernel
section
variable {X : Cx}
theorem call_isiE : CallR X (.builtin "isinstance") (fun xs H Q => ∃ e C D b, xs = [.ref e, .ref D] ∧ H e = some (xcO e C) ∧ XcK X.K C ∧ PySem.W.kitOne X.K (.ref C) (.ref D) = some b ∧ Q (.bl b) H) := by
  intro pins s σ H xs us Q I r h
  obtain ⟨e, C, D, b, rfl, he, hk, hb, q⟩ := h
  obtain ⟨u, c, rfl, ru, rc⟩ := r.two
  cases (show u = Value.ref e from ru)
  cases (show c = Value.ref D from rc)
  exact PySem.W.kia_one (kitx_exc hk) I.kIn (I.hok e _ he).1 hb (by intro z; cases z) fun tk => ⟨.bl b, H, I.tok _, rfl, q⟩
theorem call_isiV {T : String} : CallR X (.builtin "isinstance") (fun xs H Q => ∃ e C b, xs = [.ref e, .ty T] ∧ H e = some (xcO e C) ∧ XcK X.K C ∧ PySem.W.kitOne X.K (.ref C) (.type T) = some b ∧ Q (.bl b) H) := by
  intro pins s σ H xs us Q I r h
  obtain ⟨e, C, b, rfl, he, hk, hb, q⟩ := h
  obtain ⟨u, c, rfl, ru, rc⟩ := r.two
  cases (show u = Value.ref e from ru)
  cases (show c = Value.type T from rc)
  exact PySem.W.kia_one (kitx_exc hk) I.kIn (I.hok e _ he).1 hb (by intro z; cases z) fun tk => ⟨.bl b, H, I.tok _, rfl, q⟩
end
end L2
set_option Elab.async false
set_option linter.all false
set_option maxRecDepth 100000
set_option maxHeartbeats 1000000
namespace L2
open PySem PySem.Spec PyProof.Rows
section
variable {X : Cx}
end
end L2
set_option Elab.async false
set_option linter.all false
set_option maxRecDepth 100000
set_option maxHeartbeats 1000000
namespace L2
open PySem PySem.Spec PyProof.Rows
end L2
set_option Elab.async false
set_option linter.all false
set_option maxRecDepth 100000
set_option maxHeartbeats 1000000
namespace L2
open PySem PySem.Spec PyProof.Rows
section
variable {X : Cx}
def PJ (X : Cx) (es : List Expr) (n : Nat) : Prop := ∀ (out : Str) (pins : List (Addr × Obj)) (s : Shared) (σ : St) (H : Hp) (Q : VK), Inv X pins σ H s → out.length + n ≤ sizeLine → (∀ x, Q (.str x) H) →
  wpAny (model X.prog X.w) X.A (joinParts out (evalEach es X.env)) (EP X pins σ Q) X.xe s
theorem pj_nil : PJ X [] 0 := fun out pins s σ H Q I hz q => joinParts_nil ⟨.str out, H, I.tok _, ⟨_, rfl⟩, q _⟩ (by omega)
theorem pj_str {x : Str} {j pos} {rest : List Expr} {n : Nat} (h : PJ X rest n) : PJ X (.Constant (.str x) j pos :: rest) (x.length + n) := fun out pins s σ H Q I hz q => by
  have e : (out ++ x).length = out.length + x.length := strLen_append ..
  refine joinParts_cons (Calls.Constant_str ⟨by omega, h _ pins _ σ H Q (I.tok _) (by omega) q⟩)
theorem pj_int {g : Str} {v : Int} {p p2 : Pos} {rest : List Expr} {n : Nat} (hm : ∃ t, X.mg g = some (.int v t)) (h : PJ X rest n) (hg : Gl X g := by rfl) (hd : (g == ("__debug__" : Str)) = false := by decide) (hv : v.natAbs.log2 < 1920 := by decide +kernel) :
    PJ X (.FormattedValue (.Name g p) (-1) none p2 :: rest) ((toString v : Str).length + n) := fun out pins s σ H Q I hz q => by
  obtain ⟨t, hm⟩ := hm
  have e : (out ++ (toString v : Str)).length = out.length + (toString v : Str).length := strLen_append ..
  refine joinParts_cons (FormattedValue_plain (ld_glob I hg hm (formatField_int_small hv ⟨by omega, h _ pins _ σ H Q (I.tok _) (by omega) q⟩) hd))
def tSomeStr : TE := fun _ H Q => ∀ x, Q (.str x) H
theorem pe_join {v1 v2 : Expr} {rest : List Expr} {pos : Pos} {n : Nat} (h : PJ X (v1 :: v2 :: rest) n) (hn : n ≤ sizeLine := by decide +kernel) : PE X (.JoinedStr (v1 :: v2 :: rest) pos) tSomeStr := fun pins s σ H Q I q =>
  JoinedStr_many (h Str.empty pins s σ H Q I (by rw [show Str.empty.length = 0 from rfl]; omega) q)
end
end L2
set_option Elab.async false
set_option linter.all false
set_option maxRecDepth 100000
set_option maxHeartbeats 1000000
namespace L2
open PySem PySem.Spec PyProof.Rows
section
variable {X : Cx}
end
end L2
set_option Elab.async false
set_option linter.all false
set_option maxRecDepth 100000
set_option maxHeartbeats 1000000
namespace L2
open PySem PySem.Spec PyProof.Rows
section
variable {X : Cx} {pins : List (Addr × Obj)} {σ : St} {H : Hp} {s : Shared}
end
end L2
set_option Elab.async false
set_option linter.all false
set_option maxRecDepth 100000
set_option maxHeartbeats 1000000
namespace L2
open PySem PySem.Spec PyProof.Rows
end L2
set_option Elab.async false
set_option linter.all false
namespace L2
open PySem PyProof.Rows
section
variable {prog : Program} {w : World} {A : Around} {E : Value → Shared → Prop} {s : Shared}
end
end L2
set_option Elab.async false
set_option linter.all false
namespace L2
open PySem PyProof.Rows
section
variable {prog : Program} {w : World} {A : Around} {E : Value → Shared → Prop} {s : Shared}
end
end L2
set_option Elab.async false
set_option linter.all false
namespace L2
open PySem PyProof.Rows
section
variable {prog : Program} {w : World} {A : Around} {E : Value → Shared → Prop} {s : Shared}
end
end L2
set_option Elab.async false
set_option linter.all false
namespace L2
open PySem PyProof.Rows
section
variable {a₀ : Array Keyed} {pd : Array (Nat × Nat × Nat)} {st : SortSt}
variable {prog : Program} {w : World} {A : Around} {E : Value → Shared → Prop} {s : Shared}
end
end L2
set_option Elab.async false
set_option linter.all false
namespace L2
open PySem PyProof.Rows
section
variable {prog : Program} {w : World} {A : Around} {E : Value → Shared → Prop} {s : Shared} {a₀ : Array Keyed} {pd : Array (Nat × Nat × Nat)} {st : SortSt}
end
end L2
set_option Elab.async false
set_option linter.all false
namespace L2
open PySem PyProof.Rows
section
variable {prog : Program} {w : World} {A : Around} {E : Value → Shared → Prop} {s : Shared} {a₀ : Array Keyed} {st : SortSt}
end
end L2
set_option Elab.async false
set_option linter.all false
set_option maxRecDepth 100000
set_option maxHeartbeats 1000000
namespace L2
open PySem PySem.Spec PyProof.Rows
section
variable {prog : Program} {w : World} {A : Around} {E : Value → Shared → Prop} {s : Shared}
end
section
variable {X : Cx}
end
end L2
set_option Elab.async false
set_option linter.all false
set_option maxRecDepth 100000
set_option maxHeartbeats 1000000
namespace L2
open PySem PySem.Spec PyProof.Rows
section
variable {P : Program} {w : World} {K : PySem.W.Frag} {mg : Str → Option Value} {base : Heap}
end
end L2
set_option Elab.async false
set_option linter.all false
set_option maxRecDepth 100000
set_option maxHeartbeats 1000000
namespace L2
open PySem PySem.Spec PyProof.Rows
theorem cut_from1 (xs : List V) : cutV xs (some 1) none = xs.drop 1 := by
  unfold cutV
  show List.take _ (List.drop (HT.sIx xs.length 0 (some ((1 : Nat) : Int))) xs) = _
  rw [HT.sIx_nat, HT.sIx_none]
  cases xs with
  | nil => rfl
  | cons x xs =>
    have : min 1 (x :: xs).length = 1 := by simp
    show List.take ((x :: xs).length - min 1 (x :: xs).length) (List.drop (min 1 (x :: xs).length) (x :: xs)) = _
    rw [this]
    refine List.take_of_length_le ?_
    simp
end L2
set_option Elab.async false
set_option linter.all false
set_option maxRecDepth 100000
set_option maxHeartbeats 1000000
namespace L2
open PySem PySem.Spec PyProof.Rows
section
variable {X : Cx}
end
end L2
set_option Elab.async false
set_option linter.all false
set_option maxRecDepth 100000
set_option maxHeartbeats 1000000
namespace L2
open PySem PySem.Spec PyProof.Rows
section
variable {P : Program} {w : World} {K : PySem.W.Frag} {mg : Str → Option Value} {base : Heap}
end
section
variable {X : Cx}
end
end L2
set_option Elab.async false
set_option linter.all false
set_option maxRecDepth 100000
set_option maxHeartbeats 1000000
namespace L2
open PySem PySem.Spec PyProof.Rows
section
variable {H H' : Hp} {a b c : Addr}
end
end L2
set_option Elab.async false
set_option linter.all false
namespace L2
open PySem PySem.Spec PyProof.Rows
section
variable {K : PySem.W.Frag} {i j : Nat} {σ : St} {H : Hp} {Q : VK} {a b C dx : Addr} {xs ys : List V} {z c : Int} {v u : V} {f : Str} {fs : List (Str × V)}
end
end L2
set_option linter.all false
namespace L2
end L2
set_option Elab.async false
set_option linter.all false
set_option maxRecDepth 100000
set_option maxHeartbeats 1000000
namespace L2
open PySem PySem.W PySem.Spec PyProof.Rows
section
variable {k : Nat → Int} {n : Nat} {cmp : Nat → Nat → (Bool → Shared → Prop) → Shared → Prop} {s : Shared}
end
end L2
set_option Elab.async false
set_option linter.all false
set_option maxRecDepth 100000
set_option maxHeartbeats 1000000
namespace L2
open PySem PySem.Spec PyProof.Rows
section
variable {prog : Program} {w : World} {A : Around} {E : Value → Shared → Prop} {s : Shared}
end
section
variable {X : Cx}
end
end L2
set_option Elab.async false
set_option linter.all false
set_option maxRecDepth 100000
set_option maxHeartbeats 1000000
namespace L2
open PySem PySem.Spec PyProof.Rows
section
variable {X : Cx} {elt tg iter : Expr} {ifs : List Expr} {scope : Scope} {pos : Pos} {wi : TI} {tt : TTg} {tc : TT} {te : TE}
end
end L2
set_option linter.all false
namespace L2
open PySem
section
variable {P : List Value → Prop}
theorem argS {n : Nat} (h : ∀ a (us : List Value), us.length = n → P (a :: us)) (us : List Value) (e : us.length = n + 1) : P us := by
  cases us with
  | nil => exact absurd e (Nat.succ_ne_zero n).symm
  | cons a us => exact h a us (Nat.succ.inj e)
theorem arg0 (h : P []) (us : List Value) (e : us.length = 0) : P us := by
  rw [List.length_eq_zero_iff.mp e]; exact h
theorem arg1 (h : ∀ a, P [a]) : ∀ us : List Value, us.length = 1 → P us := argS fun a => arg0 (h a)
theorem arg2 (h : ∀ a b, P [a, b]) : ∀ us : List Value, us.length = 2 → P us := argS fun a => arg1 (P := fun us => P (a :: us)) (h a)
theorem arg3 (h : ∀ a b c, P [a, b, c]) : ∀ us : List Value, us.length = 3 → P us := argS fun a => arg2 (P := fun us => P (a :: us)) (h a)
end
end L2
set_option Elab.async false
set_option linter.all false
set_option maxRecDepth 100000
set_option maxHeartbeats 1000000
namespace L2
open PySem PySem.Spec PyProof.Rows
theorem vals_bls : ∀ {bs : List Bool} {us : List Value}, Vals (bs.map V.bl) us → us = bs.map Value.bool
  | [], _, .nil => rfl
  | b :: r, _, .cons h q => by cases h; rw [vals_bls q]; rfl
section
variable {X : Cx}
end
section
variable {X : Cx}
end
end L2
set_option Elab.async false
set_option linter.all false
set_option maxRecDepth 100000
set_option maxHeartbeats 1000000
namespace L2
open PySem PySem.Spec PyProof.Rows
section
variable {X : Cx}
end
end L2
set_option linter.all false
namespace L2
open PySem PySem.Spec PyProof.Rows
end L2
set_option Elab.async false
set_option linter.all false
set_option maxHeartbeats 4000000
namespace L2
open PySem
section
variable {X : Cx} {pins : List (Addr × Obj)} {σ : St} {H : Hp} {s : Shared} {a : Addr} {kvs : List (Key × V)} {k : Key} {u : Value} {A : Around} {E : Value → Shared → Prop}
end
section
variable {X : Cx} {o e f : Expr} {apos cpos : Pos} {td ty tx : TE}
end
end L2
set_option Elab.async false
set_option linter.all false
set_option maxRecDepth 100000
set_option maxHeartbeats 4000000
namespace L2
open PySem PySem.Spec PyProof.Rows
theorem pe_gstr {X : Cx} {x z : Str} {pos : Pos} (hm : ∃ t, X.mg x = some (.str z t)) (hg : Gl X x := by rfl) (hd : (x == ("__debug__" : Str)) = false := by decide) : PE X (.Name x pos) (tC (.str z)) := by
  obtain ⟨t, hm⟩ := hm
  exact pe_glob hg hm ⟨t, rfl⟩ hd
theorem vals_from : ∀ (ps : List Str) (k : Nat), Vals (ps.map V.str) (strsFrom k ps)
  | [], _ => .nil
  | p :: r, k => .cons ⟨k, rfl⟩ (vals_from r (k + 1))
def rSplit : V → List V → Hp → VK → Prop := fun x vs H Q => ∃ z y, x = .str z ∧ vs = [.str y] ∧ (y.length == 0) = false ∧ z.length + 2 ≤ sizeLine ∧ ∀ p, H p = none → Q (.ref p) (upd H p (.lst ((Txt.split z y).map V.str)))
section
variable {X : Cx}
theorem mt_split : MtM X "str.split" rSplit := by
  intro pins s σ H x vs v us Q I rx rv h
  obtain ⟨z, y, rfl, rfl, hy, hz, q⟩ := h
  obtain ⟨t, rfl⟩ := rx
  obtain ⟨u, rfl, t', rfl⟩ := rv.one
  have hf := (fact_split z y).2
  have lay : ∀ (its : List Value) (tk : Nat), Vals ((Txt.split z y).map V.str) its → EP X pins σ Q (.ref s.heap.objs.size) { heap := s.heap.push { cls := .type "list", data := .seq its.toArray }, gens := s.gens, drawn := s.drawn, toks := tk, os := s.os } := fun its tk r => by
    refine ⟨.ref s.heap.objs.size, _, I.laid (t' := tk) (o := .lst ((Txt.split z y).map V.str)) (fun b ob q => Heap.get?_push_of_some _ q) (Nat.le_refl _) ?_, rfl, q _ (I.hok.fresh (Nat.le_refl _))⟩
    exact ⟨by rw [List.length_map]; omega, its, 0, r, Heap.get?_push_size _ rfl⟩
  cases c1 : (decide (z.length < y.length) || decide (Builtin.Str.strKind z < Builtin.Str.strKind y)) with
  | true =>
    have e : Txt.split z y = [z] := by unfold Txt.split; rw [if_pos c1]
    exact call_meets F.slot_str_split (typeIs_str s z t) F.entry_str_split (F.args_str_split_2 _ _) (meets_str_split_cannot_occur z y t t' c1) (lay [.str z t] _ (by rw [e]; exact .cons ⟨t, rfl⟩ .nil))
  | false =>
    cases c2 : (Builtin.Str.occurrences z y 0 z.length (z.length + 1)).isEmpty with
    | true =>
      have e : Txt.split z y = [z] := by unfold Txt.split; rw [if_neg (by rw [c1]; decide), if_pos c2]
      exact call_meets F.slot_str_split (typeIs_str s z t) F.entry_str_split (F.args_str_split_2 _ _) (meets_str_split_not_found z y t t' c1 hy c2) (lay [.str z t] _ (by rw [e]; exact .cons ⟨t, rfl⟩ .nil))
    | false =>
      have e : Txt.split z y = Builtin.Str.partsBetween z (Builtin.Str.occurrences z y 0 z.length (z.length + 1)) y.length := by unfold Txt.split; rw [if_neg (by rw [c1]; decide), if_neg (by rw [c2]; decide)]
      exact call_meets F.slot_str_split (typeIs_str s z t) F.entry_str_split (F.args_str_split_2 _ _) (meets_str_split_sep z y t t' c1 hy c2 (by omega) (by rw [← e]; omega)) (lay _ _ (by rw [e]; exact vals_from _ _))
def rPart : V → List V → Hp → VK → Prop := fun x vs H Q => ∃ z y, x = .str z ∧ vs = [.str y] ∧ (y.length == 0) = false ∧ z.length ≤ sizeLine ∧ ∀ p, H p = none → Q (.ref p) (upd H p (.tup [.str (Txt.partition z y).1, .str (Txt.partition z y).2.1, .str (Txt.partition z y).2.2]))
theorem mt_partition : MtM X "str.partition" rPart := by
  intro pins s σ H x vs v us Q I rx rv h
  obtain ⟨z, y, rfl, rfl, hy, hz, q⟩ := h
  obtain ⟨t, rfl⟩ := rx
  obtain ⟨u, rfl, t', rfl⟩ := rv.one
  have lay : ∀ (its : List Value) (tk : Nat), Vals [.str (Txt.partition z y).1, .str (Txt.partition z y).2.1, .str (Txt.partition z y).2.2] its → EP X pins σ Q (.ref s.heap.objs.size) { heap := s.heap.push { cls := .type "tuple", data := .seq its.toArray }, gens := s.gens, drawn := s.drawn, toks := tk, os := s.os } := fun its tk r => by
    refine ⟨.ref s.heap.objs.size, _, I.laid (t' := tk) (o := .tup _) (fun b ob q => Heap.get?_push_of_some _ q) (Nat.le_refl _) ?_, rfl, q _ (I.hok.fresh (Nat.le_refl _))⟩
    exact ⟨by show 3 ≤ sizeLine; decide, its, r, IsTup.new _ _⟩
  refine call_meets F.slot_str_partition (typeIs_str s z t) F.entry_str_partition (F.args_str_partition_2 _ _) (meets_str_partition z y t t' hy hz) ?_
  cases c : Builtin.Str.occurrences z y 0 z.length 1 with
  | nil => exact lay [.str z t, .str Str.empty s.toks, .str Str.empty s.toks] _ (by unfold Txt.partition; rw [c]; exact .cons ⟨_, rfl⟩ (.cons ⟨_, rfl⟩ (.cons ⟨_, rfl⟩ .nil)))
  | cons i r => exact lay [.str (Builtin.Str.strSub z 0 i) s.toks, .str y t', .str (Builtin.Str.strSub z (i + y.length) z.length) (s.toks + 1)] _ (by unfold Txt.partition; rw [c]; exact .cons ⟨_, rfl⟩ (.cons ⟨_, rfl⟩ (.cons ⟨_, rfl⟩ .nil)))
theorem strs_are : ∀ {ys : List Str} {us : List Value}, Vals (ys.map V.str) us → StrsAre us ys
  | [], _, r => by cases r; exact .nil
  | y :: ys, _, r => by
    cases r with
    | cons h r =>
      obtain ⟨t, e⟩ := h
      subst e
      exact .cons y t (strs_are r)
def rJoin (K : PySem.W.Frag) : V → List V → Hp → VK → Prop := fun x vs H Q => ∃ (z : Str) (a : Addr) (ys : List Str), x = .str z ∧ vs = [.ref a] ∧ SqL K H a (ys.map V.str) ∧ z.length ≤ 64 ∧ (ys.map fun x => x.length).sum + ys.length * 64 ≤ 16777216 ∧ Q (.str (Txt.join z ys)) H
theorem mt_join : MtM X "str.join" (rJoin X.K) := by
  intro pins s σ H x vs v us Q I rx rv h
  obtain ⟨z, a, ys, rfl, rfl, hq, h64, hs, q⟩ := h
  obtain ⟨t, rfl⟩ := rx
  obtain ⟨u, rfl, ru⟩ := rv.one
  cases ru
  obtain ⟨its, r, pl, hz⟩ := I.list hq
  exact PyProof.Rows.join_listC pl.isList (by simpa using strs_are r) h64 hs fun t' k => ⟨.str _, H, I.kept (t' := k) fun b o e => e, ⟨t', rfl⟩, q⟩
end
end L2
set_option Elab.async false
set_option linter.all false
set_option maxRecDepth 100000
set_option maxHeartbeats 4000000
namespace L2
open PySem PySem.Spec PyProof.Rows
theorem range_all (bs : List Bool) : (List.range bs.length).all (fun i => bs.getD i false) = bs.all id := by
  rw [Bool.eq_iff_iff, List.all_eq_true, List.all_eq_true]
  constructor
  · intro h b hb
    obtain ⟨i, hi⟩ := List.getElem?_of_mem hb
    have hl := (List.getElem?_eq_some_iff.mp hi).1
    have := h i (List.mem_range.mpr hl)
    rw [List.getD_eq_getElem?_getD, hi] at this
    exact this
  · intro h i hi
    have hl := List.mem_range.mp hi
    rw [List.getD_eq_getElem?_getD, List.getElem?_eq_getElem hl]
    exact h _ (List.getElem_mem hl)
section
variable {X : Cx}
theorem call_allL (hc : X.calm = true) : CallR X (.builtin "all") (fun xs H Q => ∃ (a : Addr) (bs : List Bool), xs = [.ref a] ∧ SqL X.K H a (bs.map V.bl) ∧ Q (.bl (bs.all id)) H) := by
  intro pins s σ H xs us Q I r h
  obtain ⟨a, bs, rfl, ha, q⟩ := h
  obtain ⟨u, rfl, ru⟩ := vals1 r
  cases ru
  obtain ⟨its, rv, pl, hz⟩ := I.list ha
  have ei := vals_bls rv
  subst ei
  have hal : a < s.heap.objs.size := by
    obtain ⟨o, h1, _⟩ := pl.isList
    exact Heap.lt_size h1
  refine call_all_walk (wpAny_pyIter_list pl.isList ⟨s.heap.objs.size, _, _, _, _, _, fun i => bs.getD i false, rfl, Walks.list (A := X.A.in1) (I.ok.hd hc) s.heap.objs.size a (Nat.ne_of_lt hal) (bs.map Value.bool).toArray, ⟨⟨_, Heap.get?_push_size _ rfl, rfl, rfl⟩, ?_⟩, fun i v s' Q' E' hv hq => ?_, fun h' tk k => ?_⟩)
  · obtain ⟨o, h1, h2⟩ := pl.isList
    exact ⟨o, Heap.get?_push_of_some _ h1, h2⟩
  · have hv' : (bs.map Value.bool)[i]? = some v := by simpa using hv
    rw [List.getElem?_map] at hv'
    cases e : bs[i]? with
    | none => rw [e] at hv'; cases hv'
    | some b =>
      rw [e] at hv'; cases hv'
      refine wpAny_truthy_bool ?_
      have : bs.getD i false = b := by rw [List.getD_eq_getElem?_getD, e]; rfl
      have hq' : Q' (bs.getD i false) s' := hq
      rw [this] at hq'
      exact hq'
  · have e : (List.range (bs.map Value.bool).toArray.size).all (fun i => bs.getD i false) = bs.all id := by
      rw [← range_all bs]; simp
    rw [e]
    refine ⟨.bl (bs.all id), H, I.kept (t' := tk) fun b o hb => ?_, rfl, q⟩
    exact k b o (by rw [List.mem_singleton]; exact Nat.ne_of_lt (Heap.lt_size hb)) (Heap.get?_push_of_some _ hb)
end
def Its (z : Str) : It where
  go := fun i _ => i < z.cps.size
  yld := fun i H x H' => H' = H ∧ ∃ c, z.cps[i]? = some c ∧ x = .str ⟨#[c]⟩
  stop := fun i _ => i = z.cps.size
theorem walk_str {P : Program} {w : World} {A : Around} (h : A.handled = none) (it : Addr) (z : Str) (t : Tok) : Walks P w A it [it] [it] z.cps.size (SignAt z) (fun i h => h.IsStrIter it (strIterType z) z t i) := by
  unfold strIterType
  split
  · exact Walks.strAscii h it z t
  · exact Walks.strWide h it z t
theorem turn_str {P : Program} {w : World} {K : PySem.W.Frag} {tg : Expr} (z : Str) (t : Tok) (it : Addr) : Turn P w K tg (Its z) [it] it (fun i h => h.IsStrIter it (strIterType z) z t i) where
  mem := by simp
  obj := fun i h st b hb => by
    have e : b = it := by simpa using hb
    subst e
    obtain ⟨o, e, c, d⟩ := st
    exact ⟨o, e, fun v z => by rw [d] at z; cases z⟩
  keep := fun i h h' st k => by
    obtain ⟨o, e, c, d⟩ := st
    exact ⟨o, k it (by simp) o e, c, d⟩
  item := by
    intro X hP hw hK hc i pins s σ H E I hf st hg
    subst hP hw hK
    obtain ⟨f0, f1, f2, f3, f4, f5⟩ := hf it (by simp)
    refine (walk_str (P := X.prog) (w := X.w) (I.ok.hd hc) it z t).item i s _ _ hg st fun v h' tk hv st' kk => ?_
    obtain ⟨c, u, hc', rfl⟩ := hv
    have I1 : Inv X pins σ H { s with heap := h', toks := tk } := I.turned (fun b o hb e => kk b o (by simpa using hb) e) f0 f1 f3 f4 f5
    obtain ⟨o, e, cc, d⟩ := id st'
    refine ⟨_, rfl, go_of (s := { s with heap := h', toks := tk }) e cc d (by unfold strIterType; split <;> decide) ⟨.str ⟨#[c]⟩, H, I1, ⟨u, rfl⟩, ⟨rfl, c, hc', rfl⟩, st', fun b hb => (hf b hb).1⟩⟩
  done := by
    intro X hP hw hK hc i pins s σ H E I hf st hg
    subst hP hw hK
    obtain ⟨f0, f1, f2, f3, f4, f5⟩ := hf it (by simp)
    have e : i = z.cps.size := hg
    subst e
    exact (walk_str (P := X.prog) (w := X.w) (I.ok.hd hc) it z t).done s _ _ st fun h' tk kk => ⟨rfl, I.turned (fun b o hb e => kk b o (by simpa using hb) e) f0 f1 f3 f4 f5⟩
  self := fun A i s Q E st h => by
    unfold strIterType at st
    split at st
    · exact wpAny_pyIter_striter_ascii st h
    · exact wpAny_pyIter_striter_wide st h
def iStr (tl : TE) : TI := fun σ H R => tl σ H fun x H1 => ∃ z, x = .str z ∧ R (Its z) H1
theorem pi_str {X : Cx} {tg l : Expr} {tl : TE} (hl : PE X l tl) : PI X tg l (iStr tl) := by
  intro pins s σ H R I h
  refine thn (hl pins s σ H _ I h) fun v s1 hm0 => ?_
  obtain ⟨x, H1, I1, r1, q1⟩ := hm0
  obtain ⟨z, e, q⟩ := q1
  subst e
  obtain ⟨t, rfl⟩ := r1
  refine wpAny_pyIter_strU ?_
  refine ⟨s1.heap.objs.size, [s1.heap.objs.size], _, _, H1, rfl, I1.kept (t' := s1.toks) fun b o e => Heap.get?_push_of_some _ e, turn_str z t _, ⟨_, Heap.get?_push_size _ rfl, rfl, rfl⟩, fun b hb => ?_, q⟩
  have e : b = s1.heap.objs.size := by simpa using hb
  subst e
  exact I1.fpOk (Nat.le_refl _) (I1.hok.fresh (Nat.le_refl _))
theorem comp_strD {z : Str} {tt : TTg} {tc : TT} {te : TE} {cap : List Nat} {σ : St} {H : Hp} {D : Addr → List V → Hp → Prop} (Pv : Nat → List V → Hp → Prop) (h0 : Pv 0 [] H) (hz : z.cps.size ≤ sizeLine) (hl : ∀ i ys H, i ≤ z.cps.size → Pv i ys H → ys.length ≤ i)
    (hs : ∀ i c ys H, z.cps[i]? = some c → Pv i ys H → tt (.str ⟨#[c]⟩) H fun ws => tc (ws.map some ++ capS σ cap) H fun b H4 => if b = true then te (ws.map some ++ capS σ cap) H4 fun y H5 => Pv (i + 1) (ys ++ [y]) H5 else Pv (i + 1) ys H4)
    (hd : ∀ ys H, Pv z.cps.size ys H → ∀ p, H p = none → D p ys H) :
    ∃ W : Nat → Nat → List V → Hp → Prop, (∃ m, W 0 m [] H) ∧ ∀ i m ys H2, W i m ys H2 →
    ((Its z).stop i H2 ∧ ys.length ≤ sizeLine ∧ ∀ p, H2 p = none → D p ys H2) ∨
    ((Its z).go i H2 ∧ ∃ N : List V → Hp → Prop, (∀ ys' H', N ys' H' → ys'.length ≤ sizeLine ∧ ∃ m', m' < m ∧ W (i + 1) m' ys' H') ∧
      ∀ x H3, (Its z).yld i H2 x H3 → tt x H3 fun ws => tc (ws.map some ++ capS σ cap) H3 fun b H4 => if b = true then te (ws.map some ++ capS σ cap) H4 fun y H5 => N (ys ++ [y]) H5 else N ys H4) := by
  refine ⟨fun i m ys H => m = z.cps.size - i ∧ i ≤ z.cps.size ∧ Pv i ys H, ⟨z.cps.size, by simp, Nat.zero_le _, h0⟩, ?_⟩
  rintro i m ys H2 ⟨rfl, hi, p⟩
  have q := hl i ys H2 hi p
  by_cases hlt : i < z.cps.size
  · refine .inr ⟨hlt, Pv (i + 1), fun ys' H' p' => ⟨Nat.le_trans (hl (i + 1) ys' H' hlt p') (Nat.le_trans hlt hz), z.cps.size - (i + 1), by omega, rfl, hlt, p'⟩, fun x H' y => ?_⟩
    obtain ⟨rfl, c, hc, rfl⟩ := y
    exact hs i c ys _ hc p
  · have e : i = z.cps.size := by omega
    subst e
    exact .inl ⟨rfl, Nat.le_trans q hz, fun p' hp' => hd ys H2 p p' hp'⟩
end L2
set_option Elab.async false
set_option linter.all false
set_option maxRecDepth 100000
set_option maxHeartbeats 4000000
namespace L2
open PySem PySem.Spec PyProof.Rows
section
variable {X : Cx} {o i : Expr} {pos : Pos} {td ty : TE}
end
end L2
set_option Elab.async false
set_option linter.all false
set_option maxRecDepth 100000
set_option maxHeartbeats 4000000
namespace L2
open PySem PySem.Spec PyProof.Rows
section
variable {X : Cx} {elt tg iter : Expr} {ifs : List Expr} {scope : Scope} {pos : Pos} {N : List Str} {k : Nat} {cap : List Nat} {wi : TI} {tt : TTg} {tc : TT} {te : TE}
end
section
variable {X : Cx} {elt tg iter : Expr} {ifs : List Expr} {scope : Scope} {pos : Pos} {wi : TI} {tt : TTg} {tc : TT} {te : TE}
end
section
variable {X : Cx} {elt tg iter : Expr} {ifs : List Expr} {scope : Scope} {pos : Pos} {wi : TI} {tt : TTg} {tc : TT} {te : TE}
end
end L2
set_option Elab.async false
set_option linter.all false
set_option maxRecDepth 100000
set_option maxHeartbeats 4000000
namespace L2
open PySem PySem.Spec PyProof.Rows
theorem list_no_keys : typeLookup (.type "list") "keys" = pure none := am_miss_of_fast (by decide +kernel)
theorem no_keys_list {prog : Program} {w : World} {A : Around} {E : Value → Shared → Prop} {s : Shared} {a : Addr} {o : Obj} {xs : Array Value} {k : Nat} {Q : Option Value → Shared → Prop}
    (hx : s.heap.get? a = some o) (hc : o.cls = .type "list") (hdat : o.data = .seq xs k) (hd : o.dict = none) (hA : A.handled = none)
    (h : ∀ h' tk, (∀ b ob, s.heap.get? b = some ob → h'.get? b = some ob) → Q none { s with heap := h', toks := tk }) :
    wpAny (model prog w) A (getAttr? (.ref a) "keys") Q E s := by
  obtain ⟨c, dct, dat, sl⟩ := o
  simp only at hc hdat hd
  subst hc hdat hd
  obtain ⟨hp, g, d, tk, os⟩ := s
  have hT : ∀ tk', (⟨hp, g, d, tk', os⟩ : Shared).TypeIs (.ref a) "list" := fun _ => ⟨_, hx, rfl⟩
  have f1 := sub_AttributeError
  have f3 := F.slot_list_getattribute.lookup
  have f4 := F.slot_list_getattribute.bind (.ref a)
  have f5 := am_list_getattr_none
  unfold getAttr? getAttrBy? getAttrBy
  repeat (any_goals (first | assumption | exact hT _ | ((with_reducible show wpAny _ _ (call (Value.builtin "list.__getattribute__") _ _) _ _ _); refine call_meets F.slot_list_getattribute (hT _) am_entry_list_getattribute (F.args_list_getattribute_2 _ _) (meets_getattribute_miss_list a xs k sl "keys" _ list_no_keys (by decide +kernel) (by size_fits)) ⟨hx, hA, fun h' tk' e hx' => ?_⟩) | wp_step))
  obtain ⟨t', u', he⟩ := hx'.there
  show wpAny _ _ (getattributeRaised _ _ _ _ _ _ _) _ _ _
  unfold getattributeRaised
  repeat (any_goals (first | assumption | wp_step))
  exact h _ _ hx'.keeps
theorem entry_dict_update_loop : entryFor table "dict.update.loop" = some Builtin.«dict.update.loop» := entryFor_of_tree (by kernel_rfl)
theorem plain_dict_update_loop : plainId "dict.update.loop" = true := by decide +kernel
def putAll : List (Key × V) → List (Key × V) → List (Key × V) := List.foldl fun c p => putK c p.1 p.2
def PairsAt (P : Program) (w : World) (h : Heap) (d it : Addr) (items : List Value) (kys : List (Key × V)) : Prop :=
  ∀ (j : Nat) (ky : Key × V), kys[j]? = some ky → ∃ (t : Addr) (ku vu : Value), items[j]? = some (.ref t) ∧ h.IsTuple t #[ku, vu] ∧ (mixKind P w).is ky.1 ku = true ∧ RelV ky.2 vu ∧ t ≠ d ∧ t ≠ it
theorem upd_loop {P : Program} {w : World} {A : Around} {d it l : Addr} {items : List Value} {kys : List (Key × V)} (hh : A.handled = none) (hlen : items.length = kys.length) (hz : kys.length ≤ sizeLine) (hdi : d ≠ it) (hld : l ≠ d) (hli : l ≠ it) :
    ∀ (n i : Nat) (s : Shared) (cur : List (Key × V)) (vs : List (Key × Value)) (tk : Tok) (R : Result → Shared → Prop), kys.length - i = n → i ≤ kys.length → s.heap.IsListIter it l i → s.heap.IsList l items.toArray → PairsAt P w s.heap d it items kys → KV cur vs → s.heap.DictOf (mixKind P w) d vs → cur.length ≤ i →
      (∀ h' t' vs', KV (putAll cur (kys.drop i)) vs' → h'.DictOf (mixKind P w) d vs' → (putAll cur (kys.drop i)).length ≤ kys.length → (∀ b o, b ≠ d → b ≠ it → s.heap.get? b = some o → h'.get? b = some o) → R (.ok (.ret .none)) { s with heap := h', toks := t' }) →
      codeAny (model P w) A (.builtin "dict.update.loop" ⟨[.ref d, .ref it, .int (i : Int) tk, .none], []⟩) R s := by
  intro n
  induction n with
  | zero =>
    intro i s cur vs tk R hn hi hit hl hp hkv hd hc hR
    have e : i = kys.length := by omega
    subst e
    refine codeAny_builtin entry_dict_update_loop ?_
    rw [Around.under_plainId plain_dict_update_loop _]
    show wpAny _ A.in1 (pyNext (.ref it) >>= _) _ _ s
    refine wpAny_bind (wpAny_pyNext_list_end hh hit hl (by simp; omega) fun h' eb => ?_)
    show wpAny _ A.in1 (Builtin.Dict.addKeywords d [] >>= _) _ _ _
    refine wpAny_bind (wpAny_pure ?_)
    rw [List.drop_length] at hR
    exact wpAny_pure (hR h' s.toks vs hkv (hd.extBut eb hdi) hc fun b o _ h2 h3 => eb b o h2 h3)
  | succ n ih =>
    intro i s cur vs tk R hn hi hit hl hp hkv hd hc hR
    obtain ⟨ky, hky⟩ : ∃ ky, kys[i]? = some ky := ⟨kys[i]'(by omega), by simp⟩
    obtain ⟨t, ku, vu, h1, h2, h3, h4, h5, h6⟩ := hp i ky hky
    refine codeAny_builtin entry_dict_update_loop ?_
    rw [Around.under_plainId plain_dict_update_loop _]
    show wpAny _ A.in1 (pyNext (.ref it) >>= _) _ _ s
    refine wpAny_bind (wpAny_pyNext_list_item hit hl (x := .ref t) (by simpa using h1) fun h' st' sb => ?_)
    have h2' : h'.IsTuple t #[ku, vu] := by
      obtain ⟨o, e1, e2, n1, e3⟩ := h2
      exact ⟨o, (sb.2 t h6).trans e1, e2, n1, e3⟩
    obtain ⟨o, e1, e2, n1, e3⟩ := id h2'
    have hd' : h'.DictOf (mixKind P w) d vs := by
      obtain ⟨q, es, ep, hq, r⟩ := hd
      exact ⟨q, es, ep, (sb.2 d hdi).trans hq, r⟩
    show wpAny _ A.in1 (holding [Value.ref t] _ >>= _) _ _ _
    refine wpAny_bind (wpAny_holding (wpAny_bind (wpAny_tryCatch ?_)))
    unfold Builtin.Dict.pairItems
    refine wpAny_bind (wpAny_typeOf (T := "tuple") ⟨o, e1, e2⟩ ?_)
    rw [if_pos (by decide +kernel)]
    refine wpAny_bind (wpAny_seqItems (s := { s with heap := h' }) e1 e3 (wpAny_pure ?_))
    show wpAny _ A.in1 (holding [ku, vu] (dictSet d ku vu)) _ _ _
    refine wpAny_holding (wpAny_dictSet_pairs (s := { s with heap := h' }) (hsz := by rw [← hkv.length]; omega) h3 hd' fun h'' hd'' sb' => ?_)
    have eR : rawInt ((i : Int) + 1) = .int ((i + 1 : Nat) : Int) 0 := rfl
    refine wpAny_pure ⟨plainId_quiet plain_dict_update_loop _, ?_⟩
    rw [eR]
    have hl1 := length_putK cur ky.1 ky.2
    have ed : kys.drop i = ky :: kys.drop (i + 1) := by
      obtain ⟨hlt, e⟩ := List.getElem?_eq_some_iff.mp hky
      rw [List.drop_eq_getElem_cons hlt, e]
    refine ih (i + 1) _ (putK cur ky.1 ky.2) _ _ R (by omega) (by omega) ?_ ?_ (fun j ky' hj => ?_) (hkv.put ky.1 h4) hd'' (by omega) fun h3' t' vs' k1 k2 k3 k4 => ?_
    · obtain ⟨q, q1, q2, q3⟩ := st'
      exact ⟨q, (sb'.2 it (Ne.symm hdi)).trans q1, q2, q3⟩
    · obtain ⟨q, q1, q2, q3⟩ := hl
      exact ⟨q, (sb'.2 l hld).trans ((sb.2 l hli).trans q1), q2, q3⟩
    · obtain ⟨t2, ku2, vu2, g1, ⟨q, q1, q2, q3⟩, g3, g4, g5, g6⟩ := hp j ky' hj
      exact ⟨t2, ku2, vu2, g1, ⟨q, (sb'.2 t2 g5).trans ((sb.2 t2 g6).trans q1), q2, q3⟩, g3, g4, g5, g6⟩
    · have ep : putAll (putK cur ky.1 ky.2) (kys.drop (i + 1)) = putAll cur (kys.drop i) := by rw [ed]; rfl
      rw [ep] at k1 k3
      exact hR h3' t' vs' k1 k2 k3 fun b o b1 b2 hb => k4 b o b1 b2 ((sb'.2 b b1).trans ((sb.2 b b2).trans hb))
theorem call_dict_pairs {X : Cx} {K : PySem.W.Frag} (hK : X.K = K) (hc : X.calm = true) : CallR X (.type "dict") (fun xs H Q => ∃ (a : Addr) (ts : List (Addr × Key × V)), xs = [.ref a] ∧ SqL K H a (ts.map fun t => V.ref t.1) ∧ (∀ t ∈ ts, SqT K H t.1 [kV t.2.1, t.2.2]) ∧ ∀ p, H p = none → Q (.ref p) (upd H p (.dK (putAll [] (ts.map fun t => t.2))))) := by
  intro pins s σ H xs us Q I r h
  subst hK
  obtain ⟨a, ts, rfl, ha, ht, q⟩ := h
  obtain ⟨u, rfl, ru⟩ := vals1 r
  cases ru
  obtain ⟨its, rv, pl, hz⟩ := I.list ha
  have hl : its.length = (ts.map fun t => t.2).length := by rw [List.length_map, ← rv.length, List.length_map]
  have hz' : (ts.map fun t => t.2).length ≤ sizeLine := by rw [List.length_map] at hz ⊢; exact hz
  have hal : a < s.heap.objs.size := by
    obtain ⟨o, h1, _⟩ := pl.isList
    exact Heap.lt_size h1
  have hh : X.A.handled = none := I.ok.hd hc
  refine callType_codes (Q₁ := fun obj s₁ => obj = .ref s.heap.objs.size ∧ s₁ = { s with heap := s.heap.push { cls := .type "dict", data := .dict #[] } }) PySem.F.kt_called_dict (PySem.F.kt_typeCall_dict_1 _) PySem.F.entry_dict_init (kt_code_dict_new _ ⟨rfl, rfl⟩) ?_
  rintro obj s₁ ⟨rfl, rfl⟩
  have hnew : (s.heap.push { cls := .type "dict", data := .dict #[] }).DictOf (mixKind X.prog X.w) s.heap.objs.size [] := Heap.DictOf.new s.heap
  refine ⟨hnew.typeIs, PySem.F.args_dict_init_2 _ _, ?_⟩
  unfold Builtin.«dict.__init__»
  refine wpAny_bind ?_
  unfold Builtin.Dict.selfAndRest
  refine wpAny_bind (wpAny_notOrdered_dict hnew.typeIs ?_)
  show wpAny _ _ (pure (s.heap.objs.size, [Value.ref a])) _ _ _
  refine wpAny_pure ?_
  show wpAny _ _ (Builtin.Dict.updateFrom "dict.__init__" s.heap.objs.size (.ref a) [] .none) _ _ _
  unfold Builtin.Dict.updateFrom
  obtain ⟨o, n, e1, e2, e3, e4⟩ := pl
  refine wpAny_bind (wpAny_typeOf (T := "list") ⟨o, Heap.get?_push_of_some _ e1, e2⟩ ?_)
  rw [if_pos (by decide)]
  refine wpAny_bind (no_keys_list (s := { s with heap := s.heap.push { cls := .type "dict", data := .dict #[] } }) (Heap.get?_push_of_some _ e1) e2 e4 e3 hh fun h' tk kp => ?_)
  rw [if_pos (show (none : Option Value).isNone = true from rfl)]
  refine wpAny_bind (wpAny_rule ?_)
  have hl' : h'.IsList a its.toArray := ⟨o, kp _ _ (Heap.get?_push_of_some _ e1), e2, n, e4⟩
  refine wpAny_bind (wpAny_pyIter_list hl' ?_)
  have hdl : s.heap.objs.size < h'.objs.size := Heap.lt_size (kp _ _ (Heap.get?_push_size _ rfl))
  have kq : ∀ b ob, s.heap.get? b = some ob → (h'.push { cls := .type "list_iterator", data := .fields #[.ref a, .int 0 0] }).get? b = some ob := fun b ob e => Heap.get?_push_of_some _ (kp _ _ (Heap.get?_push_of_some _ e))
  refine wpAny_pure ⟨plainId_quiet plain_dict_update_loop _, ?_⟩
  refine upd_loop (kys := ts.map fun t => t.2) (l := a) (A := X.A.in1) hh hl hz' (Nat.ne_of_lt hdl) (Nat.ne_of_lt hal) (Nat.ne_of_lt (Nat.lt_trans hal hdl)) _ 0 _ [] [] 0 _ rfl (Nat.zero_le _) ⟨_, Heap.get?_push_size _ rfl, rfl, rfl⟩ ?_ ?_ .nil ?_ (Nat.zero_le _) ?_
  · exact ⟨o, kq _ _ e1, e2, n, e4⟩
  · intro j ky hj
    rw [List.getElem?_map] at hj
    cases et : ts[j]? with
    | none => rw [et] at hj; cases hj
    | some t =>
      rw [et] at hj; cases hj
      obtain ⟨u, hu, ru⟩ := rv.get (i := j) (x := V.ref t.1) (by rw [List.getElem?_map, et]; rfl)
      cases ru
      obtain ⟨its2, rv2, tp, _⟩ := I.tuple (ht t (List.mem_of_getElem? et))
      obtain ⟨k1, k2, rfl, r1, r2⟩ := vals2 rv2
      obtain ⟨o2, g1, g2, n2, g3⟩ := tp
      have hlt := Heap.lt_size g1
      exact ⟨t.1, k1, k2, hu, ⟨o2, kq _ _ g1, g2, n2, g3⟩, kV_is r1, r2, Nat.ne_of_lt hlt, Nat.ne_of_lt (Nat.lt_trans hlt hdl)⟩
  · exact Heap.DictOf.push (by
      obtain ⟨q, es, ep, hq, r⟩ := hnew
      exact ⟨q, es, ep, kp _ _ hq, r⟩) _
  · intro h3 t3 vs' k1 k2 k3 k4
    rw [List.drop_zero] at k1 k3
    refine ⟨rfl, .ref s.heap.objs.size, _, ?_, rfl, q _ (I.hok.fresh (Nat.le_refl _))⟩
    refine I.laid (a := s.heap.objs.size) (fun b ob e => ?_) (Nat.le_refl _) (dk_new (Nat.le_trans k3 hz') (beq_eq_false_iff_ne.mpr (Ne.symm (Nat.ne_of_lt I.big))) k1 k2)
    have hlt := Heap.lt_size e
    exact k4 b ob (Nat.ne_of_lt hlt) (Nat.ne_of_lt (Nat.lt_trans hlt hdl)) (kq _ _ e)
end L2
set_option Elab.async false
set_option linter.all false
set_option maxRecDepth 100000
set_option maxHeartbeats 4000000
namespace L2
open PySem PySem.Spec PyProof.Rows
def Ites (z : Str) : It where
  go := fun i _ => i < z.cps.size
  yld := fun i H v H' => ∃ T c, v = .ref T ∧ H T = none ∧ z.cps[i]? = some c ∧ H' = upd H T (.tup [.int (i : Nat), .str ⟨#[c]⟩])
  stop := fun i _ => i = z.cps.size
theorem draws_str {P : Program} {w : World} {A : Around} (h : A.handled = none) (it : Addr) (z : Str) (t : Tok) : Draws P w A it [it] z.cps.size (fun i v => ∃ c u, z.cps[i]? = some c ∧ v = .str ⟨#[c]⟩ u) (fun i h => h.IsStrIter it (strIterType z) z t i) := by
  unfold strIterType
  split
  · exact Draws.strAscii h it z t
  · exact Draws.strWide h it z t
theorem turn_enumS {P : Program} {w : World} {K : PySem.W.Frag} {elts : List Expr} {k : Nat} {pos : Pos} (z : Str) (t : Tok) (e it : Addr) (hne : e ≠ it) : Turn P w K (.Tuple elts k pos) (Ites z) [e, it] e (fun i h => (∃ old, IsEnum h e it (i : Nat) old) ∧ h.IsStrIter it (strIterType z) z t i) where
  mem := by simp
  obj := fun i h st b hb => by
    obtain ⟨⟨old, s1⟩, o, e1, c, d⟩ := st
    rcases List.mem_cons.mp hb with z | z
    · subst z
      exact ⟨_, s1, fun v z => by cases z⟩
    · have z : b = it := by simpa using z
      subst z
      exact ⟨o, e1, fun v z => by rw [d] at z; cases z⟩
  keep := fun i h h' st k => by
    obtain ⟨⟨old, s1⟩, o, e1, c, d⟩ := st
    exact ⟨⟨old, k e (by simp) _ s1⟩, o, k it (by simp) o e1, c, d⟩
  item := by
    intro X hP hw hK hc i pins s σ H E I hf st hg
    subst hP hw hK
    obtain ⟨⟨old, s1⟩, s2⟩ := st
    have le : e < s.heap.objs.size := Heap.lt_size s1
    refine wpAny_pyNext_enum_itemD (draws_str (A := X.A.in1) (I.ok.hd hc) it z t) s1 s2 hg hne (by simpa using hne) fun u h' tk hP ho hi' ht hsz kp => ?_
    obtain ⟨c, uu, hcc, rfl⟩ := hP
    refine ⟨_, rfl, wpAny_letOwnedTupleGo_enum ho fun h2 he2 sb => ?_⟩
    have I1 : Inv X pins σ H { s with heap := h2, toks := tk + 1 } := I.turnedL (t' := tk + 1) (ch := [e, it]) hf fun b o hb q => by
      have hbe : b ≠ e := fun z => hb (by simp [z])
      have hbi : b ≠ it := fun z => hb (by simp [z])
      exact (sb.2 b hbe).trans (kp b o hbe hbi q)
    have hT : h2.get? s.heap.objs.size = some { cls := .type "tuple", data := .seq #[Value.int (i : Nat) tk, Value.str ⟨#[c]⟩ uu] } := (sb.2 _ (Nat.ne_of_gt le)).trans ht
    have hfr : H s.heap.objs.size = none := I.hok.fresh (Nat.le_refl _)
    have vs2 : Vals [V.int (i : Nat), V.str ⟨#[c]⟩] [Value.int (i : Nat) tk, Value.str ⟨#[c]⟩ uu] := .cons ⟨tk, rfl⟩ (.cons ⟨uu, rfl⟩ .nil)
    have I2 := I1.adopt (o := .tup [.int (i : Nat), .str ⟨#[c]⟩]) (I.fpOk (Nat.le_refl _) hfr) ⟨(by show 2 ≤ sizeLine; decide), [Value.int (i : Nat) tk, Value.str ⟨#[c]⟩ uu], vs2, ⟨_, hT, rfl, _, rfl⟩⟩
    have en : IsEnum h2 e it ((i + 1 : Nat) : Int) (Value.str ⟨#[c]⟩ uu) := by
      have e1 : ((i + 1 : Nat) : Int) = ((i : Nat) : Int) + 1 := by omega
      rw [e1]; exact he2
    refine ⟨.ref s.heap.objs.size, _, I2, rfl, ⟨_, c, rfl, hfr, hcc, rfl⟩, ⟨⟨_, en⟩, ?_⟩, fun b hb => ?_⟩
    · obtain ⟨o, q, r1, r2⟩ := hi'
      exact ⟨o, (sb.2 it (Ne.symm hne)).trans q, r1, r2⟩
    rw [upd_ne (fun z => ?_)]
    · exact (hf b hb).1
    · subst z
      rcases List.mem_cons.mp hb with z | z
      · exact absurd z (Nat.ne_of_gt le)
      · have z : s.heap.objs.size = it := by simpa using z
        obtain ⟨o, q, _⟩ := s2
        exact absurd z (Nat.ne_of_gt (Heap.lt_size q))
  done := by
    intro X hP hw hK hc i pins s σ H E I hf st hg
    subst hP hw hK
    obtain ⟨⟨old, s1⟩, s2⟩ := st
    have hg' : i = z.cps.size := hg
    subst hg'
    refine wpAny_pyNext_enum_endD (draws_str (A := X.A.in1) (I.ok.hd hc) it z t) s1 s2 fun h' eb => ⟨rfl, ?_⟩
    exact I.turnedL (t' := s.toks) (ch := [it]) (fun b hb => hf b (List.mem_cons_of_mem _ hb)) fun b o hb q => eb b o (fun z => hb (by simp [z])) q
  self := fun _ _ _ _ _ st h => wpAny_pyIter_enum st.1.choose_spec h
def iEnumS (ta : TA) : TI := fun σ H R => ta σ H fun vs H1 => ∃ z, vs = [.str z] ∧ R (Ites z) H1
theorem pi_enumS {X : Cx} {elts : List Expr} {k : Nat} {tpos : Pos} {l : Expr} {ta : TA} {p pos : Pos} (hg : Gl X "enumerate") (hm : X.mg "enumerate" = none) (ha : PA X [l] ta) (hs : starEach [l] X.env = [(false, eval l X.env)] := by rfl) :
    PI X (.Tuple elts k tpos) (.Call (.Name "enumerate" p) [l] [] pos) (iEnumS ta) := by
  intro pins s σ H R I h
  refine Call_ (ld_blt I hg hm PyProof.Rows.boot_enumerate (PyProof.Rows.callWith_type1 (thn (ha pos pins s σ H _ I h) fun us s1 hm0 => ?_) hs rfl))
  obtain ⟨vs, H1, I1, r1, q1⟩ := hm0
  obtain ⟨z, rfl, q⟩ := q1
  obtain ⟨u, rfl, ru⟩ := vals1 r1
  obtain ⟨t, rfl⟩ := ru
  refine call_enumerate_str fun h' he hi hsz kp => ?_
  refine wpAny_pyIter_enum he ?_
  refine ⟨s1.heap.objs.size + 1, [s1.heap.objs.size + 1, s1.heap.objs.size], _, _, H1, rfl, I1.kept (t' := s1.toks) kp, turn_enumS z t _ _ (Nat.succ_ne_self _), ⟨⟨_, he⟩, hi⟩, fun b hb => ?_, q⟩
  have hb' : s1.heap.objs.size ≤ b := by
    rcases List.mem_cons.mp hb with z | z
    · rw [z]; exact Nat.le_succ _
    · have z : b = s1.heap.objs.size := by simpa using z
      rw [z]; exact Nat.le_refl _
  exact I1.fpOk hb' (I1.hok.fresh hb')
theorem comp_enumSD {z : Str} {tt : TTg} {tc : TT} {te : TE} {cap : List Nat} {σ : St} {H : Hp} {D : Addr → List V → Hp → Prop} (Pv : Nat → List V → Hp → Prop) (h0 : Pv 0 [] H) (hz : z.cps.size ≤ sizeLine) (hl : ∀ i ys H, i ≤ z.cps.size → Pv i ys H → ys.length ≤ i)
    (hs : ∀ i c T ys H, z.cps[i]? = some c → Pv i ys H → H T = none → tt (.ref T) (upd H T (.tup [.int (i : Nat), .str ⟨#[c]⟩])) fun ws => tc (ws.map some ++ capS σ cap) (upd H T (.tup [.int (i : Nat), .str ⟨#[c]⟩])) fun b H4 => if b = true then te (ws.map some ++ capS σ cap) H4 fun y H5 => Pv (i + 1) (ys ++ [y]) H5 else Pv (i + 1) ys H4)
    (hd : ∀ ys H, Pv z.cps.size ys H → ∀ p, H p = none → D p ys H) :
    ∃ W : Nat → Nat → List V → Hp → Prop, (∃ m, W 0 m [] H) ∧ ∀ i m ys H2, W i m ys H2 →
    ((Ites z).stop i H2 ∧ ys.length ≤ sizeLine ∧ ∀ p, H2 p = none → D p ys H2) ∨
    ((Ites z).go i H2 ∧ ∃ N : List V → Hp → Prop, (∀ ys' H', N ys' H' → ys'.length ≤ sizeLine ∧ ∃ m', m' < m ∧ W (i + 1) m' ys' H') ∧
      ∀ x H3, (Ites z).yld i H2 x H3 → tt x H3 fun ws => tc (ws.map some ++ capS σ cap) H3 fun b H4 => if b = true then te (ws.map some ++ capS σ cap) H4 fun y H5 => N (ys ++ [y]) H5 else N ys H4) := by
  refine ⟨fun i m ys H => m = z.cps.size - i ∧ i ≤ z.cps.size ∧ Pv i ys H, ⟨z.cps.size, by simp, Nat.zero_le _, h0⟩, ?_⟩
  rintro i m ys H2 ⟨rfl, hi, p⟩
  have q := hl i ys H2 hi p
  by_cases hlt : i < z.cps.size
  · refine .inr ⟨hlt, Pv (i + 1), fun ys' H' p' => ⟨Nat.le_trans (hl (i + 1) ys' H' hlt p') (Nat.le_trans hlt hz), z.cps.size - (i + 1), by omega, rfl, hlt, p'⟩, fun x H' y => ?_⟩
    obtain ⟨T, c, rfl, hT, hc, rfl⟩ := y
    exact hs i c T ys _ hc p hT
  · have e : i = z.cps.size := by omega
    subst e
    exact .inl ⟨rfl, Nat.le_trans q hz, fun p' hp' => hd ys H2 p p' hp'⟩
theorem comp_enumD {K : PySem.W.Frag} {a : Addr} {xs : List V} {tt : TTg} {tc : TT} {te : TE} {cap : List Nat} {σ : St} {H : Hp} {D : Addr → List V → Hp → Prop} (Pv : Nat → List V → Hp → Prop) (h0 : Pv 0 [] H) (hz : xs.length ≤ sizeLine) (hl : ∀ i ys H, i ≤ xs.length → Pv i ys H → SqL K H a xs ∧ ys.length ≤ i)
    (hs : ∀ i x T ys H, xs[i]? = some x → Pv i ys H → H T = none → tt (.ref T) (upd H T (.tup [.int (i : Nat), x])) fun ws => tc (ws.map some ++ capS σ cap) (upd H T (.tup [.int (i : Nat), x])) fun b H4 => if b = true then te (ws.map some ++ capS σ cap) H4 fun y H5 => Pv (i + 1) (ys ++ [y]) H5 else Pv (i + 1) ys H4)
    (hd : ∀ ys H, Pv xs.length ys H → ∀ p, H p = none → D p ys H) :
    ∃ W : Nat → Nat → List V → Hp → Prop, (∃ m, W 0 m [] H) ∧ ∀ i m ys H2, W i m ys H2 →
    ((Ite K a).stop i H2 ∧ ys.length ≤ sizeLine ∧ ∀ p, H2 p = none → D p ys H2) ∨
    ((Ite K a).go i H2 ∧ ∃ N : List V → Hp → Prop, (∀ ys' H', N ys' H' → ys'.length ≤ sizeLine ∧ ∃ m', m' < m ∧ W (i + 1) m' ys' H') ∧
      ∀ x H3, (Ite K a).yld i H2 x H3 → tt x H3 fun ws => tc (ws.map some ++ capS σ cap) H3 fun b H4 => if b = true then te (ws.map some ++ capS σ cap) H4 fun y H5 => N (ys ++ [y]) H5 else N ys H4) := by
  refine ⟨fun i m ys H => m = xs.length - i ∧ i ≤ xs.length ∧ Pv i ys H, ⟨xs.length, by simp, Nat.zero_le _, h0⟩, ?_⟩
  rintro i m ys H2 ⟨rfl, hi, p⟩
  obtain ⟨q, hy⟩ := hl i ys H2 hi p
  by_cases hlt : i < xs.length
  · refine .inr ⟨⟨xs, xs[i], q, by simp [hlt]⟩, Pv (i + 1), fun ys' H' r => ?_, fun x H3 y => ?_⟩
    · obtain ⟨_, h2⟩ := hl (i + 1) ys' H' hlt r
      exact ⟨by omega, xs.length - (i + 1), by omega, rfl, hlt, r⟩
    · obtain ⟨T, z, rfl, hT, y, rfl⟩ := y
      exact hs i z T ys _ (y xs q) p hT
  · have e : i = xs.length := by omega
    subst e
    exact .inl ⟨⟨xs, q, Nat.le_refl _⟩, by omega, hd ys H2 p⟩
end L2
set_option Elab.async false
set_option linter.all false
set_option maxRecDepth 100000
set_option maxHeartbeats 4000000
namespace L2
open PySem PySem.Spec PyProof.Rows
section
variable {X : Cx}
theorem call_int_text : CallR X (.type "int") (fun xs H Q => ∃ (x : Str) (n : Int), xs = [.str x] ∧ intText? x = some n ∧ x.length ≤ 640 ∧ Q (.int n) H) := by
  intro pins s σ H xs us Q I r h
  obtain ⟨x, n, rfl, hn, hl, q⟩ := h
  obtain ⟨u, rfl, t, rfl⟩ := vals1 r
  exact PySem.W.KIN.call_text hn hl ⟨.int n, H, I.tok _, ⟨_, rfl⟩, q⟩
def rStr : Rel Str := fun _ x v => v = .str x
end
end L2
set_option Elab.async false
set_option linter.all false
set_option maxRecDepth 100000
set_option maxHeartbeats 4000000
namespace L2
open PySem PySem.Spec PyProof.Rows
theorem one_at {x : Str} {c i : Nat} : StrLaws.At x ⟨#[c]⟩ x.length i ↔ x.cps.toList[i]? = some c := by
  have hl : x.cps.toList.length = x.length := Array.length_toList
  unfold StrLaws.At Builtin.Str.subAt
  show i + 1 ≤ x.length ∧ (x.cps.extract i (i + 1) == #[c]) = true ↔ _
  have e : (x.cps.extract i (i + 1)).toList = (x.cps.toList.drop i).take 1 := by rw [Array.toList_extract, List.extract_eq_drop_take]; simp
  constructor
  · rintro ⟨h1, h2⟩
    have h3 : x.cps.extract i (i + 1) = #[c] := eq_of_beq h2
    rw [h3] at e
    have h4 : x.cps.toList[i]? = some (x.cps.toList[i]'(by omega)) := by simp
    rw [List.drop_eq_getElem_cons (show i < x.cps.toList.length by omega)] at e
    have h5 : c = x.cps.toList[i]'(by omega) := by simpa using e
    rw [h4, h5]
  · intro h
    obtain ⟨h1, h2⟩ := List.getElem?_eq_some_iff.mp h
    refine ⟨by omega, ?_⟩
    have h3 : x.cps.extract i (i + 1) = #[c] := by
      apply Array.toList_inj.mp
      rw [e, List.drop_eq_getElem_cons h1, h2]; simp
    rw [h3]; simp
theorem part_one {a b : List Nat} {c : Nat} (hc : c ∉ a) : Txt.partition ⟨(a ++ c :: b).toArray⟩ ⟨#[c]⟩ = (⟨a.toArray⟩, ⟨#[c]⟩, ⟨b.toArray⟩) := by
  have hl : (⟨(a ++ c :: b).toArray⟩ : Str).length = a.length + 1 + b.length := by show (a ++ c :: b).toArray.size = _; simp; omega
  have here : (a ++ c :: b)[a.length]? = some c := by simp
  unfold Txt.partition
  rcases StrLaws.occ_head (⟨(a ++ c :: b).toArray⟩ : Str) ⟨#[c]⟩ 1 (Nat.le_refl 1) with ⟨h0, hn⟩ | ⟨i, r, h0, hi, hn⟩
  · exact absurd (one_at.mpr (by simpa using here)) (hn a.length)
  · rw [h0]
    have hi' : (a ++ c :: b)[i]? = some c := by simpa using one_at.mp hi
    have e : i = a.length := by
      rcases Nat.lt_trichotomy i a.length with h | h | h
      · rw [List.getElem?_append_left h] at hi'
        exact absurd (List.mem_of_getElem? hi') hc
      · exact h
      · exact absurd (one_at.mpr (by simpa using here)) (hn _ h)
    subst e
    show (Builtin.Str.strSub _ 0 a.length, (⟨#[c]⟩ : Str), Builtin.Str.strSub _ (a.length + 1) _) = _
    unfold Builtin.Str.strSub
    rw [hl]
    refine Prod.ext ?_ (Prod.ext rfl ?_)
    · show (⟨_⟩ : Str) = ⟨_⟩
      congr 1
      apply Array.toList_inj.mp
      rw [Array.toList_extract]; simp
    · show (⟨_⟩ : Str) = ⟨_⟩
      congr 1
      apply Array.toList_inj.mp
      rw [Array.toList_extract]; simp
end L2
set_option Elab.async false
set_option linter.all false
set_option maxRecDepth 100000
set_option maxHeartbeats 4000000
namespace L2
open PySem PySem.Spec PyProof.Rows
theorem str_list {x : Str} {l : List Nat} (h : x.cps.toList = l) : x = ⟨l.toArray⟩ := by
  obtain ⟨a⟩ := x
  subst h
  rfl
theorem str_len (x : Str) : x.length = x.cps.toList.length := by rw [Array.length_toList]; rfl
theorem app_list (x y : Str) : (x ++ y).cps.toList = x.cps.toList ++ y.cps.toList := by
  show (x.cps ++ y.cps).toList = _
  simp
theorem sub_list (x : Str) (i j : Nat) : (Builtin.Str.strSub x i j).cps.toList = (x.cps.toList.drop i).take (j - i) := by
  unfold Builtin.Str.strSub
  show (x.cps.extract i j).toList = _
  rw [Array.toList_extract, List.extract_eq_drop_take]
theorem at_iff {x y : Str} {i : Nat} : StrLaws.At x y x.length i ↔ i + y.cps.toList.length ≤ x.cps.toList.length ∧ (x.cps.toList.drop i).take y.cps.toList.length = y.cps.toList := by
  have hl := str_len x
  have hy := str_len y
  unfold StrLaws.At Builtin.Str.subAt
  rw [hl, hy]
  refine and_congr_right fun h => ?_
  have e : (x.cps.extract i (i + y.cps.toList.length)).toList = (x.cps.toList.drop i).take y.cps.toList.length := by
    rw [Array.toList_extract, List.extract_eq_drop_take]; simp
  rw [← e]
  constructor
  · intro h; rw [eq_of_beq h]
  · intro h
    have := Array.toList_inj.mp h
    rw [this]; simp
theorem at_first {x y : Str} {c : Nat} {r : List Nat} {i : Nat} (hy : y.cps.toList = c :: r) (h : StrLaws.At x y x.length i) : x.cps.toList[i]? = some c := by
  obtain ⟨h1, h2⟩ := at_iff.mp h
  rw [hy] at h1 h2
  have hi : i < x.cps.toList.length := by simp at h1; simp; omega
  rw [List.drop_eq_getElem_cons hi] at h2
  rw [List.getElem?_eq_getElem hi]
  have := congrArg List.head? h2
  simpa using this
def flatL (s : List Nat) : List (List Nat) → List Nat
  | [] => []
  | [p] => p
  | p :: q :: r => p ++ s ++ flatL s (q :: r)
theorem flat_join (y : Str) : ∀ ps : List Str, (Txt.join y ps).cps.toList = flatL y.cps.toList (ps.map fun p => p.cps.toList) := by
  intro ps
  show (Builtin.Str.glued y ps).cps.toList = _
  rw [StrLaws.glued_eq_join]
  induction ps with
  | nil => rfl
  | cons p r ih =>
    cases r with
    | nil => rfl
    | cons q r =>
      rw [Str.join.eq_3 _ _ _ (fun z => by cases z), app_list, app_list, ih]; rfl
theorem parts_flat {x y : Str} {c : Nat} {s : List Nat} (hy : y.cps.toList = c :: s) : ∀ (ps : List (List Nat)) (a f : Nat) (cuts : List Nat), ps ≠ [] → (∀ p ∈ ps, c ∉ p) → a ≤ x.cps.toList.length → x.cps.toList.drop a = flatL (c :: s) ps → StrLaws.ChainG x y x.length a cuts f → (∀ k, f ≤ k → ¬ StrLaws.At x y x.length k) → StrLaws.partsFrom x y.length a cuts = ps.map fun p => ⟨p.toArray⟩
  | [], _, _, _, h, _, _, _, _, _ => absurd rfl h
  | [p], a, f, cuts, _, hp, ha, he, hc, hf => by
    have he' : x.cps.toList.drop a = p := he
    cases cuts with
    | nil =>
      rw [StrLaws.partsFrom.eq_1]
      refine congrArg (fun z => [z]) (str_list ?_)
      rw [sub_list, he', List.take_of_length_le]
      rw [str_len, ← he', List.length_drop]; omega
    | cons i r =>
      rw [StrLaws.ChainG.eq_2] at hc
      have h1 := at_first hy hc.2.1
      refine absurd ?_ (hp p List.mem_cons_self)
      rw [← he', List.mem_iff_getElem?]
      exact ⟨i - a, by rw [List.getElem?_drop, ← h1]; congr 1; omega⟩
  | p :: q :: r, a, f, cuts, _, hp, ha, he, hc, hf => by
    have he' : x.cps.toList.drop a = p ++ (c :: s) ++ flatL (c :: s) (q :: r) := he
    have hl : x.cps.toList.length - a = p.length + (s.length + 1) + (flatL (c :: s) (q :: r)).length := by
      rw [← List.length_drop, he']; simp; omega
    have here : StrLaws.At x y x.length (a + p.length) := by
      rw [at_iff, hy]
      refine ⟨by rw [List.length_cons]; omega, ?_⟩
      rw [← List.drop_drop, he', List.append_assoc, List.drop_left, List.take_left]
    cases cuts with
    | nil =>
      rw [StrLaws.ChainG.eq_1] at hc
      exact absurd here (hf _ (by omega))
    | cons i t =>
      rw [StrLaws.ChainG.eq_2] at hc
      obtain ⟨c1, c2, c3, c4⟩ := hc
      have h1 := at_first hy c2
      have ei : i = a + p.length := by
        rcases Nat.lt_trichotomy i (a + p.length) with h | h | h
        · refine absurd ?_ (hp p List.mem_cons_self)
          have e1 : (x.cps.toList.drop a)[i - a]? = some c := by rw [List.getElem?_drop, ← h1]; congr 1; omega
          rw [he', List.append_assoc, List.getElem?_append_left (by omega)] at e1
          exact List.mem_of_getElem? e1
        · exact h
        · exact absurd here (c3 _ (by omega) h)
      subst ei
      rw [StrLaws.partsFrom.eq_2, List.map_cons]
      have hyl : y.length = s.length + 1 := by rw [str_len, hy]; rfl
      refine congr (congrArg List.cons (str_list ?_)) ?_
      · rw [sub_list, he', List.append_assoc, Nat.add_sub_cancel_left, List.take_left]
      · refine parts_flat hy (q :: r) _ f t (fun z => by cases z) (fun p' h' => hp p' (List.mem_cons_of_mem _ h')) (by omega) ?_ c4 hf
        rw [hyl, Nat.add_assoc, ← List.drop_drop, he', List.append_assoc, ← List.drop_drop, List.drop_left]
        exact List.drop_left (l₁ := c :: s)
theorem split_join {y : Str} {c : Nat} {s : List Nat} (hy : y.cps.toList = c :: s) (hk : Builtin.Str.strKind y = 1) {ps : List Str} (hne : ps ≠ []) (hp : ∀ p ∈ ps, c ∉ p.cps.toList) : Txt.split (Txt.join y ps) y = ps := by
  obtain ⟨f, h1, h2⟩ := StrLaws.occ_tight (Txt.join y ps) y (by rw [str_len, hy]; simp)
  have key := parts_flat (x := Txt.join y ps) hy (ps.map fun p => p.cps.toList) 0 f _ (fun z => hne (List.map_eq_nil_iff.mp z)) (fun p h => by obtain ⟨q, hq, rfl⟩ := List.mem_map.mp h; exact hp q hq) (Nat.zero_le _) (by rw [List.drop_zero, flat_join, hy]) h1 h2
  have eq : (ps.map fun p => p.cps.toList).map (fun p => (⟨p.toArray⟩ : Str)) = ps := by
    rw [List.map_map]
    exact List.map_id'' (fun x => rfl) _
  rw [eq] at key
  have one : ∀ p, ps = [p] → Txt.join y ps = p := fun p e => by rw [e]; rfl
  unfold Txt.split
  by_cases c1 : (decide ((Txt.join y ps).length < y.length) || decide (Builtin.Str.strKind (Txt.join y ps) < Builtin.Str.strKind y)) = true
  · rw [if_pos c1]
    match hps : ps, hne with
    | [p], _ => rfl
    | p :: q :: r, _ =>
      exfalso
      rw [Bool.or_eq_true] at c1
      rcases c1 with c1 | c1
      · have c1 := of_decide_eq_true c1
        rw [str_len, str_len, flat_join] at c1
        have : flatL y.cps.toList ((p :: q :: r).map fun p => p.cps.toList) = p.cps.toList ++ y.cps.toList ++ flatL y.cps.toList ((q :: r).map fun p => p.cps.toList) := rfl
        rw [hps, this] at c1
        simp at c1
        omega
      · have c1 := of_decide_eq_true c1
        rw [hk] at c1
        unfold Builtin.Str.strKind at c1
        split at c1
        · omega
        · split at c1 <;> omega
  · rw [if_neg c1]
    by_cases c2 : (Builtin.Str.occurrences (Txt.join y ps) y 0 (Txt.join y ps).length ((Txt.join y ps).length + 1)).isEmpty = true
    · rw [if_pos c2]
      have e := List.isEmpty_iff.mp c2
      rw [e, StrLaws.partsFrom.eq_1] at key
      refine Eq.trans ?_ key
      refine congrArg (fun z => [z]) ?_
      symm
      refine (str_list (sub_list _ _ _)).trans ?_
      rw [str_len, List.drop_zero, Nat.sub_zero, List.take_length]
    · rw [if_neg c2, StrLaws.partsBetween_eq]; exact key
end L2
set_option Elab.async false
set_option linter.all false
set_option maxRecDepth 100000
set_option maxHeartbeats 4000000
namespace L2
open PySem PySem.Spec PyProof.Rows
end L2
set_option Elab.async false
set_option linter.all false
set_option maxRecDepth 100000
set_option maxHeartbeats 4000000
namespace L2
open PySem PySem.Spec PyProof.Rows
def dl (n : Nat) : List Nat := (Nat.toDigits 10 n).map Char.toNat
theorem dl_val (n : Nat) : NumText.digitsVal (dl n) = n := PySem.W.KIN.val_back n
theorem dl_len (n : Nat) : 1 ≤ (dl n).length := by unfold dl; rw [List.length_map]; exact Nat.length_toDigits_pos
theorem dl_le {n k : Nat} (hk : 0 < k) (h : n < 10 ^ k) : (dl n).length ≤ k := by unfold dl; rw [List.length_map]; exact (Nat.length_toDigits_le_iff (by decide) hk).mpr h
theorem dl_all (n : Nat) : NumText.AllDigits (dl n) := fun c hc => by
  obtain ⟨d, hd, rfl⟩ := List.mem_map.mp hc
  have := Nat.isDigit_of_mem_toDigits (b := 10) (by decide) (by decide) hd
  unfold Char.isDigit at this
  rw [Bool.and_eq_true] at this
  have h1 := of_decide_eq_true this.1
  have h2 := of_decide_eq_true this.2
  have e1 : (48 : UInt32) ≤ d.val := h1
  have e2 : d.val ≤ (57 : UInt32) := h2
  rw [UInt32.le_iff_toNat_le] at e1 e2
  exact ⟨e1, e2⟩
theorem dl_zero : dl 0 = [48] := by decide +kernel
theorem dl_head {n : Nat} {r : List Nat} (h : dl n = 48 :: r) : n = 0 := by
  have hv := dl_val n
  have ha := dl_all n
  have h1 := NumText.toDigits_all (dl n) ha
  rw [hv] at h1
  have hl : (Nat.toDigits 10 n).length = (dl n).length := by unfold dl; rw [List.length_map]
  rw [h1, h] at hl
  have hd : List.dropWhile (fun x => x == 48) (48 :: r) = List.dropWhile (fun x => x == 48) r := by rw [List.dropWhile_cons]; rfl
  rw [hd] at hl
  have hle : (List.dropWhile (fun x : Nat => x == 48) r).length ≤ r.length := List.Sublist.length_le (List.dropWhile_sublist _)
  cases e : List.dropWhile (fun x : Nat => x == 48) r with
  | nil =>
    rw [e] at hl
    have hr : r = [] := by
      have : 1 = r.length + 1 := by simpa using hl
      exact List.length_eq_zero_iff.mp (by omega)
    rw [hr] at h
    have : NumText.digitsVal (dl n) = 0 := by rw [h]; rfl
    omega
  | cons c t =>
    rw [e] at hl hle
    simp at hl hle
    omega
theorem neg_text {i : Int} (h : i < 0) : (Str.ofString (toString i)).cps.toList = 45 :: dl i.natAbs := by
  obtain ⟨m, rfl⟩ : ∃ m : Nat, i = Int.negSucc m := by
    cases i with
    | ofNat n => exact absurd h (by simp)
    | negSucc m => exact ⟨m, rfl⟩
  have e : toString (Int.negSucc m) = "-" ++ toString (m + 1) := rfl
  rw [e, Str.ofString_eq_toList]
  show ((("-" ++ toString (m + 1)).toList.map Char.toNat).toArray).toList = _
  rw [List.toList_toArray, String.toList_append, List.map_append]
  have e2 : (toString (m + 1)).toList = Nat.toDigits 10 (m + 1) := Nat.toList_repr
  rw [e2]; rfl
theorem pos_text {i : Int} (h : 0 ≤ i) : (Str.ofString (toString i)).cps.toList = dl i.natAbs := by
  obtain ⟨m, rfl⟩ : ∃ m : Nat, i = Int.ofNat m := ⟨i.toNat, by simp; omega⟩
  rw [text_ofNat]; rfl
theorem int_back (i : Int) (h : i.natAbs < 10 ^ 60) : intText? (Str.ofString (toString i)) = some i ∧ (Str.ofString (toString i)).length ≤ 61 := by
  have hl : (dl i.natAbs).length ≤ 60 := dl_le (by decide) h
  have hne : dl i.natAbs ≠ [] := fun z => by have := dl_len i.natAbs; rw [z] at this; simp at this
  by_cases hi : i < 0
  · have ht := neg_text hi
    have hL : (Str.ofString (toString i)).length ≤ 61 := by rw [str_len, ht, List.length_cons]; omega
    refine ⟨?_, hL⟩
    rw [intText_neg ht (dl_all _) hne (by omega), dl_val]
    congr 1; omega
  · have ht := pos_text (i := i) (by omega)
    have hL : (Str.ofString (toString i)).length ≤ 61 := by rw [str_len, ht]; omega
    refine ⟨?_, hL⟩
    rw [intText_digits (by rw [ht]; exact dl_all _) (by rw [ht]; exact hne) (by omega), ht, dl_val]
    congr 1; omega
end L2
set_option Elab.async false
set_option linter.all false
set_option maxRecDepth 100000
set_option maxHeartbeats 4000000
namespace L2
open PySem PySem.Spec PyProof.Rows
section
variable {P : Program} {w : World} {A : Around} {E : Value → Shared → Prop} {s : Shared}
end
end L2
set_option Elab.async false
set_option linter.all false
set_option maxRecDepth 100000
set_option maxHeartbeats 4000000
namespace L2
open PySem PySem.Spec PyProof.Rows
section
variable {X : Cx} {K : PySem.W.Frag}
theorem mtJoin (hK : X.K = K) : MtM X "str.join" (rJoin K) := by subst hK; exact mt_join
theorem pe_bmJ {o e : Expr} {es : List Expr} {to : TE} {t : TA} {name : Str} {apos cpos : Pos} {T id : String} {r : V → List V → Hp → VK → Prop} (hK : X.K = K) (pa : PlainAttrs T) (slot : Slot T name id) (hty : typeOf (.builtin id) = pure (.type "method_descriptor")) (hm : MtM X id r) (ho : PE X o to) (ha : PA X (e :: es) t)
    (hbase : attributeBase o name X.env (eval o X.env) = eval o X.env := by rfl)
    (hfew : ((backTo cpos (starEach (e :: es) X.env)).all (fun x => !x.1) && (backToKw cpos (keywordEach [] X.env)).all (fun x => x.1.isSome)
      && decide ((e :: es).length + ([] : List Keyword).length + (if ([] : List Keyword).isEmpty then 0 else 1) < 30)) = true := by rfl)
    (hline : (apos.endLine == cpos.line) = true := by rfl) (hs : starEach (e :: es) X.env = (false, eval e X.env) :: starEach es X.env := by rfl) (hplain : (backTo cpos (starEach es X.env)).any (·.1) = false := by rfl) :
    PE X (.Call (.Attribute o name apos) (e :: es) [] cpos) (tBM K T r to t) := by subst hK; exact pe_bm pa slot hty hm ho ha hbase hfew hline hs hplain
end
end L2
set_option Elab.async false
set_option linter.all false
set_option maxRecDepth 100000
set_option maxHeartbeats 4000000
namespace L2
open PySem PySem.Spec PyProof.Rows
end L2
set_option Elab.async false
set_option linter.all false
set_option maxRecDepth 100000
set_option maxHeartbeats 1000000
namespace L2
open PySem PySem.Spec PyProof.Rows
section
variable {M : Model} {A : Around} {E : Value → Shared → Prop} {s : Shared} {B : Heap} {env : Env} {outer : List Env} {l : List Env} {L e : Addr} {cls a0 fl : Value}
theorem flight_any {o : Option Addr} {Q : Unit → Shared → Prop} (hkb : B.StaysIn s.heap) (hl : s.heap.FunFrames B l) (ht : s.heap.TracedAtW B e cls a0 fl)
    (h : ∀ h', B.StaysIn h' → h'.FunFrames B l → h'.TracedAtW B e cls a0 (o.elim Value.none fun f => rawInt f) → s.heap.UpToSlots h' → Q () { s with heap := h' }) : wpAny M A (setFlight (.ref e) o) Q E s := by
  obtain ⟨oe, vs, T, oT, ts, he, hc, hd, h1, hnT, hTe, hT, hdT, h3⟩ := ht
  have sz : 3 < ts.size := (Array.getElem?_eq_some_iff.mp h3).1
  have away : ∀ b, b ≠ T → ∀ g, (s.heap.update T g).get? b = s.heap.get? b := fun b hb g => Heap.get?_update_other _ _ (Ne.symm hb)
  have rcd : ∀ b o, s.heap.get? b = some o → (∀ vs, o.data ≠ .fields vs) → b ≠ T := fun b o hb hn q => by
    subst q; rw [hT] at hb; cases hb; exact hn ts hdT
  unfold setFlight
  refine wpAny_bind (wpAny_field he hd h1 ?_)
  rw [if_pos (by simp)]
  refine wpAny_setField hT hdT sz (h _ (fun b o hb => ?_) (hl.of_keeps fun b o hb hn => ⟨o, (away b (rcd b o hb hn) _).trans hb, rfl⟩) ?_ fun b o hb hn => ⟨o.slots, (away b (rcd b o hb hn) _).trans hb⟩)
  · exact (away b (fun q => by rw [q, hnT] at hb; cases hb) _).trans (hkb b o hb)
  · exact ⟨oe, vs, T, _, _, (away e (Ne.symm hTe) _).trans he, hc, hd, h1, hnT, hTe, Heap.get?_update_self _ hT (Obj.isFreed_of_fields (Obj.data_mapFields hdT _)), Obj.data_mapFields hdT _, by simp [sz]⟩
theorem leaves_any {Q : Unit → Shared → Prop} (hfr : A.frames = some (env :: outer)) (hf : env.frame = some L) (hkb : B.StaysIn s.heap) (hen : B.get? e = none) (hl : s.heap.FunFrames B (env :: outer)) (ht : s.heap.TracedAtW B e cls a0 fl)
    (hQ : ∀ h', Heap.FlyingW B outer e cls a0 h' → s.heap.UpToSlots h' → Q () { s with heap := h' }) : wpAny M A (leaving env (.ref e)) Q E s := by
  by_cases hq : fl = rawInt L
  · subst hq
    unfold leaving
    refine wpAny_bind (wpAny_noteFrame_againW hf ht (wpAny_landsW ⟨hkb, hen, hl, ht⟩ fun h' x u => hQ h' ?_ u))
    obtain ⟨k1, k2, ⟨_, _, k3⟩, k4⟩ := x
    exact ⟨k1, k2, k3, k4⟩
  · -- the mark is taken off first: from there on as if there had been none
    refine wpAny_mono (Q := Q) (E := E) ?_ (fun _ _ q => q) fun _ _ q => q
    obtain ⟨oe, vs, T, oT, ts, he, ⟨hc, h0⟩, hd, h1, hnT, hTe, hT, hdT, h3⟩ := ht
    subst hc
    have away : ∀ b, b ≠ T → ∀ g, (s.heap.update T g).get? b = s.heap.get? b := fun b hb g => Heap.get?_update_other _ _ (Ne.symm hb)
    have rcd : ∀ b o, s.heap.get? b = some o → (∀ vs, o.data ≠ .fields vs) → b ≠ T := fun b o hb hn q => by
      subst q; rw [hT] at hb; cases hb; exact hn ts hdT
    unfold leaving noteFrame
    simp only [hf]
    refine wpAny_bind (wpAny_bind (wpAny_field he hd h1 ?_))
    rw [if_pos (by simp)]
    refine wpAny_bind (wpAny_field hT hdT h3 ?_)
    rw [if_neg (by simpa using hq)]
    refine wpAny_bind (wpAny_setField hT hdT (Array.getElem?_eq_some_iff.mp h3).1 ?_)
    refine wpAny_newEntryW hfr (hl.of_keeps fun b o hb hn => ⟨o, (away b (rcd b o hb hn) _).trans hb, rfl⟩) hf ((away e (Ne.symm hTe) _).trans he)
      (fun b o hb => (away b (fun q => by rw [q, hnT] at hb; cases hb) _).trans (hkb b o hb)) hen hd (Array.getElem?_eq_some_iff.mp h1).1 h0 fun h' x => ?_
    obtain ⟨x1, ⟨_, _, x2⟩, x3, x4⟩ := x
    exact hQ h' ⟨x1, hen, x2, x3⟩ fun b o hb hn => x4 b o ((away b (rcd b o hb hn) _).trans hb) hn
theorem pass_any {α : Type} {what : String} {Q : α → Shared → Prop} {cenv : Env} (hkb : B.StaysIn s.heap) (hl : s.heap.FunFrames B l) (ht : s.heap.TracedAtW B e cls a0 fl)
    (h : ∀ h' fl', B.StaysIn h' → h'.FunFrames B l → h'.TracedAtW B e cls a0 fl' → s.heap.UpToSlots h' → E (.ref e) { s with heap := h' }) : wpAny M A (PySem.passOn what (.ref e) cenv : Sem α) Q E s := by
  obtain ⟨oe, vs, T, oT, ts, he, hc, hd, h1, r⟩ := ht
  unfold PySem.passOn
  refine wpAny_bind (wpAny_field he hd h1 ?_)
  rw [if_neg (by simp)]
  refine wpAny_bind (flight_any hkb hl ⟨oe, vs, T, oT, ts, he, hc, hd, h1, r⟩ fun h' k1 k2 k3 k4 => wpAny_throw (h h' _ k1 k2 k3 k4))
end
theorem comp_loopX {prog : Program} {w : World} {A : Around} {R : Result → Shared → Prop} {s : Shared} {elt target iter : Expr} {ifs : List Expr} {scope : Scope} {pos : Pos} {it acc : Value} {env : Env} (I : Nat → Shared → Prop) (X : Value → Shared → Prop)
    (hX : ∀ x s, X x s → notedBy (model prog w) A env (fun x s' => R (.error x) s') x s)
    (turn : ∀ n s, I n s → wpAny (model prog w) A (pyNext it) (fun r s₁ => match r with
      | none => R (.ok .next) s₁
      | some v => wpAny (model prog w) A (letOwnedTupleGo target it v) (fun _ s₁' => wpAny (model prog w) A (assign target env v) (fun _ s₂ =>
          wpAny (model prog w) A (forIn ifs true fun c r => if r = true then do let ok ← isTrue c env (eval c env); pure (ForInStep.yield ok) else pure (ForInStep.yield r)) (fun ok s₃ =>
            if ok = true then wpAny (model prog w) A (eval elt env) (fun x s₄ =>
              wpAny (model prog w) A (call (.builtin "list.append") [acc, x]) (fun _ s₅ => ∃ m, m < n ∧ I m s₅) (fun _ _ => False) s₄) X s₃
            else ∃ m, m < n ∧ I m s₃) X s₂) X s₁') X s₁) X s)
    (n : Nat) (h : I n s) :
    codeAny (model prog w) A (.compLoop (.ListComp elt [⟨target, iter, ifs, 0⟩] scope pos) 0 it acc env) R s := by
  refine codeAny_loop rfl I (fun n s hI => ?_) n h
  show wpAny _ A ((compTurn (.ListComp elt [⟨target, iter, ifs, 0⟩] scope pos) 0 it acc env).onRaise (fun x => do noteFrame x env; theTreesLotGoes x)) _ _ s
  refine wpAny_noted ?_
  rw [compTurn_list]
  refine wpAny_bind (wpAny_standAt (wpAny_bind (wpAny_mono (turn n s hI) (fun r s₁ h₁ => ?_) fun x s' h' => hX x s' h')))
  cases r with
  | none => exact wpAny_pure h₁
  | some v =>
    refine wpAny_bind (wpAny_mono h₁ (fun _ s₁' h₁' => ?_) fun x s' h' => hX x s' h')
    refine wpAny_bind (wpAny_mono h₁' (fun _ s₂ h₂ => wpAny_bind (wpAny_mono h₂ (fun ok s₃ h₃ => ?_) fun x s' h' => hX x s' h')) fun x s' h' => hX x s' h')
    cases ok with
    | false => exact wpAny_pure ⟨rfl, h₃⟩
    | true =>
      exact wpAny_bind (wpAny_bind (wpAny_mono h₃ (fun x s₄ h₄ => wpAny_bind (wpAny_mono h₄ (fun _ s₅ h₅ => wpAny_pure (wpAny_pure ⟨rfl, h₅⟩)) fun _ _ h' => h'.elim)) fun x s' h' => hX x s' h'))
end L2
set_option Elab.async false
set_option linter.all false
set_option maxRecDepth 100000
set_option maxHeartbeats 1000000
namespace L2
open PySem PySem.Spec PyProof.Rows
section
variable {X : Cx} {pins : List (Addr × Obj)} {σ : St} {H : Hp} {s : Shared}
theorem leaves_onC {M : Model} {E2 : Value → Shared → Prop} {ea C t : Addr} {s' : Shared} {E : XK} {H' : Hp} {B : Heap} {fl : Value} (ch : List Addr) (hch : ∀ b ∈ ch, X.s₀.heap.objs.size ≤ b) (I : Inv X pins σ H s) (hst : X.stack = X.env :: X.outer) (hf : X.env.frame = some X.env.locals) (hex : X.ex = [])
    (os : s'.os = s.os) (bare : AllBare s'.gens) (un : Un (frs X.stack) ch H H' s.heap s'.heap) (hok : HOk X.prog X.w H' s'.heap) (hkb : B.StaysIn s'.heap) (hen : B.get? ea = none) (hl : s'.heap.FunFrames B X.stack) (ht : s'.heap.TracedAtW B ea (.ref C) (.ref t) fl)
    (b1 : ∀ b o, s.heap.get? b = some o → b ∉ frs X.stack → b ∉ ch → ∃ o', B.get? b = some o') (b2 : ∀ b u, H' b = some u → ∃ o, B.get? b = some o) (hE : E (.ref C) none H') : wpAny M X.A (leaving X.env (.ref ea)) (fun _ s'' => CXR X.prog X.w X.outer X.H₀ X.s₀ E (.ref ea) s'') E2 s' := by
  have noex : ∀ b, b ∉ X.ex := fun b z => by rw [hex] at z; cases z
  have nch : ∀ {b o}, X.s₀.heap.get? b = some o → b ∉ ch := fun q z => absurd (Heap.lt_size q) (Nat.not_lt.mpr (hch _ z))
  refine leaves_any (hst ▸ I.ok.frames) hf hkb hen (hst ▸ hl) ht fun h2 x1 x2 => ?_
  have old : ∀ b o, X.s₀.heap.get? b = some o → b ∉ X.fs → ∃ o', B.get? b = some o' := fun b o q n => by
    obtain ⟨o', ho⟩ := I.base.there b o q (noex b)
    exact b1 b o' ho (I.notStk q n) (nch q)
  have fr : ∀ b o, s'.heap.get? b = some o → b ∈ X.fs → ∃ sl, h2.get? b = some { o with slots := sl } := fun b o q hb => by
    obtain ⟨_, o', ho', hd⟩ := hl.mem (I.stkSup hb)
    rw [q] at ho'; cases ho'
    exact x2 b o q hd
  refine ⟨ea, C, t, H', B, rfl, os.trans I.os, bare, ⟨fun b o q n hb _ => ?_, fun b o q n hb _ => ?_, fun b o q n _ => ?_, fun b o q _ => ?_, fun b xs q => un.tups b xs (I.base.tups b xs q), fun b o u q => un.frzs b o u (I.base.frzs b o u q), fun b ps q => ?_⟩, hok.by b2 hkb x1.1, x1, old, b2, hE⟩
  · have e1 := I.base.keep b o q n hb (noex b)
    have e2 := un.keep b o e1 (I.base.free b o q n (noex b)) (I.notStk q hb) (nch q)
    obtain ⟨o', e3⟩ := old b o q hb
    have e4 := hkb b o' e3
    rw [e2] at e4; cases e4
    exact x1.1 b _ e3
  · obtain ⟨sl, e1⟩ := I.base.slot b o q n hb (noex b)
    obtain ⟨sl1, e2⟩ := un.slot b _ e1 (I.base.free b o q n (noex b)) (I.stkSup hb) (nch q)
    obtain ⟨sl2, e3⟩ := fr b _ e2 hb
    exact ⟨sl2, e3⟩
  · obtain ⟨o', e1⟩ := I.base.there b o q (noex b)
    exact un.free b o' e1 (I.base.free b o q n (noex b)) (nch q)
  · by_cases hb : b ∈ X.fs
    · obtain ⟨o', e1⟩ := I.base.there b o q (noex b)
      obtain ⟨o2, e2⟩ := un.there b o' e1 (nch q)
      obtain ⟨sl2, e3⟩ := fr b _ e2 hb
      exact ⟨_, e3⟩
    · obtain ⟨o', e1⟩ := old b o q hb
      exact ⟨_, x1.1 b o' e1⟩
  · obtain ⟨m1, e1⟩ := I.base.tbls b ps q
    obtain ⟨m2, e2⟩ := un.tbls b _ e1
    exact ⟨m1 ++ m2, by rw [e2, Array.append_assoc]⟩
end
end L2
set_option Elab.async false
set_option linter.all false
set_option maxRecDepth 100000
set_option maxHeartbeats 1000000
namespace L2
open PySem PySem.Spec PyProof.Rows
theorem none_less {B B' : Heap} (k : ∀ b o, B'.get? b = some o → B.get? b = some o) {L : Addr} (h : B.get? L = none) : B'.get? L = none := by
  cases q : B'.get? L with
  | none => rfl
  | some u => rw [k _ _ q] at h; cases h
theorem frames_move {h h' B B' : Heap} (k : ∀ b o, B'.get? b = some o → B.get? b = some o) : ∀ {l : List Env}, (∀ b ∈ frs l, h'.get? b = h.get? b) → h.FunFrames B l → h'.FunFrames B' l
  | [], _, _ => trivial
  | env :: rest, g, ⟨h1, ⟨L, o, h2, h3, h4⟩, h5⟩ => by
    have hm : L ∈ frs (env :: rest) := by unfold frs; rw [List.filterMap_cons, h2]; exact List.mem_cons_self
    refine ⟨h1, ⟨L, o, h2, none_less k h3, by rw [g L hm]; exact h4⟩, frames_move k (fun b hb => g b ?_) h5⟩
    unfold frs; rw [List.filterMap_cons, h2]; exact List.mem_cons_of_mem _ hb
theorem comp_leaves {X Y : Cx} {pins pinsY : List (Addr × Obj)} {σ σY : St} {H2 H3 : Hp} {s2 s3 s' : Shared} {E : XK} {e : Value} {C : Addr} {ex : List Addr} {ob : Obj} {env' : Env}
    (I2 : Inv X pins σ H2 s2) (IY : Inv Y pinsY σY H3 s3) (yl : Y.env.locals = C) (yos : Y.s₀.os = s2.os) (U : Un (frs X.stack) ex H2 H3 (s2.heap.push ob) s3.heap) (hC : s2.heap.objs.size ≤ C) (hexs : ∀ b ∈ ex, X.s₀.heap.objs.size ≤ b)
    (hst : X.stack = X.env :: X.outer) (hf : X.env.frame = some X.env.locals) (hex : X.ex = []) (henv : env'.frame = X.env.frame)
    (hxe : ∀ x s, wpAny (model X.prog X.w) X.A (leaving X.env x) (fun _ s'' => CXR X.prog X.w X.outer X.H₀ X.s₀ E x s'') (fun x' s'' => CXR X.prog X.w X.outer X.H₀ X.s₀ E x' s'') s → X.xe x s)
    (h : CXR X.prog X.w X.stack H3 s3 E e s') :
    notedBy (model X.prog X.w) X.A env' (fun x s'' => ∃ m, s''.heap.Ns C m ∧ ∀ h', Heap.SameBut C s''.heap h' → ∀ cenv : Env, cenv.locals = C → wpAny (model X.prog X.w) X.A (PySem.passOn "comprehension.variables-let-go" x cenv : Sem Value) (fun _ _ => False) X.xe { s'' with heap := h' }) e s' := by
  obtain ⟨ea, Cc, t, H', B, rfl, os, bare, un, hok, fl, b1, b2, hE⟩ := h
  have en : noteFrame (.ref ea) env' = noteFrame (.ref ea) X.env := by unfold noteFrame PySem.frameOf; rw [henv]
  unfold notedBy
  rw [en]
  have fl0 := fl
  rw [hst] at fl0
  refine wpAny_looks_onW (env := X.env) (outer := X.outer) (hst ▸ I2.ok.frames) hf fl0 fun h1 held up1 => ?_
  rw [← hst] at held
  have nil : ∀ b : Addr, b ∉ ([] : List Addr) := fun b z => by cases z
  have cNot : C ∉ frs X.stack := fun z => by
    obtain ⟨_, o, ho, _⟩ := I2.stack.mem z
    exact absurd (Heap.lt_size ho) (Nat.not_lt.mpr hC)
  obtain ⟨mC, nsC, _⟩ := IY.loc
  have cF := IY.free
  rw [yl] at nsC cF
  obtain ⟨oC, _, _, eC, _⟩ := id nsC
  have cF' : H' C = none := un.free C oC eC cF (nil C)
  have ns1 : h1.Ns C mC := up1.ns (nsC.at' fun o q => un.keep C o q cF cNot (nil C))
  refine ⟨mC, ns1, fun h2 sb cenv _ => ?_⟩
  have sub : ∀ b o, (PySem.W.hideAll B [C]).get? b = some o → B.get? b = some o := fun b o q => PySem.W.of_hideAll _ q
  have nC : ∀ {b o}, (PySem.W.hideAll B [C]).get? b = some o → b ≠ C := fun {b o} q z => by
    subst z; rw [PySem.W.hideAll_none [b] (List.mem_singleton.mpr rfl)] at q; cases q
  have into : ∀ {b o}, B.get? b = some o → b ≠ C → (PySem.W.hideAll B [C]).get? b = some o := fun q n => PySem.W.hideAll_get _ q fun z => n (List.mem_singleton.mp z)
  have st2 : (PySem.W.hideAll B [C]).StaysIn h2 := fun b o q => (sb.2 b (nC q)).trans (held.1 b o (sub b o q))
  have fr2 : h2.FunFrames (PySem.W.hideAll B [C]) X.stack := frames_move sub (fun b hb => sb.2 b fun z => cNot (z ▸ hb)) held.2.2.1
  have noF : ∀ b o vs, h1.get? b = some o → o.data = .fields vs → b ≠ C := fun b o vs q d z => by
    obtain ⟨o', es, ep, ho, hd, _⟩ := ns1
    subst z
    rw [q] at ho; cases ho
    rw [d] at hd; cases hd
  have tr2 : h2.TracedAtW (PySem.W.hideAll B [C]) ea (.ref Cc) (.ref t) (rawInt X.env.locals) := by
    obtain ⟨oe, vs, T, oT, ts, he, hc, hd, h1', hnT, hTe, hT, hdT, h3⟩ := held.2.2.2
    exact ⟨oe, vs, T, oT, ts, (sb.2 ea (noF _ _ _ he hd)).trans he, hc, hd, h1', none_less sub hnT, hTe, (sb.2 T (noF _ _ _ hT hdT)).trans hT, hdT, h3⟩
  refine pass_any (B := PySem.W.hideAll B [C]) (l := X.stack) st2 fr2 tr2 fun h3 fl' k1 k2 k3 k4 => hxe _ _ ?_
  have nonF : ∀ b ∈ frs X.stack, ∀ o, s'.heap.get? b = some o → ∃ sl, h3.get? b = some { o with slots := sl } := fun b hb o q => by
    obtain ⟨_, o', ho', hd⟩ := fl.2.2.1.mem hb
    rw [q] at ho'; cases ho'
    obtain ⟨sl, e1⟩ := up1 b o q hd
    have nb : b ≠ C := fun z => cNot (z ▸ hb)
    have e2 : h2.get? b = some { o with slots := sl } := (sb.2 b nb).trans e1
    obtain ⟨sl2, e3⟩ := k4 b _ e2 hd
    exact ⟨sl2, e3⟩
  have push : ∀ {b o}, s2.heap.get? b = some o → (s2.heap.push ob).get? b = some o := fun q => Heap.get?_push_of_some _ q
  have nbC : ∀ {b o}, s2.heap.get? b = some o → b ≠ C := fun q z => absurd (Heap.lt_size q) (Nat.not_lt.mpr (z ▸ hC))
  have inB : ∀ b o, s2.heap.get? b = some o → b ∉ frs X.stack → b ∉ ex → ∃ o', (PySem.W.hideAll B [C]).get? b = some o' := fun b o q hb hx => by
    obtain ⟨o3, e3⟩ := U.there b o (push q) hx
    obtain ⟨o', eB⟩ := b1 b o3 e3 hb
    exact ⟨o', into eB (nbC q)⟩
  have trk : ∀ b u, H' b = some u → ∃ o, (PySem.W.hideAll B [C]).get? b = some o := fun b u q => by
    obtain ⟨o, eB⟩ := b2 b u q
    exact ⟨o, into eB fun z => by rw [z, cF'] at q; cases q⟩
  have hen' : (PySem.W.hideAll B [C]).get? ea = none := by
    cases q : (PySem.W.hideAll B [C]).get? ea with
    | none => rfl
    | some o => have := sub _ _ q; rw [fl.2.1] at this; cases this
  refine leaves_onC (C := Cc) (t := t) (H' := H') (B := PySem.W.hideAll B [C]) (fl := fl') (C :: ex) (fun b hb => ?_) I2 hst hf hex (os.trans (IY.os.trans yos)) bare ⟨fun b o q n hb hx => ?_, fun b o q n hb hx => ?_, fun b o q n hx => ?_, fun b o q hx => ?_, fun b xs q => un.tups b xs (U.tups b xs q), fun b o u q => un.frzs b o u (U.frzs b o u q), fun b ps q => ?_⟩ (hok.by trk (fun b o q => fl.1 b o (sub b o q)) k1) k1 hen' k2 k3 (fun b o q hb hx => inB b o q hb fun z => hx (List.mem_cons_of_mem _ z)) trk hE
  · rcases List.mem_cons.mp hb with rfl | hb
    · exact Nat.le_trans I2.sz hC
    · exact hexs b hb
  · have hx' : b ∉ ex := fun z => hx (List.mem_cons_of_mem _ z)
    have e3 := U.keep b o (push q) n hb hx'
    have e4 := un.keep b o e3 (U.free b o (push q) n hx') hb (nil b)
    obtain ⟨o', eB⟩ := b1 b o e3 hb
    have := fl.1 b o' eB
    rw [e4] at this; cases this
    exact k1 b o (into eB (nbC q))
  · have hx' : b ∉ ex := fun z => hx (List.mem_cons_of_mem _ z)
    obtain ⟨sl, e3⟩ := U.slot b o (push q) n hb hx'
    obtain ⟨sl1, e4⟩ := un.slot b _ e3 (U.free b o (push q) n hx') hb (nil b)
    obtain ⟨sl2, e5⟩ := nonF b hb _ e4
    exact ⟨sl2, e5⟩
  · have hx' : b ∉ ex := fun z => hx (List.mem_cons_of_mem _ z)
    obtain ⟨o3, e3⟩ := U.there b o (push q) hx'
    exact un.free b o3 e3 (U.free b o (push q) n hx') (nil b)
  · have hx' : b ∉ ex := fun z => hx (List.mem_cons_of_mem _ z)
    by_cases hb : b ∈ frs X.stack
    · obtain ⟨o3, e3⟩ := U.there b o (push q) hx'
      obtain ⟨o4, e4⟩ := un.there b o3 e3 (nil b)
      obtain ⟨sl2, e5⟩ := nonF b hb _ e4
      exact ⟨_, e5⟩
    · obtain ⟨o', eB⟩ := inB b o q hb hx'
      exact ⟨o', k1 b o' eB⟩
  · obtain ⟨m1, e1⟩ := U.tbls b ps q
    obtain ⟨m2, e2⟩ := un.tbls b _ e1
    exact ⟨m1 ++ m2, by rw [e2, Array.append_assoc]⟩
end L2
set_option Elab.async false
set_option linter.all false
set_option maxRecDepth 100000
set_option maxHeartbeats 1000000
namespace L2
open PySem PySem.Spec PyProof.Rows
theorem comp_coreX {X : Cx} {E : XK} {elt tg iter : Expr} {ifs : List Expr} {scope : Scope} {pos : Pos} {N : List Str} {k : Nat} {cap : List Nat} {wi : TI} {tt : TTg} {tc : TT} {te : TE} {cl : List (Str × Addr)}
    (hc : X.calm = true) (hi : PI X tg iter wi) (hg : ∀ cl C s H ex pn xe, PTg ((compCx X scope N cl C s H ex pn).wish xe) k tg tt) (ht : ∀ cl C s H ex pn xe, PTs ((compCx X scope N cl C s H ex pn).wish xe) ifs tc)
    (he : ∀ cl C s H ex pn xe, Passes (CXR X.prog X.w) ((compCx X scope N cl C s H ex pn).wish xe) E → PE ((compCx X scope N cl C s H ex pn).wish xe) elt te)
    (hst : X.stack = X.env :: X.outer) (hf : X.env.frame = some X.env.locals) (hex : X.ex = [])
    (hxe : ∀ x s, wpAny (model X.prog X.w) X.A (leaving X.env x) (fun _ s'' => CXR X.prog X.w X.outer X.H₀ X.s₀ E x s'') (fun x' s'' => CXR X.prog X.w X.outer X.H₀ X.s₀ E x' s'') s → X.xe x s) (S : CompOk scope X.env.scope N X.N k cap)
    (hcl1 : ∀ x c, cl.lookup x = some c → X.env.cells.lookup x = some c) (hcl2 : ∀ x, (x, NameKind.free) ∈ scope.names → ∃ c, cl.lookup x = some c)
    {pins : List (Addr × Obj)} {s : Shared} {σ : St} {H : Hp} {Q : VK} (I : Inv X pins σ H s) (h : tComp wi tt tc te cap σ H Q) {RR : Value → Addr → Result → Shared → Prop}
    (hRR : ∀ D C s1 H', Inv X pins σ H' s1 → Blk X pins H' s1 C → Q (.ref D) H' → RR (.ref D) C (.ok .next) s1)
    (hRX : ∀ D C x s1, (∃ m, s1.heap.Ns C m ∧ ∀ h', Heap.SameBut C s1.heap h' → ∀ cenv : Env, cenv.locals = C → wpAny (model X.prog X.w) X.A (PySem.passOn "comprehension.variables-let-go" x cenv : Sem Value) (fun _ _ => False) X.xe { s1 with heap := h' }) → RR D C (.error x) s1) :
    wpAny (model X.prog X.w) X.A (eval iter X.env) (fun x s₁ => wpAny (model X.prog X.w) X.A (pyIter x) (fun it s₂ => wpAny (model X.prog X.w) X.A (newList []) (fun acc s₃ =>
      wpAny (model X.prog X.w) X.A (newFunctionEnv scope X.env.globals cl [] X.env.qual none .none (some X.env)) (fun cenv s₄ =>
        codeAny (model X.prog X.w) X.A (.compStart (.ListComp elt [⟨tg, iter, ifs, 0⟩] scope pos) 0 it acc { cenv with scope := relabel scope X.env }) (RR acc cenv.locals) s₄) X.xe s₃) X.xe s₂) X.xe s₁) X.xe s := by
  refine thn (hi pins s σ H _ I h) fun v s1 h1 => thn h1 fun itv s2 h2 => ?_
  obtain ⟨it, fp, tn, J, H2, e, I2, T, st2, f2, W, ⟨m0, w0⟩, turn⟩ := h2
  subst e
  refine wpAny_newObj_type (wpAny_newFunctionEnv S.cell (by intro y hy; simp at hy) (fun h₁ hns₁ hsb₁ => ?_) S.kind)
  dsimp only at hns₁ hsb₁ ⊢
  have hP : s2.heap.push { cls := .type "list", dict := none, data := .seq ([] : List Value).toArray } = s2.heap.push { cls := .type "list", data := .seq #[] } := rfl
  rw [hP] at hns₁ hsb₁ ⊢
  have hC : (s2.heap.push { cls := .type "list", data := .seq #[] }).objs.size = s2.heap.objs.size + 1 := Heap.size_push ..
  rw [hC] at hns₁ hsb₁ ⊢
  have hsb : ∀ b o, (s2.heap.push { cls := .type "list", data := .seq #[] }).get? b = some o → h₁.get? b = some o := fun b o e =>
    hsb₁.extBut b o (by have := Heap.lt_size e; rw [hC] at this; exact Nat.ne_of_lt this) (Heap.get?_push_of_some _ e)
  have hob : ∀ b ∈ fp, ∃ o, s2.heap.get? b = some o := fun b hb => by obtain ⟨o, e, _⟩ := T.obj _ _ st2 b hb; exact ⟨o, e⟩
  have IY := comp_start (N := N) (k := k) (cap := cap) (tk := s2.toks + ([] : List (Str × Value)).length) I2 S hcl1 hcl2 f2 hob hns₁ hsb
  obtain ⟨xb, hxb⟩ : ∃ xb : Value → Shared → Prop, xb = fun x s' => ∃ (pl : List (Addr × Obj)) (σ' : St) (H' : Hp) (s3 : Shared), Inv (compCx X scope N cl (s2.heap.objs.size + 1) { s2 with heap := s2.heap.push { cls := .type "list", data := .seq #[] } } H2 (s2.heap.objs.size :: fp) (X.pn ++ pins)) pl σ' H' s3 ∧ CXR X.prog X.w X.stack H' s3 E x s' := ⟨_, rfl⟩
  replace IY := IY.wish xb
  have pB : Passes (CXR X.prog X.w) ((compCx X scope N cl (s2.heap.objs.size + 1) { s2 with heap := s2.heap.push { cls := .type "list", data := .seq #[] } } H2 (s2.heap.objs.size :: fp) (X.pn ++ pins)).wish xb) E := fun pl σ' H' s3 x s' I h => by rw [hxb]; exact ⟨pl, σ', H', s3, I.unwish, h⟩
  have lv : ∀ x s', xb x s' → notedBy (model X.prog X.w) X.A (compEnvC scope cl (s2.heap.objs.size + 1) X.env) (fun x s' => RR (.ref s2.heap.objs.size) (s2.heap.objs.size + 1) (.error x) s') x s' := fun x s' z => by
    rw [hxb] at z
    obtain ⟨pl, σ', H', s3, I3, z⟩ := z
    refine wpAny_mono (comp_leaves I2 I3 rfl rfl I3.base (Nat.le_succ _) (fun b hb => ?_) hst hf hex rfl hxe z) (fun _ s'' q => hRX _ _ _ _ q) fun _ s'' q => hRX _ _ _ _ q
    rcases List.mem_cons.mp hb with rfl | hb
    · exact I2.sz
    · exact (f2 b hb).2.2.2.1.elim (fun z => by rw [hex] at z; cases z) id
  generalize hY : (compCx X scope N cl (s2.heap.objs.size + 1) { s2 with heap := s2.heap.push { cls := .type "list", data := .seq #[] } } H2 (s2.heap.objs.size :: fp) (X.pn ++ pins)).wish xb = Y at IY
  have yp : Y.prog = X.prog := by rw [← hY]
  have yw : Y.w = X.w := by rw [← hY]
  have yK : Y.K = X.K := by rw [← hY]
  have yA : Y.A = X.A := by rw [← hY]
  have yc : Y.calm = true := by rw [← hY]; exact hc
  have yl : Y.env.locals = s2.heap.objs.size + 1 := by rw [← hY]; rfl
  have yenv : Y.env = compEnvC scope cl (s2.heap.objs.size + 1) X.env := by rw [← hY]
  have yex : Y.ex = s2.heap.objs.size :: fp := by rw [← hY]
  have yfs : Y.fs = frs X.stack := by rw [← hY]
  have ypn : Y.pn = X.pn ++ pins := by rw [← hY]
  have ycl : Y.env.cells = cl := by rw [← hY]; rfl
  have yxe : Y.xe = xb := by rw [← hY]
  have gT : PTg Y k tg tt := by rw [← hY]; exact hg _ _ _ _ _ _ _
  have gC : PTs Y ifs tc := by rw [← hY]; exact ht _ _ _ _ _ _ _
  have gE : PE Y elt te := by rw [← hY]; exact he _ _ _ _ _ _ _ pB
  have yH : Y.H₀ = H2 := by rw [← hY]
  have ys0 : Y.s₀ = { s2 with heap := s2.heap.push { cls := .type "list", data := .seq #[] } } := by rw [← hY]
  have fpLt : ∀ b ∈ fp, b < s2.heap.objs.size := fun b hb => by obtain ⟨o, e⟩ := hob b hb; exact Heap.lt_size e
  have pinLt : ∀ p ∈ X.pn ++ pins, p.1 < s2.heap.objs.size := fun p hp => Heap.lt_size (I2.pin p hp).1
  have cellLt : ∀ x c, X.env.cells.lookup x = some c → c < s2.heap.objs.size := fun x c e => by
    obtain ⟨v, q⟩ := I2.cell x c e
    exact q.lt
  have stkNe : ∀ b, b ≠ X.env.locals → b ∉ X.fs → b ∉ frs X.stack := fun b h1 h2 hb => (List.mem_cons.mp (I2.stkSub b hb)).elim h1 h2
  have fpY : ∀ {H' : Hp} {pl : List (Addr × Obj)}, (∀ b ∈ fp, H' b = none) → (∀ p ∈ pl, p.1 = s2.heap.objs.size) → ∀ b ∈ fp, FpOk Y pl H' b := fun {H' pl} hn hpl b hb => by
    refine ⟨hn b hb, ?_, ?_, .inl ?_, fun x c e => ?_, fun p hp => ?_⟩
    · rw [yl]; exact Nat.ne_of_lt (Nat.lt_succ_of_lt (fpLt b hb))
    · rw [yfs]; exact stkNe b (f2 b hb).2.1 (f2 b hb).2.2.1
    · rw [yex]; exact List.mem_cons_of_mem _ hb
    · rw [ycl] at e; exact (f2 b hb).2.2.2.2.1 x c (hcl1 x c e)
    · rcases List.mem_append.mp hp with hp | hp
      · rw [ypn] at hp; exact (f2 b hb).2.2.2.2.2 p hp
      · rw [hpl p hp]; exact Nat.ne_of_gt (fpLt b hb)
  have loop : ∀ s₃ : Shared, s₃ = { s2 with heap := h₁, toks := s2.toks + ([] : List (Str × Value)).length } →
      codeAny (model X.prog X.w) X.A (.compLoop (.ListComp elt [⟨tg, iter, ifs, 0⟩] scope pos) 0 (.ref it) (.ref s2.heap.objs.size) (compEnvC scope cl (s2.heap.objs.size + 1) X.env)) (RR (.ref s2.heap.objs.size) (s2.heap.objs.size + 1)) s₃ := by
    rintro s₃ rfl
    refine comp_loopX (X := xb) (hX := lv) (fun n s' => ∃ i ys its H' c, Inv Y [(s2.heap.objs.size, { cls := .type "list", data := .seq (List.toArray its) c })] (List.replicate k none ++ capS σ cap) H' s' ∧ tn i s'.heap ∧ (∀ b ∈ fp, H' b = none) ∧ Vals ys its ∧ W i n ys H') ?_ m0
      ⟨0, [], [], H2, _, IY, T.keep _ _ _ st2 fun b hb o e => hsb b o (Heap.get?_push_of_some _ e), fun b hb => (f2 b hb).1, .nil, w0⟩
    rintro n s3 ⟨i, ys, its, H3, c3, I3, st3, fr3, rv3, w3⟩
    have onlyD : ∀ p ∈ [(s2.heap.objs.size, ({ cls := .type "list", data := .seq its.toArray c3 } : Obj))], p.1 = s2.heap.objs.size := fun p hp => by
      have : p = (s2.heap.objs.size, { cls := .type "list", data := .seq its.toArray c3 }) := by simpa using hp
      rw [this]
    have pinD : ∀ {pl : List (Addr × Obj)} {σ' : St} {H' : Hp} {s' : Shared}, Inv Y ([(s2.heap.objs.size, ({ cls := .type "list", data := .seq its.toArray c3 } : Obj))] ++ pl) σ' H' s' → s'.heap.get? s2.heap.objs.size = some { cls := .type "list", data := .seq its.toArray c3 } ∧ H' s2.heap.objs.size = none := fun I' => by
      obtain ⟨e, n, _⟩ := I'.pin (s2.heap.objs.size, { cls := .type "list", data := .seq its.toArray c3 }) (List.mem_append_right _ (List.mem_append_left _ (by simp)))
      exact ⟨e, n⟩
    rcases turn i n ys H3 w3 with ⟨stop, hz, qn⟩ | ⟨go, Nx, hNx, step⟩
    · have hd := T.done Y yp yw yK yc i _ s3 _ H3 xb I3 (fpY fr3 onlyD) st3 stop
      rw [yA] at hd
      refine thn hd fun r s4 hm0 => ?_
      obtain ⟨hr, I4⟩ := hm0
      subst hr
      obtain ⟨eD, nD⟩ := pinD (pl := []) (by simpa using I4)
      have nC : H3 (s2.heap.objs.size + 1) = none := by have := I4.free; rw [yl] at this; exact this
      obtain ⟨mC, nsC, _⟩ := I4.loc
      rw [yl] at nsC
      have U := I4.base
      rw [yfs, yex, yH, ys0] at U
      have old : ∀ {b o}, s2.heap.get? b = some o → b < s2.heap.objs.size := fun e => Heap.lt_size e
      have Un2 : Un (frs X.stack) (s2.heap.objs.size :: fp) H2 (upd H3 s2.heap.objs.size (.lst ys)) s2.heap s4.heap :=
        ⟨fun b o e n hb hx => U.keep b o (Heap.get?_push_of_some _ e) n hb hx, fun b o e n hb hx => U.slot b o (Heap.get?_push_of_some _ e) n hb hx,
          fun b o e n hx => by rw [upd_ne (Nat.ne_of_lt (old e))]; exact U.free b o (Heap.get?_push_of_some _ e) n hx, fun b o e hx => U.there b o (Heap.get?_push_of_some _ e) hx,
          fun b xs e => by have q := U.tups b xs e; rw [upd_ne (ne_of_none q nD)]; exact q, fun b o u e => by have q := U.frzs b o u e; rw [upd_ne (ne_of_none q nD)]; exact q,
          fun b ps e => by obtain ⟨mo, q⟩ := U.tbls b ps e; exact ⟨mo, by rw [upd_ne (ne_of_none q nD)]; exact q⟩⟩
      have hok4 := I4.hok
      rw [yp, yw] at hok4
      have IX : Inv X pins σ (upd H3 s2.heap.objs.size (.lst ys)) s4 := by
        refine I2.call' (ch := s2.heap.objs.size :: fp) ?_ Un2 (hok4.adopt nD ⟨hz, its, c3, rv3, eD⟩) I4.bare fun b hb => ?_
        · have := I4.os; rw [ys0] at this; exact this
        · rcases List.mem_cons.mp hb with rfl | hb
          · exact ⟨.inr I2.sz, Nat.ne_of_gt I2.lt, fun x c e => Nat.ne_of_lt (cellLt x c e), fun p hp => Nat.ne_of_lt (pinLt p hp)⟩
          · exact ⟨(f2 b hb).2.2.2.1, (f2 b hb).2.1, (f2 b hb).2.2.2.2.1, (f2 b hb).2.2.2.2.2⟩
      refine hRR _ _ s4 _ IX ⟨⟨mC, nsC⟩, ?_, ?_, Nat.le_succ_of_le I2.sz, fun x c e => Nat.ne_of_lt (Nat.lt_succ_of_lt (cellLt x c e)), fun p hp => Nat.ne_of_lt (Nat.lt_succ_of_lt (pinLt p hp))⟩ (qn _ nD)
      · rw [upd_ne (Nat.succ_ne_self _)]; exact nC
      · exact Nat.ne_of_gt (Nat.lt_succ_of_lt I2.lt)
    · have hd := T.item Y yp yw yK yc i _ s3 _ H3 xb I3 (fpY fr3 onlyD) st3 go
      rw [yA] at hd
      refine thn hd fun r s4 hm0 => ?_
      obtain ⟨u, hr, h4⟩ := hm0
      subst hr
      refine thn h4 fun _ s5 hm0 => ?_
      obtain ⟨x, H5, I5, r5, y5, st5, fr5⟩ := hm0
      have I5' := I5.pinned (fpY fr5 onlyD) (T.obj _ _ st5)
      have a5 := gT _ s5 _ H5 x u _ I5' (by simp) r5 (step x H5 y5)
      rw [yp, yw, yA, yxe, yenv] at a5
      refine thn a5 fun _ s6 hm0 => ?_
      obtain ⟨ws, hlw, q6, I6⟩ := hm0
      have dr : (List.replicate k (none : Option V) ++ capS σ cap).drop k = capS σ cap := by
        rw [List.drop_append_of_le_length (by simp)]; simp
      rw [dr] at I6
      have a6 := gC _ s6 _ H5 _ I6 q6
      rw [yp, yw, yA, yxe, yenv] at a6
      refine thn a6 fun ok s7 hm0 => ?_
      obtain ⟨H7, I7, q7⟩ := hm0
      have wk : ∀ (j : Nat) v, (List.replicate k (none : Option V) ++ capS σ cap)[j]? = some (some v) → (ws.map some ++ capS σ cap)[j]? = some (some v) := fun j v e => by
        have hik : k ≤ j := by
          refine Nat.le_of_not_lt fun hlt => ?_
          rw [List.getElem?_append_left (by simpa using hlt), List.getElem?_replicate] at e
          split at e <;> cases e
        rw [List.getElem?_append_right (by simpa using hik), List.length_replicate] at e
        rw [List.getElem?_append_right (by simpa [hlw] using hik), List.length_map, hlw]
        exact e
      have wl : (List.replicate k (none : Option V) ++ capS σ cap).length = (ws.map some ++ capS σ cap).length := by simp [hlw]
      have stn : ∀ {H' : Hp} {s' : Shared}, Inv Y ([(s2.heap.objs.size, ({ cls := .type "list", data := .seq its.toArray c3 } : Obj))] ++ pinsAt fp s5.heap) (ws.map some ++ capS σ cap) H' s' → tn (i + 1) s'.heap ∧ ∀ b ∈ fp, H' b = none := fun {H' s'} I' => by
        refine ⟨T.keep _ _ _ st5 fun b hb o e => (I'.pin (b, o) (List.mem_append_right _ (List.mem_append_right _ (mem_pinsAt hb e)))).1, fun b hb => ?_⟩
        obtain ⟨o, e, d⟩ := T.obj _ _ st5 b hb
        exact (I'.pin (b, o) (List.mem_append_right _ (List.mem_append_right _ (mem_pinsAt hb e)))).2.1
      cases ok with
      | false =>
        obtain ⟨_, m', hm, w'⟩ := hNx _ _ q7
        obtain ⟨t7, f7⟩ := stn I7
        exact ⟨m', hm, i + 1, ys, its, H7, c3, (I7.weak wl wk).unpinned, t7, f7, rv3, w'⟩
      | true =>
        have a7 := gE _ s7 _ H7 _ I7 q7
        rw [yp, yw, yA, yxe, yenv] at a7
        rw [if_pos rfl]
        refine thn a7 fun yv s8 hm0 => ?_
        obtain ⟨y, H8, I8, r8, q8⟩ := hm0
        obtain ⟨hz8, m', hm, w'⟩ := hNx _ _ q8
        rw [List.length_append, List.length_singleton] at hz8
        obtain ⟨eD, nD⟩ := pinD I8
        obtain ⟨t8, f8⟩ := stn I8
        refine wpAny_list_append_plain (hsz := by rw [List.size_toArray, ← rv3.length]; omega) ⟨c3, eD⟩ fun h9 pl9 sb9 => ?_
        obtain ⟨c9, e9⟩ := pl9
        have I8' : Inv Y [] (List.replicate k none ++ capS σ cap) H8 s8 := (I8.weak wl wk).pins_of fun p hp => by cases hp
        have I9 : Inv Y [] (List.replicate k none ++ capS σ cap) H8 { s8 with heap := h9 } :=
          I8'.turned (t' := s8.toks) (it := s2.heap.objs.size) (fun b o hb e => sb9.extBut b o hb e) nD (by rw [yl]; exact Nat.ne_of_lt (Nat.lt_succ_self _)) (.inl (by rw [yex]; exact List.mem_cons_self)) (fun x c e => by rw [ycl] at e; exact Nat.ne_of_lt (cellLt x c (hcl1 x c e)))
            fun p hp => by
              rw [List.append_nil, ypn] at hp
              exact Nat.ne_of_lt (pinLt p hp)
        have e9' : h9.get? s2.heap.objs.size = some { cls := .type "list", data := .seq (its ++ [yv]).toArray c9 } := by rw [e9]; simp
        refine ⟨m', hm, i + 1, ys ++ [y], its ++ [yv], H8, c9, I9.pins_of fun p hp => ?_, T.keep _ _ _ t8 fun b hb o e => sb9.extBut b o (Nat.ne_of_lt (fpLt b hb)) e, f8, rv3.append (.cons r8 .nil), w'⟩
        have : p = (s2.heap.objs.size, { cls := .type "list", data := .seq (its ++ [yv]).toArray c9 }) := by simpa using hp
        subst this
        refine ⟨e9', nD, ?_, ?_, fun v z => by cases z⟩
        · rw [yl]; exact Nat.ne_of_lt (Nat.lt_succ_self _)
        · rw [yfs]; exact stkNe _ (Nat.ne_of_gt I2.lt) (I2.nofs (Nat.le_refl _))
  exact codeAny_compStart_list (loop _ rfl) (T.self _ 0 _ _ _ (T.keep _ _ _ st2 fun b hb o e => hsb b o (Heap.get?_push_of_some _ e)) (loop _ rfl))
section
variable {X : Cx} {elt tg iter : Expr} {ifs : List Expr} {scope : Scope} {pos : Pos} {N : List Str} {k : Nat} {cap : List Nat} {wi : TI} {tt : TTg} {tc : TT} {te : TE}
theorem pe_compX {E : XK} (hc : X.calm = true) (S : CompOk scope X.env.scope N X.N k cap) (hi : PI X tg iter wi) (hg : ∀ cl C s H ex pn xe, PTg ((compCx X scope N cl C s H ex pn).wish xe) k tg tt) (ht : ∀ cl C s H ex pn xe, PTs ((compCx X scope N cl C s H ex pn).wish xe) ifs tc)
    (he : ∀ cl C s H ex pn xe, Passes (CXR X.prog X.w) ((compCx X scope N cl C s H ex pn).wish xe) E → PE ((compCx X scope N cl C s H ex pn).wish xe) elt te)
    (hst : X.stack = X.env :: X.outer) (hf : X.env.frame = some X.env.locals) (hex : X.ex = [])
    (hxe : ∀ x s, wpAny (model X.prog X.w) X.A (leaving X.env x) (fun _ s'' => CXR X.prog X.w X.outer X.H₀ X.s₀ E x s'') (fun x' s'' => CXR X.prog X.w X.outer X.H₀ X.s₀ E x' s'') s → X.xe x s) (hs : ∀ x, foldedSetIterable iter X.env x = pure x := by intro _; rfl) :
    PE X (.ListComp elt [⟨tg, iter, ifs, 0⟩] scope pos) (tComp wi tt tc te cap) := by
  intro pins s σ H Q I h
  obtain ⟨cl, hclos, hcl1, hcl2⟩ := clos_of (scope := scope) (env := X.env) fun y hy hf => I.ok.has y.1 (S.free y hy hf)
  rw [eval_ListComp]
  refine wpAny_comprehension_free (use := none) rfl hs hclos S.kind S.loc ?_
  refine comp_coreX hc hi hg ht he hst hf hex hxe S hcl1 hcl2 I h (fun D C s1 H' I1 B q => ?_) fun _ _ _ _ z => z
  obtain ⟨m, hm⟩ := B.ns
  exact ⟨m, hm, fun h' sb => ⟨.ref D, H', B.turn I1 sb, rfl, q⟩⟩
end
end L2
set_option Elab.async false
set_option linter.all false
set_option maxRecDepth 100000
set_option maxHeartbeats 1000000
namespace L2
open PySem PySem.Spec PyProof.Rows
section
variable {X : Cx} {elt tg iter : Expr} {ifs : List Expr} {scope : Scope} {pos : Pos} {N : List Str} {k : Nat} {cap : List Nat} {wi : TI} {tt : TTg} {tc : TT} {te : TE}
theorem ps_setCX {E : XK} {i : Nat} {y : Str} {py spos : Pos} (hc : X.calm = true) (S : CompOk scope X.env.scope N X.N k cap) (hN : X.N.Nodup) (hiy : X.N[i]? = some y) (hy : X.env.scope.names.lookup y = some .local) (hi : PI X tg iter wi)
    (hg : ∀ cl C s H ex pn xe, PTg ((compCx X scope N cl C s H ex pn).wish xe) k tg tt) (ht : ∀ cl C s H ex pn xe, PTs ((compCx X scope N cl C s H ex pn).wish xe) ifs tc)
    (he : ∀ cl C s H ex pn xe, Passes (CXR X.prog X.w) ((compCx X scope N cl C s H ex pn).wish xe) E → PE ((compCx X scope N cl C s H ex pn).wish xe) elt te)
    (hst : X.stack = X.env :: X.outer) (hf : X.env.frame = some X.env.locals) (hex : X.ex = [])
    (hxe : ∀ x s, wpAny (model X.prog X.w) X.A (leaving X.env x) (fun _ s'' => CXR X.prog X.w X.outer X.H₀ X.s₀ E x s'') (fun x' s'' => CXR X.prog X.w X.outer X.H₀ X.s₀ E x' s'') s → X.xe x s)
    (hsw : swapsWith (.ListComp elt [⟨tg, iter, ifs, 0⟩] scope pos) (some (.Name y py)) spos.line X.env = pure true := by rfl) (hs : ∀ x, foldedSetIterable iter X.env x = pure x := by intro _; rfl) :
    PS X (.Assign [.Name y py] (.ListComp elt [⟨tg, iter, ifs, 0⟩] scope pos) spos) (tAsg (tComp wi tt tc te cap) (gName i)) := by
  intro pins s σ H D I h
  obtain ⟨cl, hclos, hcl1, hcl2⟩ := clos_of (scope := scope) (env := X.env) fun y hy hf => I.ok.has y.1 (S.free y hy hf)
  rw [exec_Assign_Name_used _ _ _ _ hsw]
  refine wpAny_bind (wpAny_standAt (wpAny_bind ?_))
  show wpAny _ X.A (do let _ ← comprehension (.ListComp elt [⟨tg, iter, ifs, 0⟩] scope pos) scope X.env _ (newList []) false (eval iter X.env) (some (assign (.Name y py) X.env))) _ _ s
  refine wpAny_bind (wpAny_mono (wpAny_comprehension_free (use := some (assign (.Name y py) X.env)) (Q := fun _ s' => SP X pins D .next s') rfl hs hclos S.kind S.loc ?_) (fun _ s' hq => wpAny_pure (wpAny_pure hq)) fun _ _ e => e)
  refine comp_coreX hc hi hg ht he hst hf hex hxe S hcl1 hcl2 I h (fun Da C s1 H' I1 B q => ?_) fun _ _ _ _ z => z
  show wpAny _ X.A (assign (.Name y py) X.env (.ref Da)) _ _ _
  refine wpAny_assign_Name (store_ok2 (v := .ref Da) I1 hN hiy (.inl hy) rfl (fun s' I' z => ?_) (.inr hy))
  obtain ⟨a, hsb, ha⟩ := z
  have hCa : C ≠ a := by
    rcases ha with rfl | ha
    · exact B.ne
    · exact fun e => B.cells _ _ ha e.symm
  obtain ⟨m, hm⟩ := B.ns
  refine ⟨m, hm.sameBut hsb hCa, fun h' sb => ?_⟩
  exact ⟨_, H', I'.turned (t' := s'.toks) (fun b o hb e => sb.extBut b o hb e) B.un B.ne (.inr B.new) B.cells B.pins, q⟩
end
section
variable {X : Cx} {elt tg iter : Expr} {ifs : List Expr} {scope : Scope} {pos : Pos} {wi : TI} {tt : TTg} {tc : TT} {te : TE}
theorem pe_lcX {E : XK} (psc : Scope) (PN N : List Str) (k : Nat) (cap : List Nat) (hi : PI X tg iter wi) (hg : ∀ cl C s H ex pn xe, PTg ((compCx X scope N cl C s H ex pn).wish xe) k tg tt) (ht : ∀ cl C s H ex pn xe, PTs ((compCx X scope N cl C s H ex pn).wish xe) ifs tc)
    (he : ∀ cl C s H ex pn xe, Passes (CXR X.prog X.w) ((compCx X scope N cl C s H ex pn).wish xe) E → PE ((compCx X scope N cl C s H ex pn).wish xe) elt te)
    (hxe : ∀ x s, wpAny (model X.prog X.w) X.A (leaving X.env x) (fun _ s'' => CXR X.prog X.w X.outer X.H₀ X.s₀ E x s'') (fun x' s'' => CXR X.prog X.w X.outer X.H₀ X.s₀ E x' s'') s → X.xe x s := by intro _ _ h; exact h) (hst : X.stack = X.env :: X.outer := by rfl) (hf : X.env.frame = some X.env.locals := by rfl) (hex : X.ex = [] := by rfl) (hc : X.calm = true := by rfl) (h1 : X.env.scope = psc := by rfl) (h2 : X.N = PN := by rfl) (S : compOkB scope psc N PN k cap = true := by decide +kernel)
    (hs : ∀ x, foldedSetIterable iter X.env x = pure x := by intro _; rfl) :
    PE X (.ListComp elt [⟨tg, iter, ifs, 0⟩] scope pos) (tComp wi tt tc te cap) := pe_compX hc (by rw [h1, h2]; exact compOk_of S) hi hg ht he hst hf hex hxe hs
theorem ps_lcX {E : XK} {i : Nat} {y : Str} {py spos : Pos} (psc : Scope) (PN N : List Str) (k : Nat) (cap : List Nat) (hN : X.N.Nodup) (hiy : X.N[i]? = some y) (hy : X.env.scope.names.lookup y = some .local) (hi : PI X tg iter wi)
    (hg : ∀ cl C s H ex pn xe, PTg ((compCx X scope N cl C s H ex pn).wish xe) k tg tt) (ht : ∀ cl C s H ex pn xe, PTs ((compCx X scope N cl C s H ex pn).wish xe) ifs tc)
    (he : ∀ cl C s H ex pn xe, Passes (CXR X.prog X.w) ((compCx X scope N cl C s H ex pn).wish xe) E → PE ((compCx X scope N cl C s H ex pn).wish xe) elt te)
    (hxe : ∀ x s, wpAny (model X.prog X.w) X.A (leaving X.env x) (fun _ s'' => CXR X.prog X.w X.outer X.H₀ X.s₀ E x s'') (fun x' s'' => CXR X.prog X.w X.outer X.H₀ X.s₀ E x' s'') s → X.xe x s := by intro _ _ h; exact h) (hst : X.stack = X.env :: X.outer := by rfl) (hf : X.env.frame = some X.env.locals := by rfl) (hex : X.ex = [] := by rfl) (hc : X.calm = true := by rfl) (h1 : X.env.scope = psc := by rfl) (h2 : X.N = PN := by rfl) (S : compOkB scope psc N PN k cap = true := by decide +kernel)
    (hsw : swapsWith (.ListComp elt [⟨tg, iter, ifs, 0⟩] scope pos) (some (.Name y py)) spos.line X.env = pure true := by rfl) (hs : ∀ x, foldedSetIterable iter X.env x = pure x := by intro _; rfl) :
    PS X (.Assign [.Name y py] (.ListComp elt [⟨tg, iter, ifs, 0⟩] scope pos) spos) (tAsg (tComp wi tt tc te cap) (gName i)) := ps_setCX hc (by rw [h1, h2]; exact compOk_of S) hN hiy hy hi hg ht he hst hf hex hxe hsw hs
end
end L2
set_option Elab.async false
set_option linter.all false
set_option maxRecDepth 100000
set_option maxHeartbeats 1000000
namespace L2
open PySem PySem.Spec PyProof.Rows
section
variable {P : Program} {w : World} {K : PySem.W.Frag} {mg : Str → Option Value} {base : Heap}
end
section
variable {X : Cx} {E : XK}
end
end L2
set_option Elab.async false
set_option linter.all false
set_option maxRecDepth 100000
set_option maxHeartbeats 1000000
namespace L2
open PySem PySem.Spec PyProof.Rows
section
variable {X : Cx} {k n : Nat} {f C : Addr} {fd : FuncData} {ps fs : List Str} {sp : Sp} {x m : Str} {p pos apos : Pos} {e o : Expr} {es : List Expr} {ta : TE} {t : TA}
end
section
variable {X : Cx}
end
end L2
set_option Elab.async false
set_option linter.all false
set_option maxRecDepth 100000
set_option maxHeartbeats 1000000
namespace L2
open PySem PySem.Spec PyProof.Rows
end L2
set_option Elab.async false
set_option linter.all false
set_option maxRecDepth 100000
namespace L2
open PySem PySem.W PySem.Calls PyProof.Rows
def topRunT (tb : String → Option Builtin) (p : Program) (w : World) (n₀ : Nat) (ann : Option Value) : Nat → SharedT → Thread → Option SharedT
  | 0, _, _ => none
  | n + 1, s, t => match through t with
    | true => some s
    | false => match stepOk n₀ ann t with
      | false => none
      | true => match stepT (denote tb) p w s t with
        | some (s', t') => topRunT tb p w n₀ ann n s' t'
        | none => none
theorem topRun_of {tb : String → Option Builtin} {p : Program} {w : World} {n₀ : Nat} {ann : Option Value} : ∀ {n : Nat} {s s' : SharedT} {t : Thread}, topRunT tb p w n₀ ann n s t = some s' → topRun tb p w n₀ ann n s.abs t = some s'.abs
  | 0, _, _, _, h => by cases h
  | n + 1, s, s', t, h => by
    unfold topRunT at h
    unfold topRun
    cases he : through t with
    | true => rw [he] at h; cases h; rfl
    | false =>
      rw [he] at h
      cases hk : stepOk n₀ ann t with
      | false => rw [hk] at h; cases h
      | true =>
        rw [hk] at h
        cases hs : stepT (denote tb) p w s t with
        | none => rw [hs] at h; cases h
        | some r => obtain ⟨s₂, t₂⟩ := r; rw [hs] at h; rw [stepT_spec hs]; exact topRun_of h
noncomputable def topRunQ (p : Program) (w : World) (n₀ : Nat) (ann : Option Value) : Nat → SharedT → Thread → Option SharedT
  | 0, _, _ => none
  | n + 1, s, t => match through t with
    | true => some s
    | false => match PySem.W.Fast.tw6613529449190102663 n₀ ann t with
      | false => none
      | true => match PySem.W.Fast.tw10156331382660048174 (PySem.W.Fast.tw11892475500146522536 PySem.W.Fast.tw14364793385576792824) p w s t with
        | some (s', t') => topRunQ p w n₀ ann n s' t'
        | none => none
theorem topRunQ_eq {p : Program} {w : World} {n₀ : Nat} {ann : Option Value} : ∀ (n : Nat) (s : SharedT) (t : Thread), topRunQ p w n₀ ann n s t = topRunT treeTable p w n₀ ann n s t
  | 0, _, _ => rfl
  | n + 1, s, t => by
    unfold topRunQ topRunT
    rw [← PySem.W.Fast.te6613529449190102663, ← PySem.W.Fast.te10156331382660048174, ← PySem.W.Fast.te11892475500146522536, ← PySem.W.Fast.te14364793385576792824]
    cases through t with
    | true => rfl
    | false =>
      dsimp only
      cases stepOk n₀ ann t with
      | false => rfl
      | true =>
        dsimp only
        cases stepT (denote treeTable) p w s t with
        | none => rfl
        | some r => exact topRunQ_eq n r.1 r.2
def treeOf : List Obj → Nat → BT → BT
  | [], _, t => t
  | o :: l, n, t => treeOf l (n + 1) (t.ins n o)
noncomputable def boot_tree (P : Params) : BT := treeOf (boot_heap P).objs.toList 0 .nil
noncomputable def topLook {α : Type} (p q : Program) (loose : List Str) (Xt : Shared → Bool) (g0 : Bool) (Yf : Shared → α) (H : Heap) (s : Shared) :=
  ((staticsOk (importedModules p.main.body) H s.heap && namesBound p s.heap && gensDone s && laidKept H s.heap), PySem.W.Fast.tw4187177175401517315 q loose (importedModules p.main.body) Xt g0 s, Yf s)
theorem left_tree {p q : Program} {loose : List Str} {Xt : Shared → Bool} {α : Type} {Yf : Shared → α} {Ya : World → α} {N : Nat} {g0 : Bool} {H₀ : Params → Heap} {gs₀ : Array GenState} {d₀ : Drawn} {k₀ : Nat} {m₀ : Nat} {ann : Option Value} {M : Nat} {T₀ : Params → BT} {n₀ : Nat} {life : Life}
    (open_ : ∀ w : World, (fencedOpening treeTable p w N).map (fun s => (s.heap, s.gens, s.drawn, s.toks)) = some (H₀ w.params, gs₀, d₀, k₀))
    (size : ∀ w : World, ((H₀ w.params).isNs mainGlobals && gs₀.size == 0, (H₀ w.params).objs.size, (H₀ w.params).nsMap mainGlobals "__annotations__") = (true, m₀, ann))
    (tree : ∀ P : Params, absHeap (T₀ P) n₀ life = H₀ P)
    (run : ∀ (w : World) (os : OsState), (topRunQ p w m₀ ann M ⟨T₀ w.params, n₀, life, gs₀, d₀, k₀, os⟩ (topStub p)).map (fun r => topLook p q loose Xt g0 Yf (H₀ w.params) r.abs) = some (true, openGood q loose, Ya w))
    (le : Nat.ble M N = true) : LeftO p q loose Xt Yf Ya N g0 := fun w => by
  obtain ⟨⟨h, gs, d, k, os⟩, e, e'⟩ := Option.map_eq_some_iff.mp (open_ w)
  obtain ⟨rfl, rfl, rfl, rfl⟩ : h = H₀ w.params ∧ gs = gs₀ ∧ d = d₀ ∧ k = k₀ := by simpa using e'
  obtain ⟨z1, z2, z3⟩ : _ ∧ _ ∧ _ := by simpa only [Prod.mk.injEq] using size w
  obtain ⟨r, hr, hl⟩ := Option.map_eq_some_iff.mp (run w os)
  obtain ⟨l1, l2, l3⟩ : _ ∧ _ ∧ _ := by simpa only [topLook, ← PySem.W.Fast.te4187177175401517315, Prod.mk.injEq] using hl
  rw [topRunQ_eq] at hr
  have r2 := topRun_of hr
  have ea : SharedT.abs ⟨T₀ w.params, n₀, life, gs, d, k, os⟩ = ⟨H₀ w.params, gs, d, k, os⟩ := by
    unfold SharedT.abs
    rw [tree]
  rw [ea] at r2
  have r3 := topRun_mono (N - M) _ _ _ _ r2
  rw [show M + (N - M) = N by have := Nat.le_of_ble_eq_true le; omega] at r3
  have t : topFrom treeTable p w N ⟨H₀ w.params, gs, d, k, os⟩ = some r.abs := by
    unfold topFrom
    dsimp only
    rw [z1, z2, z3, r3]
    show (match staticsOk (importedModules p.main.body) (H₀ w.params) r.abs.heap && namesBound p r.abs.heap && gensDone r.abs && laidKept (H₀ w.params) r.abs.heap with | true => _ | false => _) = _
    rw [l1]
  unfold openEnds
  rw [e]
  show (topFrom treeTable p w N _).map _ = _
  rw [t]
  exact congrArg some (Prod.ext l2 l3)
end L2
set_option Elab.async false
set_option linter.all false
set_option maxRecDepth 100000
set_option maxHeartbeats 1000000
namespace L2
open PySem PySem.W PySem.Calls PyProof.Rows
def partOf (as : List Addr) (h : Heap) : Frag := as.filterMap fun a => (h.get? a).map fun o => (a, o)
theorem partOf_in (h : Heap) : ∀ as : List Addr, (partOf as h).In h
  | [], a, o, e => by cases e
  | b :: l, a, o, e => by
    unfold partOf at e
    rw [List.filterMap_cons] at e
    cases hb : h.get? b with
    | none => rw [hb] at e; exact partOf_in h l a o e
    | some x =>
      rw [hb] at e
      have e : List.lookup a ((b, x) :: l.filterMap fun a => (h.get? a).map fun o => (a, o)) = some o := e
      rw [List.lookup_cons] at e
      cases q : a == b with
      | true =>
        rw [q] at e
        have eab : a = b := eq_of_beq q
        have e : some x = some o := e
        rw [eab, hb, e]
      | false => rw [q] at e; exact partOf_in h l a o e
def posOf (s : Stmt) : Pos := match s with
  | .FunctionDef _ _ _ _ _ _ _ _ _ p => p
  | _ => ⟨0, 0, 0, 0⟩
def dfOf (K : Frag) : Value → Option (Option (List Value))
  | .none => some none
  | .ref T => match K.lookup T with
    | some ⟨_, _, .seq vs _, _⟩ => some (some vs.toList)
    | _ => none
  | _ => none
abbrev Sig := (Str × Str × Addr × List (Str × Addr) × Option (Option (List Value)) × Addr) × (Bool × Bool) × Arguments × FuncBody × Scope
def fnLook (K : Frag) (v : Option (Option Value)) (qual : Str) : Option Sig := match v with
  | some (some (.ref f)) => match K.lookup f with
    | some ⟨_, _, .func fd, _⟩ => some ((fd.name, fd.qualname, fd.globals, fd.closure, dfOf K fd.defaults, fd.builtins), (codeIn K fd.code qual, isFn K (.ref f)), fd.params, fd.body, fd.scope)
    | _ => none
  | _ => none
def sigW (x qual : Str) (st : Stmt) (df : Option (List Value)) : Sig := ((x, qual, mainGlobals, [], some df, builtinsNs), (true, true), defArgs st, .stmts (defBody st), defScope st)
theorem keep_fn {K : Frag} {f : Addr} {oc : Value} {od : Option Addr} {fd : FuncData} {sl : Array (Option Value)} (l : K.lookup f = some ⟨oc, od, .func fd, sl⟩) : keepIn K (.ref f) = true := by
  unfold keepIn
  simp only [l]
theorem fnLook_ex {K : Frag} {v : Option (Option Value)} {x qual : Str} {st : Stmt} {df : Option (List Value)} (e : fnLook K v qual = some (sigW x qual st df)) :
    ∃ (f : Addr) (oc : Value) (od : Option Addr) (dV kV doc pm : Value) (an : Option Addr) (cdv ct : Value) (sl : Array (Option Value)), v = some (some (.ref f)) ∧ K.lookup f = some ⟨oc, od, .func (fnOf x qual (defArgs st) (defBody st) (defScope st) dV kV doc pm an cdv ct), sl⟩ ∧
      codeIn K cdv qual = true ∧ isFn K (.ref f) = true ∧ dfOf K dV = some df := by
  unfold fnLook at e
  split at e
  · rename_i f
    split at e
    · rename_i oc od fd sl hl
      obtain ⟨nm, qn, ps, bd, sc, gl, cl, dV, kV, doc, pm, an, cd, ct, bl⟩ := fd
      injection e with e
      injection e with e1 e2
      injection e1 with a1 e1
      injection e1 with a2 e1
      injection e1 with a3 e1
      injection e1 with a4 e1
      injection e1 with a5 a6
      injection e2 with e3 e4
      injection e3 with b1 b2
      injection e4 with c1 e4
      injection e4 with c2 c3
      dsimp only at a1 a2 a3 a4 a5 a6 b1 b2 c1 c2 c3
      subst a1 a2 a3 a4 a6 c1 c2 c3
      exact ⟨f, oc, od, dV, kV, doc, pm, an, cd, ct, sl, rfl, hl, b1, b2, a5⟩
    · cases e
  · cases e
theorem dfOf_none {K : Frag} {v : Value} (e : dfOf K v = some none) : v = .none := by
  unfold dfOf at e
  split at e
  · rfl
  · split at e <;> cases e
  · cases e
theorem fnLook_fun {K : Frag} {v : Option (Option Value)} {x qual : Str} {st : Stmt} (e : fnLook K v qual = some (sigW x qual st none)) : ∃ f fd, v = some (some (.ref f)) ∧ Fun K x qual st f fd ∧ isFn K (.ref f) = true := by
  obtain ⟨f, oc, od, dV, kV, doc, pm, an, cdv, ct, sl, hv, l, c, i, d⟩ := fnLook_ex e
  obtain rfl := dfOf_none d
  exact ⟨f, _, hv, fun_mk l c (keep_fn l), i⟩
inductive Ky where
  | df (x : Str)
  | me (c m qual : Str)
def Ky.val (K : Frag) : Ky → Option (Option Value)
  | .df x => nsIn K mainGlobals x
  | .me c m _ => match nsIn K mainGlobals c with
    | some (some v) => findIn K v m
    | _ => none
def Ky.qual : Ky → Str
  | .df x => x
  | .me _ _ q => q
def Ky.nm : Ky → Str
  | .df x => x
  | .me _ m _ => m
def clsLook (K : Frag) (c : Str × List Str) : Option (Bool × Option (Option Value) × List (Option (Option Value))) := match nsIn K mainGlobals c.1 with
  | some (some (.ref C)) => some (plainGet K C Str.empty && hasDictIn K C && plainOver K C && makesIn K C && keepIn K (.ref C), findIn K (.ref C) "__setattr__", c.2.map fun f => findIn K (.ref C) f)
  | _ => none
def intLook (K : Frag) (x : Str) : Option Int := match nsIn K mainGlobals x with
  | some (some (.int v _)) => some v
  | _ => none
def strLook (K : Frag) (x : Str) : Option Str := match nsIn K mainGlobals x with
  | some (some (.str v _)) => some v
  | _ => none
structure Asked (β : Type) where
  ks : List (Ky × Stmt × Option (List Value))
  cs : List (Str × List Str) := []
  is : List (Str × Int) := []
  ss : List (Str × Str) := []
  bs : List Str := []
  xc : Frag → Bool := fun _ => true
  ext : Frag → β
  extW : World → β
section
variable {β : Type} (A : Asked β)
def Asked.look (K : Frag) := (A.ks.map fun k => fnLook K (k.1.val K) k.1.qual, A.cs.map (clsLook K), A.is.map fun x => intLook K x.1, A.ss.map fun x => strLook K x.1, A.bs.map fun x => nsIn K mainGlobals x, A.xc K, A.ext K)
def Asked.want (w : World) := (A.ks.map fun k => some (sigW k.1.nm k.1.qual k.2.1 k.2.2), A.cs.map fun c => some (true, some (some (Value.builtin "object.__setattr__")), c.2.map fun _ => some (none : Option Value)), A.is.map fun x => some x.2, A.ss.map fun x => some x.2, A.bs.map fun _ => some (none : Option Value), true, A.extW w)
def Asked.Ok (w : World) (K : Frag) : Prop := A.look K = A.want w
end
theorem map_at {α γ : Type} {l : List α} {f g : α → γ} (e : l.map f = l.map g) {i : Nat} {a : α} (h : l[i]? = some a) : f a = g a := by
  have z := congrArg (fun l => l[i]?) e
  simp only [List.getElem?_map, h, Option.map_some] at z
  injection z
section
variable {β : Type} {A : Asked β} {w : World} {K : Frag} {h : Heap} {mg : Str → Option Value}
theorem Asked.Ok.fn (e : A.Ok w K) {i : Nat} {k : Ky} {st : Stmt} {df : Option (List Value)} (hi : A.ks[i]? = some (k, st, df)) : fnLook K (k.val K) k.qual = some (sigW k.nm k.qual st df) := map_at (f := fun k : Ky × Stmt × Option (List Value) => fnLook K (k.1.val K) k.1.qual) (g := fun k => some (sigW k.1.nm k.1.qual k.2.1 k.2.2)) (congrArg Prod.fst e) hi
theorem Asked.Ok.defAt (e : A.Ok w K) (X : K.In h) (G : h.Ns mainGlobals mg) (i : Nat) {x : Str} {st : Stmt} {ps : List Str} (hi : A.ks[i]? = some (.df x, st, none))
    (hb : ∀ (kV doc pm : Value) (an : Option Addr) (cdv ct : Value) (us : List Value), us.length = ps.length → bindArgs (fnOf x x (defArgs st) (defBody st) (defScope st) .none kV doc pm an cdv ct) ⟨us, []⟩ = pure (ps.zip us)) : DefAt K mg x st ps := by
  obtain ⟨f, fd, hv, F, _⟩ := fnLook_fun (e.fn hi)
  exact ⟨f, fd, F, mg_of X G hv, F.binds hb⟩
theorem Asked.Ok.law (e : A.Ok w K) (X : K.In h) (G : h.Ns mainGlobals mg) (i : Nat) {x : Str} {st : Stmt} {fa : Addr} (hi : A.ks[i]? = some (.df x, st, none)) (hm : mg x = some (.ref fa)) :
    ∃ kV doc pm an cdv ct, Fun K x x st fa (fnOf x x (defArgs st) (defBody st) (defScope st) .none kV doc pm an cdv ct) := by
  obtain ⟨f, oc, od, dV, kV, doc, pm, an, cdv, ct, sl, hv, l, c, _, d⟩ := fnLook_ex (e.fn hi)
  obtain rfl := dfOf_none d
  have z := hm.symm.trans (mg_of X G hv)
  injection z with z
  injection z with z
  subst z
  exact ⟨kV, doc, pm, an, cdv, ct, fun_mk l c (keep_fn l)⟩
theorem Asked.Ok.int (e : A.Ok w K) (X : K.In h) (G : h.Ns mainGlobals mg) (i : Nat) {x : Str} {v : Int} (hi : A.is[i]? = some (x, v)) : ∃ t, mg x = some (.int v t) := by
  have z := map_at (f := fun x : Str × Int => intLook K x.1) (g := fun x => some x.2) (congrArg (fun p => p.2.2.1) e) hi
  unfold intLook at z
  split at z
  · rename_i u t hC
    injection z with z
    dsimp only at z hC
    subst z
    exact ⟨t, mg_of X G hC⟩
  · cases z
theorem Asked.Ok.str (e : A.Ok w K) (X : K.In h) (G : h.Ns mainGlobals mg) (i : Nat) {x : Str} {v : Str} (hi : A.ss[i]? = some (x, v)) : ∃ t, mg x = some (.str v t) := by
  have z := map_at (f := fun x : Str × Str => strLook K x.1) (g := fun x => some x.2) (congrArg (fun p => p.2.2.2.1) e) hi
  unfold strLook at z
  split at z
  · rename_i u t hC
    injection z with z
    dsimp only at z hC
    subst z
    exact ⟨t, mg_of X G hC⟩
  · cases z
theorem Asked.Ok.noneAt (e : A.Ok w K) (X : K.In h) (G : h.Ns mainGlobals mg) (i : Nat) {x : Str} (hi : A.bs[i]? = some x) : mg x = Option.none :=
  mg_none_of X G (map_at (f := fun x => nsIn K mainGlobals x) (g := fun _ => some (none : Option Value)) (congrArg (fun p => p.2.2.2.2.1) e) hi)
theorem Asked.Ok.exc (e : A.Ok w K) : A.xc K = true := congrArg (fun p => p.2.2.2.2.2.1) e
end
theorem walk_ex {l : OpenLaw} {n k : Nat} {q : Program} {loose : List Str} {XP : (Str → Option Value) → Heap → Prop} {d : DefRec} {Fc : World → Frag → Prop} {sp : Frag → Sp} {x nm : Str}
    (hn : l.most = some n) (hn2 : n ≤ sizeLine) (hdf : d.params.defaults = []) (hr : Room k callerA) (hnm : d.name = nm)
    (F : ∀ (w : World) (K : Frag) (mg : Str → Option Value) (fa : Addr) (h : Heap), Fc w K → K.In h → h.Ns mainGlobals mg → mg nm = some (.ref fa) →
      ∃ fd : FuncData, (∀ (s : Shared) (u : Value), BindsTo s fd ⟨[u], []⟩ [(x, u)]) ∧ ∀ base : Heap, K.In base → base.Ns mainGlobals mg → FnOk l.prog w K mg base CX0 k fa fd [x] (sp K))
    (hsp : ∀ (K : Frag) (H : Hp) (a : Addr) (ns : List Int), ns.length ≤ n → Only H → SqL K H a (ns.map V.int) → sp K [.ref a] H (fun v _ => v = .bl true) fun _ _ _ => False)
    (hCX : ∀ (H : Hp) (s : Shared) (e : Value) (s' : Shared), CX0 [] H s (fun _ _ _ => False) e s' → False) :
    WalkO q loose XP (fun w h => ∃ K : Frag, K.In h ∧ Fc w K) l.row.toRowW d [] (fun f vs => PySem.call f vs) := by
  refine Att.attach_call hn hdf fun w s₀ s₁ mg mb fa o pm cd doc a vs ns G Y ho hd hcd hmg hobj hints hlen hg => ?_
  obtain ⟨K, KX, fc⟩ := Y
  rw [hnm] at hmg
  obtain ⟨fd, hb, hF⟩ := F w K mg fa _ fc KX G.T.g hmg
  exact law_call KX G.T.g G.T.b G.T.builtins G.T.nolimit hg hobj hints (Nat.le_trans hlen hn2) hr hF hb (fun H hO hS => hsp K H a ns hlen hO hS) fun H e s' => hCX H s₁ e s'
end L2
set_option Elab.async false
set_option linter.all false
set_option maxRecDepth 100000
set_option maxHeartbeats 1000000
namespace L2
open PySem PySem.W PySem.Calls PyProof.Rows
section
variable {w : World} {K : Frag} {h : Heap} {mg : Str → Option Value} {x : Str}
end
end L2
set_option Elab.async false
set_option linter.all false
set_option maxRecDepth 100000
set_option maxHeartbeats 1000000
namespace L2
open PySem PySem.Spec PyProof.Rows
end L2
set_option Elab.async false
set_option linter.all false
set_option maxRecDepth 100000
set_option maxHeartbeats 1000000
namespace L2
open PySem PySem.Spec PyProof.Rows
theorem for_str {z : Str} {g : TG} {tb : TS} {D : Ends} {σ : St} {H : Hp} (Pv : Nat → St → Hp → Prop) (h0 : Pv 0 σ H)
    (hs : ∀ i c σ H, z.cps[i]? = some c → Pv i σ H → g (.str ⟨#[c]⟩) σ H fun σ2 H2 => tb { D with nx := Pv (i + 1), ct := Pv (i + 1), bk := D.nx } σ2 H2) (hd : ∀ σ H, Pv z.cps.size σ H → D.nx σ H) :
    ∃ W : Nat → Nat → St → Hp → Prop, (∃ m, W 0 m σ H) ∧ ∀ i m σ H, W i m σ H →
      ((Its z).stop i H ∧ D.nx σ H) ∨ ((Its z).go i H ∧ ∃ N : St → Hp → Prop, (∀ σ' H', N σ' H' → ∃ m', m' < m ∧ W (i + 1) m' σ' H') ∧ ∀ x H', (Its z).yld i H x H' → g x σ H' fun σ2 H2 => tb { D with nx := N, ct := N, bk := D.nx } σ2 H2) := by
  refine ⟨fun i m σ H => m = z.cps.size - i ∧ i ≤ z.cps.size ∧ Pv i σ H, ⟨z.cps.size, by simp, Nat.zero_le _, h0⟩, ?_⟩
  rintro i m σ H ⟨rfl, hi, p⟩
  by_cases hlt : i < z.cps.size
  · refine .inr ⟨hlt, Pv (i + 1), fun σ' H' p' => ⟨z.cps.size - (i + 1), by omega, rfl, hlt, p'⟩, fun x H' y => ?_⟩
    obtain ⟨rfl, c, hc, rfl⟩ := y
    exact hs i c σ _ hc p
  · have e : i = z.cps.size := by omega
    subst e
    exact .inl ⟨rfl, hd σ H p⟩
end L2
set_option Elab.async false
set_option linter.all false
set_option maxRecDepth 100000
set_option maxHeartbeats 1000000
namespace L2
open PySem PySem.Spec PyProof.Rows
section
variable {X : Cx} {pos : Pos}
end
section
variable {X : Cx} {pins : List (Addr × Obj)} {σ : St} {H : Hp} {s : Shared}
end
section
variable {X : Cx}
end
end L2
set_option Elab.async false
set_option linter.all false
set_option maxRecDepth 100000
set_option maxHeartbeats 1000000
namespace L2
open PySem PySem.Spec PyProof.Rows Builtin Builtin.Str
def rep1 (x y z : Str) : Str := if ((occurrences x y 0 x.length 1).isEmpty || (y.length == 0 && z.length == 0)) = true then x else glued z (partsBetween x (occurrences x y 0 x.length 1) y.length)
theorem gives_replace1 (x y z : Str) (t u v w : Tok) (h0 : (u == 0 || v == 0) = false) (huv : (u == v) = false) (hyz : (y == z) = false) (hl : tooLong (x.length + (occurrences x y 0 x.length 1).length * z.length) = false) :
    Gives («str.replace» ⟨[.str x t, .str y u, .str z v, .int 1 w], []⟩) (if ((occurrences x y 0 x.length 1).isEmpty || (y.length == 0 && z.length == 0)) = true then .val (.str x t) else .str (glued z (partsBetween x (occurrences x y 0 x.length 1) y.length))) := by
  show Gives (if ((occurrences x y 0 x.length 1).isEmpty || (y.length == 0 && z.length == 0)) = true then (do rule "str.replace.nothing"; ret (.str x t)) else
          (do let same ← isSame (.str y u) (.str z v)
              if same = true then (do rule "str.replace.old-is-new"; ret (.str x t)) else
              if tooLong (x.length + (occurrences x y 0 x.length 1).length * z.length) = true then unsupported "str.replace:memory" else
              retStr (glued z (partsBetween x (occurrences x y 0 x.length 1) y.length)))) _
  cases hc : ((occurrences x y 0 x.length 1).isEmpty || (y.length == 0 && z.length == 0))
  · rw [isSame_str_other y z u v h0 huv hyz, hl]
    exact .of_eq rfl
  · exact .rule (.of_eq rfl)
section
variable {prog : Program} {w : World} {A : Around} {E : Value → Shared → Prop} {s : Shared} {x y z : Str} {t u v k : Tok} {Q : Value → Shared → Prop}
theorem call_replace1 (hu : u ≠ 0) (hv : v ≠ 0) (huv : u ≠ v) (hyz : (y == z) = false) (hb : x.length ≤ 100000) (hz : z.length ≤ 100) (hr : (rep1 x y z).length ≤ sizeLine)
    (hq : ∀ t' k, Q (.str (rep1 x y z) t') { s with toks := k }) : wpAny (model prog w) A (call (.builtin "str.replace") [.str x t, .str y u, .str z v, .int 1 k]) Q E s := by
  have hl : tooLong (x.length + (occurrences x y 0 x.length 1).length * z.length) = false := by
    have h1 := StrLaws.occ_length_le x y 0 x.length 1
    have h2 : (occurrences x y 0 x.length 1).length * z.length ≤ 1 * 100 := Nat.mul_le_mul h1 hz
    unfold tooLong
    rw [sizeLine_eq]
    exact decide_eq_false (by omega)
  refine call_gives F.slot_str_replace (typeIs_str _ _ _) F.entry_str_replace (F.args_str_replace_4 _ _ _ _) (gives_replace1 x y z t u v k (by simp [hu, hv]) (by simp [huv]) hyz hl) ?_
  unfold rep1 at hq hr
  cases hc : ((occurrences x y 0 x.length 1).isEmpty || (y.length == 0 && z.length == 0))
  · rw [hc] at hq hr
    simp only [Bool.false_eq_true, if_false] at hq hr ⊢
    exact ⟨hr, hq _ _⟩
  · rw [hc] at hq
    simp only [if_true] at hq ⊢
    exact hq t s.toks
end
section
variable {X : Cx}
def PCs (X : Cx) (es : List Expr) (zs : List Str) : Prop := ∀ (pos' : Pos) (E : Value → Shared → Prop) (s : Shared) (Q : List Value → Shared → Prop), (∀ (its : List Value) (k : Nat), Paired (fun z v => ∃ t, v = Value.str z t ∧ s.toks ≤ t) zs its → s.toks ≤ k → Q its { s with toks := k }) → wpAny (model X.prog X.w) X.A (spliced (backTo pos' (starEach es X.env))) Q E s
theorem pcs_nil : PCs X [] [] := fun pos' E s Q h => Calls.spliced_nil (h [] s.toks .nil (Nat.le_refl _))
theorem pcs_cons {z : Str} {j : Nat} {p : Pos} {es : List Expr} {zs : List Str} (h : PCs X es zs) (hs : starEach (.Constant (.str z) j p :: es) X.env = (false, eval (.Constant (.str z) j p) X.env) :: starEach es X.env := by rfl) : PCs X (.Constant (.str z) j p :: es) (z :: zs) := by
  intro pos E s Q h'
  rw [hs]
  show wpAny _ _ (spliced ((false, eval _ X.env) :: backTo pos (starEach es X.env))) _ _ s
  refine Calls.spliced_cons (Calls.Constant_str ?_)
  refine h pos E _ _ fun its k pr le => ?_
  have le' : s.toks + 1 ≤ k := le
  exact h' _ k (.cons ⟨_, rfl, Nat.le_refl _⟩ (Paired.mapP pr fun _ _ ⟨t, e, q⟩ => ⟨t, e, by have : s.toks + 1 ≤ t := q; omega⟩)) (by omega)
theorem ld_var {pins : List (Addr × Obj)} {s : Shared} {σ : St} {H : Hp} {E : Value → Shared → Prop} {i : Nat} {x : Str} {pos : Pos} {v : V} {Q : Value → Shared → Prop} (I : Inv X pins σ H s) (hN : X.N[i]? = some x) (hv : Vis X.env.scope x) (e : σ[i]? = some (some v)) (h : ∀ u, RelV v u → Q u s)
    (hd : (x == ("__debug__" : Str)) = false := by decide) (hcd : (x == ("__classdict__" : Str)) = false := by decide) : wpAny (model X.prog X.w) X.A (eval (.Name x pos) X.env) Q E s := by
  obtain ⟨m, hn, hl⟩ := I.loc
  obtain ⟨u, r, l⟩ := hl i x v hN e hv
  rcases l with ⟨hk, hm⟩ | ⟨hk, c, hc, hcell⟩
  · exact wpAny_Name (wpAny_loadName_local I.ok.kind hk hn hm (h u r)) hd
  · rcases hk with hk | hk
    · exact wpAny_Name (wpAny_loadName_cell I.ok.kind hk hc hcell (h u r)) hd
    · exact wpAny_Name (wpAny_loadName_free I.ok.kind hk hc hcell (h u r) hcd) hd
def tIfRep (i o : Nat) (c : Int) (y : Str) (zs : List Str) (tix : TE) : TS := fun D σ H => ∃ z, σ[i]? = some (some (.int z)) ∧ (z = c → ∃ x, σ[o]? = some (some (.str x)) ∧ tix σ H fun v H1 => ∃ (n : Nat) (zz : Str), v = .int n ∧ zs[n]? = some zz ∧ (y == zz) = false ∧ x.length ≤ 100000 ∧ zz.length ≤ 100 ∧ (rep1 x y zz).length ≤ sizeLine ∧ D.rt (.str (rep1 x y zz)) H1) ∧ (z ≠ c → D.nx σ H)
theorem ps_ifRep {i o : Nat} {kx ox : Str} {c : Int} {y : Str} {es : List Expr} {zs : List Str} {ix : Expr} {tix : TE} {j1 j2 j3 : Nat} {p1 p2 p3 p4 p5 p6 p7 p8 p9 p10 apos cpos : Pos} (hi : X.N[i]? = some kx) (hvi : Vis X.env.scope kx) (ho : X.N[o]? = some ox) (hvo : Vis X.env.scope ox) (hcs : PCs X es zs) (hix : PE X ix tix) (hs : PlainIx ix) (hz : zs.length ≤ 100)
    (hd1 : (kx == ("__debug__" : Str)) = false := by decide) (hcd1 : (kx == ("__classdict__" : Str)) = false := by decide) (hd2 : (ox == ("__debug__" : Str)) = false := by decide) (hcd2 : (ox == ("__classdict__" : Str)) = false := by decide)
    (hbase : attributeBase (.Name ox p4) "replace" X.env (eval (.Name ox p4) X.env) = eval (.Name ox p4) X.env := by rfl)
    (hfew : ((backTo cpos (starEach [.Constant (.str y) j2 p5, .Subscript (.List es p6) ix p7, .Constant (.int 1) j3 p8] X.env)).all (fun x => !x.1) && (backToKw cpos (keywordEach [] X.env)).all (fun x => x.1.isSome)
      && decide (([.Constant (.str y) j2 p5, .Subscript (.List es p6) ix p7, .Constant (.int 1) j3 p8] : List Expr).length + ([] : List Keyword).length + (if ([] : List Keyword).isEmpty then 0 else 1) < 30)) = true := by rfl)
    (hline : (apos.endLine == cpos.line) = true := by rfl)
    (htr : backTo cpos (starEach [.Constant (.str y) j2 p5, .Subscript (.List es p6) ix p7, .Constant (.int 1) j3 p8] X.env) = [(false, eval (.Constant (.str y) j2 p5) X.env), (false, eval (.Subscript (.List es p6) ix p7) X.env), (false, eval (.Constant (.int 1) j3 p8) X.env)] := by rfl) :
    PS X (.If (.Compare (.Name kx p1) [.Eq] [.Constant (.int c) j1 p2] p3) [.Return (some (.Call (.Attribute (.Name ox p4) "replace" apos) [.Constant (.str y) j2 p5, .Subscript (.List es p6) ix p7, .Constant (.int 1) j3 p8] [] cpos)) p9] [] p10) (tIfRep i o c y zs tix) := by
  intro pins s σ H D I h
  obtain ⟨z, ez, h1, h2⟩ := h
  refine wpAny_If (wpAny_isTrue_Compare1 (ld_var I hi hvi ez (fun u ru => ?_) hd1 hcd1) (nobehind _ (by decide) (by decide)))
  obtain ⟨t, rfl⟩ := ru
  refine wpAny_Constant_int (eq_int (wpAny_truthy_bool ?_))
  have I1 : Inv X pins σ H { s with toks := s.toks + 1 } := I.tok _
  cases hb : (z == c) with
  | false => exact wpAny_execs_nil ⟨σ, H, I1, h2 (by simpa using hb)⟩
  | true =>
    obtain ⟨x, ex, h3⟩ := h1 (by simpa using hb)
    refine wpAny_execs_cons (wpAny_Return_some (wpAny_Call_method_late hbase hfew hline htr (ld_var I1 ho hvo ex (fun u ru => ?_) hd2 hcd2)))
    obtain ⟨tx, rfl⟩ := ru
    refine ⟨"str", "str.replace", PySem.F.plainAttrs_str, PySem.F.slot_str_replace, PySem.F.type_str_replace, typeIs_str _ _ _, (fun a e => by cases e), ?_⟩
    refine Calls.callWith_builtin rfl (Calls.evalArgs_plain (Calls.spliced_cons (Calls.Constant_str ?_)))
    refine Calls.spliced_cons (Subscript_ (wpAny_List_spliced (hcs _ _ _ _ fun its k pr le => ⟨?_, ?_⟩)))
    · rw [← pr.length]; exact Nat.le_trans hz (small (m := 1000) (by omega))
    have s1h : ∀ b o, s.heap.get? b = some o → (s.heap.push { cls := .type "list", data := .seq its.toArray }).get? b = some o := fun b o e => Heap.get?_push_of_some _ e
    have I2 : Inv X pins σ H { s with heap := s.heap.push { cls := .type "list", data := .seq its.toArray }, toks := k } := I.kept s1h
    have here : (s.heap.push { cls := .type "list", data := .seq its.toArray }).get? s.heap.objs.size = some { cls := .type "list", data := .seq its.toArray } := Heap.get?_push_size _ rfl
    have I3 := I2.pinned (fp := [s.heap.objs.size]) (fun b hb => by rw [List.mem_singleton.mp hb]; exact I.fpOk (Nat.le_refl _) (I.hok.fresh (Nat.le_refl _))) (fun b hb => by
      rw [List.mem_singleton.mp hb]
      exact ⟨_, here, fun v e => by cases e⟩)
    refine thn (hix _ _ σ H _ I3 h3) fun iv s3 hm0 => ?_
    obtain ⟨v, H1, I4, rv, n, zz, rfl, hn, hyz, hx, hzz, hr, q⟩ := hm0
    obtain ⟨ti, rfl⟩ := rv
    have pin : s3.heap.get? s.heap.objs.size = some { cls := .type "list", data := .seq its.toArray } := (I4.pin (s.heap.objs.size, { cls := .type "list", data := .seq its.toArray }) (by
      refine List.mem_append_right _ (List.mem_append_right _ ?_)
      unfold pinsAt
      simp [here])).1
    have il : s3.heap.IsList s.heap.objs.size its.toArray := ⟨_, pin, rfl, _, rfl⟩
    obtain ⟨it, hit, tz, rfl, htz⟩ := L2.Paired.at pr hn
    have nl : n < 100 := by have := (List.getElem?_eq_some_iff.mp hn).1; omega
    refine item_listR il (by omega) (by omega) (by simpa using hit) ?_ (hs _ _)
    refine Calls.spliced_cons (wpAny_Constant_int (Calls.spliced_nil ?_))
    have I5 := I4.unpinned
    have tz' : s.toks + 1 + 1 ≤ tz := htz
    have hu : s.toks + 1 ≠ 0 := by omega
    have hv : tz ≠ 0 := fun e => by
      rw [e] at tz'
      exact absurd tz' (Nat.not_succ_le_zero _)
    have huv : s.toks + 1 ≠ tz := fun e => by
      rw [← e] at tz'
      exact absurd tz' (Nat.not_succ_le_self _)
    exact call_replace1 hu hv huv hyz hx hzz hr fun t' k' => ⟨.str (rep1 x y zz), σ, H1, I5.tok _, ⟨_, rfl⟩, q⟩
end
section
variable {X : Cx} {K : PySem.W.Frag}
theorem call_isiEK (hK : X.K = K) : CallR X (.builtin "isinstance") (fun xs H Q => ∃ e C D b, xs = [.ref e, .ref D] ∧ H e = some (xcO e C) ∧ XcK K C ∧ PySem.W.kitOne K (.ref C) (.ref D) = some b ∧ Q (.bl b) H) := by subst hK; exact call_isiE
theorem call_isiVK {T : String} (hK : X.K = K) : CallR X (.builtin "isinstance") (fun xs H Q => ∃ e C b, xs = [.ref e, .ty T] ∧ H e = some (xcO e C) ∧ XcK K C ∧ PySem.W.kitOne K (.ref C) (.type T) = some b ∧ Q (.bl b) H) := by subst hK; exact call_isiV
end
end L2
set_option Elab.async false
set_option linter.all false
set_option maxRecDepth 100000
set_option maxHeartbeats 4000000
namespace L2
open PySem PySem.Spec PyProof.Rows
inductive Lits : List Expr → List Str → Prop where
  | nil : Lits [] []
  | cons {z : Str} {p : Pos} {es : List Expr} {zs : List Str} (h : Lits es zs) : Lits (.Constant (.str z) 0 p :: es) (z :: zs)
def tLits (zs : List Str) : TA := fun _ H Q => Q (zs.map V.str) H
theorem pa_lits {X : Cx} {es : List Expr} {zs : List Str} (h : Lits es zs) : PA X es (tLits zs) := by
  induction h with
  | nil => exact pa_nil
  | @cons z p es zs _ ih => exact pa_cons (e := .Constant (.str z) 0 p) (es := es) (te := tC _) pe_str ih rfl
theorem pe_strs {X : Cx} {es : List Expr} {zs : List Str} {pos : Pos} (h : Lits es zs) : PE X (.List es pos) (tLst (tLits zs)) := pe_lst (pa_lits h)
structure QA (X : Cx) (es : List Expr) (t : TA) : Prop where
  h : PA X es t
theorem qa_nil {X : Cx} : QA X [] tNil := ⟨pa_nil⟩
theorem qa_cons {X : Cx} {e : Expr} {es : List Expr} {te : TE} {t : TA} (he : PE X e te) (hr : QA X es t) (hs : starEach (e :: es) X.env = (false, eval e X.env) :: starEach es X.env := by rfl) : QA X (e :: es) (tCons te t) := ⟨pa_cons he hr.h hs⟩
theorem pe_lstQ {X : Cx} {es : List Expr} {t : TA} {pos : Pos} (h : QA X es t) : PE X (.List es pos) (tLst t) := pe_lst h.h
theorem pcs_lits {X : Cx} {es : List Expr} {zs : List Str} (h : Lits es zs) : PCs X es zs := by
  induction h with
  | nil => exact pcs_nil
  | @cons z p es zs _ ih => exact pcs_cons ih rfl
def putL (s : Stmt) (L : List Expr) : Stmt := match s with
  | .If t [.Assign tg (.Subscript (.List _ p) i q) r] o u => .If t [.Assign tg (.Subscript (.List L p) i q) r] o u
  | .If t [.Assign tg (.List _ p) r, s2] o u => .If t [.Assign tg (.List L p) r, s2] o u
  | s => s
def getL (s : Stmt) : List Expr := match s with
  | .If _ [.Assign _ (.Subscript (.List l _) _ _) _] _ _ => l
  | .If _ [.Assign _ (.List l _) _, _] _ _ => l
  | _ => []
def stN (s : Stmt) (k : Nat) : Stmt := (defBody s).getD k (.Pass ⟨0, 0, 0, 0⟩)
end L2
set_option Elab.async false
set_option linter.all false
set_option maxRecDepth 100000
set_option maxHeartbeats 4000000
namespace L2
open PySem PySem.Spec PyProof.Rows
def isL (c : Nat) : Bool := decide (97 ≤ c) && decide (c ≤ 122)
def isG (c : Nat) : Bool := decide (48 ≤ c) && decide (c ≤ 57)
structure NameL (l : List Nat) : Prop where
  one : 1 ≤ l.length
  few : l.length ≤ 8
  all : ∀ c ∈ l, isL c = true
structure NumL (l : List Nat) : Prop where
  one : 1 ≤ l.length
  few : l.length ≤ 9
  all : ∀ c ∈ l, isG c = true
  lead : l = [48] ∨ ∀ r, l ≠ 48 :: r
def wL (ws : List (List Nat)) : List Nat := (ws.map (32 :: ·)).flatten
theorem wL_cons (w : List Nat) (ws : List (List Nat)) : wL (w :: ws) = 32 :: (w ++ wL ws) := rfl
end L2
set_option Elab.async false
set_option linter.all false
set_option maxRecDepth 100000
set_option maxHeartbeats 4000000
namespace L2
open PySem PySem.Spec PyProof.Rows
end L2
set_option Elab.async false
set_option linter.all false
set_option maxRecDepth 100000
set_option maxHeartbeats 4000000
namespace L2
open PySem PySem.Spec PyProof.Rows
inductive Ag where
  | t0 | t1 | nm (k : Nat) | sg | zr | dg (k : Nat) | bl | wn (k : Nat) | sc | dead
  deriving DecidableEq
def stepG : Ag → Nat → Ag
  | .t0, c => if isL c = true then .nm 1 else .dead
  | .t1, c => if isL c = true then .nm 1 else .dead
  | .nm k, c => if isL c = true then (if k < 8 then .nm (k + 1) else .dead) else if c = 43 then .sg else if c = 45 then .sg else .dead
  | .sg, c => if c = 48 then .zr else if isG c = true then .dg 1 else .dead
  | .zr, c => if c = 32 then .bl else if c = 59 then .sc else .dead
  | .dg k, c => if isG c = true then (if k < 9 then .dg (k + 1) else .dead) else if c = 32 then .bl else if c = 59 then .sc else .dead
  | .bl, c => if isL c = true then .wn 1 else .dead
  | .wn k, c => if isL c = true then (if k < 8 then .wn (k + 1) else .dead) else if c = 32 then .bl else if c = 59 then .sc else .dead
  | .sc, c => if c = 32 then .t1 else .dead
  | .dead, _ => .dead
def runG (q : Ag) (l : List Nat) : Ag := l.foldl stepG q
def accG : Ag → Bool
  | .t0 => true | .zr => true | .dg _ => true | .wn _ => true | _ => false
def midG : Ag → Bool
  | .zr => true | .dg _ => true | .wn _ => true | _ => false
theorem rung_app (q : Ag) (a b : List Nat) : runG q (a ++ b) = runG (runG q a) b := List.foldl_append
theorem rung_cons (q : Ag) (c : Nat) (l : List Nat) : runG q (c :: l) = runG (stepG q c) l := rfl
theorem rung_dead : ∀ l, runG .dead l = .dead
  | [] => rfl
  | _ :: l => rung_dead l
theorem midG_acc {q : Ag} (h : midG q = true) : accG q = true := by cases q <;> first | rfl | cases h
theorem midG_32 {q : Ag} (h : midG q = true) : stepG q 32 = .bl := by cases q <;> first | rfl | (cases h; done)
theorem midG_59 {q : Ag} (h : midG q = true) : stepG q 59 = .sc := by cases q <;> first | rfl | (cases h; done)
theorem midG_10 {q : Ag} (h : midG q = true) : stepG q 10 = .dead := by cases q <;> first | rfl | (cases h; done)
theorem midG_44 {q : Ag} (h : midG q = true) : stepG q 44 = .dead := by cases q <;> first | rfl | (cases h; done)
theorem rung_nm : ∀ (l : List Nat) (k : Nat), (∀ c ∈ l, isL c = true) → k + l.length ≤ 8 → runG (.nm k) l = .nm (k + l.length)
  | [], _, _, _ => rfl
  | c :: l, k, h, hk => by
    have hk' : k + (l.length + 1) ≤ 8 := hk
    rw [rung_cons]
    have e : stepG (.nm k) c = .nm (k + 1) := by
      show (if isL c = true then (if k < 8 then Ag.nm (k + 1) else .dead) else _) = _
      rw [if_pos (h c List.mem_cons_self), if_pos (by omega)]
    rw [e, rung_nm l (k + 1) (fun d hd => h d (List.mem_cons_of_mem _ hd)) (by omega), List.length_cons]
    congr 1; omega
theorem rung_wn : ∀ (l : List Nat) (k : Nat), (∀ c ∈ l, isL c = true) → k + l.length ≤ 8 → runG (.wn k) l = .wn (k + l.length)
  | [], _, _, _ => rfl
  | c :: l, k, h, hk => by
    have hk' : k + (l.length + 1) ≤ 8 := hk
    rw [rung_cons]
    have e : stepG (.wn k) c = .wn (k + 1) := by
      show (if isL c = true then (if k < 8 then Ag.wn (k + 1) else .dead) else _) = _
      rw [if_pos (h c List.mem_cons_self), if_pos (by omega)]
    rw [e, rung_wn l (k + 1) (fun d hd => h d (List.mem_cons_of_mem _ hd)) (by omega), List.length_cons]
    congr 1; omega
theorem rung_dg : ∀ (l : List Nat) (k : Nat), (∀ c ∈ l, isG c = true) → k + l.length ≤ 9 → runG (.dg k) l = .dg (k + l.length)
  | [], _, _, _ => rfl
  | c :: l, k, h, hk => by
    have hk' : k + (l.length + 1) ≤ 9 := hk
    rw [rung_cons]
    have e : stepG (.dg k) c = .dg (k + 1) := by
      show (if isG c = true then (if k < 9 then Ag.dg (k + 1) else .dead) else _) = _
      rw [if_pos (h c List.mem_cons_self), if_pos (by omega)]
    rw [e, rung_dg l (k + 1) (fun d hd => h d (List.mem_cons_of_mem _ hd)) (by omega), List.length_cons]
    congr 1; omega
def ahg (q : Ag) : Prop := q = .t0 ∨ q = .t1
theorem rung_name {q : Ag} (hq : ahg q) {l : List Nat} (h : NameL l) : ∃ k, runG q l = .nm k ∧ 1 ≤ k ∧ k ≤ 8 := by
  obtain ⟨h1, h2, h3⟩ := h
  cases l with
  | nil => simp at h1
  | cons c l =>
    have h2' : l.length + 1 ≤ 8 := h2
    rw [rung_cons]
    have e : stepG q c = .nm 1 := by rcases hq with rfl | rfl <;> exact if_pos (h3 c List.mem_cons_self)
    rw [e, rung_nm l 1 (fun d hd => h3 d (List.mem_cons_of_mem _ hd)) (by omega)]
    exact ⟨_, rfl, by omega, by omega⟩
theorem rung_way {l : List Nat} (h : NameL l) : midG (runG .bl l) = true := by
  obtain ⟨h1, h2, h3⟩ := h
  cases l with
  | nil => simp at h1
  | cons c l =>
    have h2' : l.length + 1 ≤ 8 := h2
    rw [rung_cons]
    have e : stepG .bl c = .wn 1 := if_pos (h3 c List.mem_cons_self)
    rw [e, rung_wn l 1 (fun d hd => h3 d (List.mem_cons_of_mem _ hd)) (by omega)]
    rfl
theorem rung_num {l : List Nat} (h : NumL l) : midG (runG .sg l) = true := by
  obtain ⟨h1, h2, h3, h4⟩ := h
  cases l with
  | nil => simp at h1
  | cons c l =>
    have h2' : l.length + 1 ≤ 9 := h2
    by_cases c0 : c = 48
    · subst c0
      rcases h4 with h4 | h4
      · injection h4 with _ h4
        subst h4
        rfl
      · exact absurd rfl (h4 l)
    · rw [rung_cons]
      have e : stepG .sg c = .dg 1 := by
        show (if c = 48 then Ag.zr else if isG c = true then .dg 1 else .dead) = _
        rw [if_neg c0, if_pos (h3 c List.mem_cons_self)]
      rw [e, rung_dg l 1 (fun d hd => h3 d (List.mem_cons_of_mem _ hd)) (by omega)]
      rfl
theorem rung_ways : ∀ (ws : List (List Nat)) (q : Ag), midG q = true → (∀ m ∈ ws, NameL m) → midG (runG q (wL ws)) = true
  | [], _, h, _ => h
  | m :: ms, q, h, hm => by
    rw [wL_cons, rung_cons, midG_32 h, rung_app]
    exact rung_ways ms _ (rung_way (hm m List.mem_cons_self)) fun x hx => hm x (List.mem_cons_of_mem _ hx)
structure PartL (p : List Nat) : Prop where
  ex : ∃ nm s d ws, NameL nm ∧ (s = 43 ∨ s = 45) ∧ NumL d ∧ (∀ w ∈ ws, NameL w) ∧ p = nm ++ s :: (d ++ wL ws)
theorem rung_sign {k : Nat} {s : Nat} (h : s = 43 ∨ s = 45) : stepG (.nm k) s = .sg := by rcases h with rfl | rfl <;> rfl
theorem rung_part {q : Ag} (hq : ahg q) {p : List Nat} (h : PartL p) : midG (runG q p) = true := by
  obtain ⟨nm, s, d, ws, h1, h2, h3, h4, rfl⟩ := h.ex
  obtain ⟨k, ek, _⟩ := rung_name hq h1
  rw [rung_app, ek, rung_cons, rung_sign h2, rung_app]
  exact rung_ways ws _ (rung_num h3) h4
def preG (ps : List (List Nat)) : List Nat := (ps.map (· ++ [59, 32])).flatten
theorem rung_pre : ∀ (ps : List (List Nat)) (q : Ag), ahg q → (∀ p ∈ ps, PartL p) → ahg (runG q (preG ps))
  | [], _, h, _ => h
  | p :: ps, q, h, hp => by
    have e : preG (p :: ps) = p ++ 59 :: 32 :: preG ps := by
      show (p ++ [59, 32]) ++ preG ps = _
      rw [List.append_assoc]; rfl
    rw [e, rung_app, rung_cons, midG_59 (rung_part h (hp p List.mem_cons_self)), rung_cons]
    exact rung_pre ps .t1 (.inr rfl) fun x hx => hp x (List.mem_cons_of_mem _ hx)
theorem flatG_mid : ∀ (as : List (List Nat)) (p : List Nat) (bs : List (List Nat)), flatL [59, 32] (as ++ p :: bs) = preG as ++ flatL [59, 32] (p :: bs)
  | [], _, _ => rfl
  | [a], p, bs => by
    show a ++ [59, 32] ++ flatL [59, 32] (p :: bs) = (a ++ [59, 32]) ++ [] ++ flatL [59, 32] (p :: bs)
    rw [List.append_nil]
  | a :: b :: as, p, bs => by
    show a ++ [59, 32] ++ flatL [59, 32] (b :: as ++ p :: bs) = (a ++ [59, 32]) ++ preG (b :: as) ++ flatL [59, 32] (p :: bs)
    rw [flatG_mid (b :: as) p bs, List.append_assoc, List.append_assoc, List.append_assoc]
theorem flatG_head (p : List Nat) (bs : List (List Nat)) : ∃ t, flatL [59, 32] (p :: bs) = p ++ t ∧ (t = [] ∨ ∃ r, t = 59 :: r) := by
  cases bs with
  | nil => exact ⟨[], (List.append_nil p).symm, .inl rfl⟩
  | cons b bs => exact ⟨59 :: 32 :: flatL [59, 32] (b :: bs), by show p ++ [59, 32] ++ flatL [59, 32] (b :: bs) = _; rw [List.append_assoc]; rfl, .inr ⟨_, rfl⟩⟩
theorem rung_parts {ps : List (List Nat)} {q : Ag} (hq : ahg q) (hne : ps ≠ []) (h : ∀ p ∈ ps, PartL p) : midG (runG q (flatL [59, 32] ps)) = true := by
  obtain ⟨as, l, rfl⟩ : ∃ as l, ps = as ++ [l] := ⟨ps.dropLast, ps.getLast hne, (List.dropLast_concat_getLast hne).symm⟩
  rw [flatG_mid as l [], rung_app]
  exact rung_part (rung_pre as q hq fun p hp => h p (List.mem_append_left _ hp)) (h l (List.mem_append_right _ (List.mem_singleton.mpr rfl)))
theorem badG_part {as : List (List Nat)} {p : List Nat} {bs : List (List Nat)} {q : Ag} (hq : ahg q) (ha : ∀ x ∈ as, PartL x) (hp : ∀ r, ahg r → runG r p = .dead ∨ runG r p = .bl) (suf : List Nat) (hs : suf = [] ∨ ∃ r, suf = 59 :: r) : accG (runG q (flatL [59, 32] (as ++ p :: bs) ++ suf)) = false := by
  obtain ⟨t, et, ht⟩ := flatG_head p bs
  rw [flatG_mid, et, rung_app, rung_app, rung_app]
  have end_ : ∀ r, (r = .dead ∨ r = .bl) → ∀ l, (l = [] ∨ ∃ z, l = 59 :: z) → (runG r l = .dead ∨ runG r l = .bl) := fun r hr l hl => by
    rcases hl with rfl | ⟨z, rfl⟩
    · exact hr
    · rcases hr with rfl | rfl
      · exact .inl (rung_dead _)
      · rw [rung_cons]; exact .inl (rung_dead _)
  have h1 := end_ _ (end_ _ (hp _ (rung_pre as q hq ha)) t ht) suf hs
  rcases h1 with h1 | h1 <;> rw [h1] <;> rfl
theorem rep_two {a b s : List Nat} {c : Nat} {y : Str} (hy : y.cps.toList = c :: s) (hc : c ∉ a) (zz : Str) : (rep1 ⟨(a ++ (c :: s) ++ b).toArray⟩ y zz).cps.toList = a ++ zz.cps.toList ++ b := by
  have hyl : y.length = s.length + 1 := by rw [str_len, hy]; rfl
  have hl : (⟨(a ++ (c :: s) ++ b).toArray⟩ : Str).length = a.length + (s.length + 1) + b.length := by
    rw [str_len]
    show (a ++ (c :: s) ++ b).length = _
    rw [List.length_append, List.length_append, List.length_cons]
  have here : StrLaws.At (⟨(a ++ (c :: s) ++ b).toArray⟩ : Str) y (⟨(a ++ (c :: s) ++ b).toArray⟩ : Str).length a.length := by
    rw [at_iff, hy]
    show a.length + (c :: s).length ≤ (a ++ (c :: s) ++ b).length ∧ ((a ++ (c :: s) ++ b).drop a.length).take (c :: s).length = c :: s
    refine ⟨by rw [List.length_append, List.length_append]; omega, ?_⟩
    rw [List.append_assoc, List.drop_left, List.take_left]
  unfold rep1
  have le := StrLaws.occ_length_le (⟨(a ++ (c :: s) ++ b).toArray⟩ : Str) y 0 (⟨(a ++ (c :: s) ++ b).toArray⟩ : Str).length 1
  rcases StrLaws.occ_head (⟨(a ++ (c :: s) ++ b).toArray⟩ : Str) y 1 (by omega) with ⟨h0, hn⟩ | ⟨i, r, h0, hi, hn⟩
  · exact absurd here (hn a.length)
  · rw [h0] at le ⊢
    have er : r = [] := List.length_eq_zero_iff.mp (by rw [List.length_cons] at le; omega)
    subst er
    have hi' : (a ++ (c :: s) ++ b)[i]? = some c := at_first hy hi
    have e : i = a.length := by
      rcases Nat.lt_trichotomy i a.length with h | h | h
      · rw [List.append_assoc, List.getElem?_append_left h] at hi'
        exact absurd (List.mem_of_getElem? hi') hc
      · exact h
      · exact absurd here (hn _ h)
    subst e
    rw [if_neg (by rw [hyl]; simp)]
    rw [StrLaws.partsBetween_eq, StrLaws.glued_eq_join, StrLaws.partsFrom.eq_2, StrLaws.partsFrom.eq_1, Str.join.eq_3 _ _ _ (fun z => by cases z), app_list, app_list]
    show _ ++ _ ++ (Builtin.Str.strSub _ _ _).cps.toList = _
    rw [sub_list, sub_list, hl, hyl]
    show (((a ++ (c :: s) ++ b).drop 0).take (a.length - 0)) ++ _ ++ (((a ++ (c :: s) ++ b).drop (a.length + (s.length + 1))).take _) = _
    have e1 : ((a ++ (c :: s) ++ b).drop 0).take (a.length - 0) = a := by rw [List.drop_zero, Nat.sub_zero, List.append_assoc, List.take_left]
    have e2 : (a ++ (c :: s) ++ b).drop (a.length + (s.length + 1)) = b := by
      have : a.length + (s.length + 1) = (a ++ (c :: s)).length := by rw [List.length_append, List.length_cons]
      rw [this, List.drop_left]
    rw [e1, e2, List.take_of_length_le (by omega)]
end L2
set_option Elab.async false
set_option linter.all false
set_option maxRecDepth 100000
set_option maxHeartbeats 4000000
namespace Law
open PySem L2
def top (i : Nat) : Stmt := PySem.Challenge.pw_rankgarth_k69_texts_of_games_refused.main.body.getD i (.Pass ⟨0, 0, 0, 0⟩)
abbrev s_is_whole : Stmt := top 13
abbrev s_is_place : Stmt := top 14
abbrev s_check_hand : Stmt := top 15
abbrev s_check_rank : Stmt := top 16
abbrev s_check_ways : Stmt := top 17
abbrev s_check_row : Stmt := top 18
abbrev s_check_rows : Stmt := top 19
abbrev s_game_of : Stmt := top 20
abbrev s_is_made_of : Stmt := top 27
abbrev s_is_name : Stmt := top 28
abbrev s_is_figures : Stmt := top 29
abbrev s_is_number : Stmt := top 30
abbrev s_check_form : Stmt := top 31
abbrev s_places_told : Stmt := top 32
abbrev s_read_head : Stmt := top 33
abbrev s_read_place : Stmt := top 34
abbrev s_numbered : Stmt := top 35
abbrev s_number_of : Stmt := top 36
abbrev s_read_game : Stmt := top 37
abbrev s_law_cell_at : Stmt := top 39
abbrev s_law_parts : Stmt := top 40
abbrev s_law_text : Stmt := top 41
abbrev s_law_fresh : Stmt := top 42
abbrev s_law_spoiled_text : Stmt := top 43
abbrev s_law_spoiled_rows : Stmt := top 44
abbrev s_law_many : Stmt := top 45
abbrev s_law_marks : Stmt := top 46
abbrev s_law : Stmt := top 47
structure Txt (mg : Str → Option Value) : Prop where
  b_ValueError : mg "ValueError" = none
  b_all : mg "all" = none
  b_bool : mg "bool" = none
  b_dict : mg "dict" = none
  b_enumerate : mg "enumerate" = none
  b_int : mg "int" = none
  b_isinstance : mg "isinstance" = none
  b_len : mg "len" = none
  b_max : mg "max" = none
  b_range : mg "range" = none
  b_set : mg "set" = none
  b_sorted : mg "sorted" = none
  b_str : mg "str" = none
  b_tuple : mg "tuple" = none
  g_FIGURES : ∃ t, mg "FIGURES" = some (.str "0123456789" t)
  g_GREATEST_LOW_RANK : ∃ t, mg "GREATEST_LOW_RANK" = some (.int 2 t)
  g_GREATEST_RANK : ∃ t, mg "GREATEST_RANK" = some (.int 40 t)
  g_HAND_SIGNS : ∃ t, mg "HAND_SIGNS" = some (.str "+-" t)
  g_LETTERS : ∃ t, mg "LETTERS" = some (.str "abcdefghijklmnopqrstuvwxyz" t)
  g_MOST_LETTERS : ∃ t, mg "MOST_LETTERS" = some (.int 8 t)
  g_MOST_NUMBER_FIGURES : ∃ t, mg "MOST_NUMBER_FIGURES" = some (.int 9 t)
  g_MOST_PLACES : ∃ t, mg "MOST_PLACES" = some (.int 160 t)
  g_MOST_RANKED_PLACES : ∃ t, mg "MOST_RANKED_PLACES" = some (.int 16 t)
abbrev xRs : List Str := ["NoText", "NoName", "NoHand", "NoRank", "NoWay", "TooMany"]
abbrev xNs : List Str := ["NoText", "NoName", "NoRank", "NoWay", "TooMany", "NoHand"]
theorem sc_is_whole : FnScope ["value"] ["value"] (defScope s_is_whole) := ⟨rfl, rfl, rfl, by decide +kernel, rfl, by decide +kernel, by decide +kernel⟩
theorem sc_is_place : FnScope ["value", "count"] ["value", "count"] (defScope s_is_place) := ⟨rfl, rfl, rfl, by decide +kernel, rfl, by decide +kernel, by decide +kernel⟩
theorem sc_check_hand : FnScope ["hand"] ["hand"] (defScope s_check_hand) := ⟨rfl, rfl, rfl, by decide +kernel, rfl, by decide +kernel, by decide +kernel⟩
theorem sc_check_rank : FnScope ["rank"] ["rank"] (defScope s_check_rank) := ⟨rfl, rfl, rfl, by decide +kernel, rfl, by decide +kernel, by decide +kernel⟩
theorem sc_check_ways : FnScope ["ways", "count", "way"] ["ways", "count"] (defScope s_check_ways) := ⟨rfl, rfl, rfl, by decide +kernel, rfl, by decide +kernel, by decide +kernel⟩
theorem sc_check_row : FnScope ["row", "count"] ["row", "count"] (defScope s_check_row) := ⟨rfl, rfl, rfl, by decide +kernel, rfl, by decide +kernel, by decide +kernel⟩
theorem sc_check_rows : FnScope ["rows", "row", "ranks"] ["rows"] (defScope s_check_rows) := ⟨rfl, rfl, rfl, by decide +kernel, rfl, by decide +kernel, by decide +kernel⟩
theorem sc_game_of : FnScope ["rows"] ["rows"] (defScope s_game_of) := ⟨rfl, rfl, rfl, by decide +kernel, rfl, by decide +kernel, by decide +kernel⟩
theorem sc_is_made_of : FnScope ["word", "signs", "most"] ["word", "signs", "most"] (defScope s_is_made_of) := ⟨rfl, rfl, rfl, by decide +kernel, rfl, by decide +kernel, by decide +kernel⟩
theorem sc_is_name : FnScope ["word"] ["word"] (defScope s_is_name) := ⟨rfl, rfl, rfl, by decide +kernel, rfl, by decide +kernel, by decide +kernel⟩
theorem sc_is_figures : FnScope ["word", "most"] ["word", "most"] (defScope s_is_figures) := ⟨rfl, rfl, rfl, by decide +kernel, rfl, by decide +kernel, by decide +kernel⟩
theorem sc_is_number : FnScope ["word"] ["word"] (defScope s_is_number) := ⟨rfl, rfl, rfl, by decide +kernel, rfl, by decide +kernel, by decide +kernel⟩
theorem sc_check_form : FnScope ["right"] ["right"] (defScope s_check_form) := ⟨rfl, rfl, rfl, by decide +kernel, rfl, by decide +kernel, by decide +kernel⟩
theorem sc_places_told : FnScope ["text"] ["text"] (defScope s_places_told) := ⟨rfl, rfl, rfl, by decide +kernel, rfl, by decide +kernel, by decide +kernel⟩
theorem sc_read_head : FnScope ["word", "found", "parts"] ["word"] (defScope s_read_head) := ⟨rfl, rfl, rfl, by decide +kernel, rfl, by decide +kernel, by decide +kernel⟩
theorem sc_read_place : FnScope ["text", "words", "head"] ["text"] (defScope s_read_place) := ⟨rfl, rfl, rfl, by decide +kernel, rfl, by decide +kernel, by decide +kernel⟩
theorem sc_numbered : FnScope ["names", "numbers"] ["names"] (defScope s_numbered) := ⟨rfl, rfl, rfl, by decide +kernel, rfl, by decide +kernel, by decide +kernel⟩
theorem sc_number_of : FnScope ["numbers", "name"] ["numbers", "name"] (defScope s_number_of) := ⟨rfl, rfl, rfl, by decide +kernel, rfl, by decide +kernel, by decide +kernel⟩
theorem sc_read_game : FnScope ["text", "places", "names", "numbers", "rows", "place"] ["text"] (defScope s_read_game) := ⟨rfl, rfl, rfl, by decide +kernel, rfl, by decide +kernel, by decide +kernel⟩
theorem sc_law_cell_at : FnScope ["_law_script", "_law_k"] ["_law_script", "_law_k"] (defScope s_law_cell_at) := ⟨rfl, rfl, rfl, by decide +kernel, rfl, by decide +kernel, by decide +kernel⟩
theorem sc_law_parts : FnScope ["_law_script", "_law_many_here", "_law_letters", "_law_cell", "_law_size", "_law_at", "_law_names", "_law_k", "_law_word", "_law_j", "_law_parts_here", "_law_part"] ["_law_script", "_law_many_here"] (defScope s_law_parts) := ⟨rfl, rfl, rfl, by decide +kernel, rfl, by decide +kernel, by decide +kernel⟩
theorem sc_law_text : FnScope ["_law_parts_here"] ["_law_parts_here"] (defScope s_law_text) := ⟨rfl, rfl, rfl, by decide +kernel, rfl, by decide +kernel, by decide +kernel⟩
theorem sc_law_fresh : FnScope ["_law_parts_here", "_law_letters", "_law_names", "_law_sign"] ["_law_parts_here"] (defScope s_law_fresh) := ⟨rfl, rfl, rfl, by decide +kernel, rfl, by decide +kernel, by decide +kernel⟩
theorem sc_law_spoiled_text : FnScope ["_law_parts_here", "_law_kind", "_law_cell", "_law_at", "_law_some", "_law_line"] ["_law_parts_here", "_law_kind", "_law_cell"] (defScope s_law_spoiled_text) := ⟨rfl, rfl, rfl, by decide +kernel, rfl, by decide +kernel, by decide +kernel⟩
theorem sc_law_spoiled_rows : FnScope ["_law_parts_here", "_law_kind", "_law_cell", "_law_at", "_law_other"] ["_law_parts_here", "_law_kind", "_law_cell"] (defScope s_law_spoiled_rows) := ⟨rfl, rfl, rfl, by decide +kernel, rfl, by decide +kernel, by decide +kernel⟩
theorem sc_law_many : FnScope ["_law_parts_here", "_law_kind", "_law_cell", "_law_letters", "_law_k"] ["_law_parts_here", "_law_kind", "_law_cell"] (defScope s_law_many) := ⟨rfl, rfl, rfl, by decide +kernel, rfl, by decide +kernel, by decide +kernel⟩
theorem sc_law_marks : FnScope ["_law_line", "_law_marks_here", "e"] ["_law_line"] (defScope s_law_marks) := ⟨rfl, rfl, rfl, by decide +kernel, rfl, by decide +kernel, by decide +kernel⟩
theorem sc_law : FnScope ["_law_script", "_law_cell", "_law_parts_here", "_law_good", "_law_kind", "_law_due", "_law_line", "_law_more", "_law_words"] ["_law_script"] (defScope s_law) := ⟨rfl, rfl, rfl, by decide +kernel, rfl, by decide +kernel, by decide +kernel⟩
section
variable {P : Program} {w : World} {K : PySem.W.Frag} {mg : Str → Option Value} {base : Heap}
def spWhole : Sp := fun vs H Q _ => ∃ z : Int, vs = [.int z] ∧ Q (.bl true) H
theorem ok_is_whole (F : DefAt K mg "is_whole" s_is_whole ["value"]) (T : Txt mg) : Dn P w K mg base "is_whole" 1 ["value"] spWhole := by
  have sc := sc_is_whole
  refine F.ok sc (fun vs H Q E h => ?_) (fun f cdv A outer s H vs Q E hr h => ?_)
  · obtain ⟨z, rfl, _⟩ := h; rfl
  obtain ⟨z, rfl, q⟩ := h
  refine ⟨_, (pss_one (ps_ret (pe_and (pe_callB (clIsi (K := K) rfl (T := "int")) rfl T.b_isinstance PyProof.Rows.boot_isinstance (pa_cons (pv 0) (pa_cons (pe_bltn (v := .ty "int") rfl T.b_int PyProof.Rows.boot_int rfl) pa_nil))) (pe_one (pe_not (pe_callB (clIsi (K := K) rfl (T := "bool")) rfl T.b_isinstance PyProof.Rows.boot_isinstance (pa_cons (pv 0) (pa_cons (pe_bltn (v := .ty "bool") rfl T.b_bool PyProof.Rows.boot_bool rfl) pa_nil)))))))), ?_⟩
  refine ⟨_, rfl, _, "int", _, rfl, rfl, isi_same _, true, rfl, ?_⟩
  refine iteT ?_
  exact ⟨_, rfl, _, "int", _, rfl, rfl, isi_int_bool, false, rfl, q⟩
def spPlace : Sp := fun vs H Q _ => ∃ z n : Int, vs = [.int z, .int n] ∧ Q (.bl (decide (0 ≤ z ∧ z < n))) H
theorem ok_is_place (F : DefAt K mg "is_place" s_is_place ["value", "count"]) (T : Txt mg) (D_is_whole : Dn P w K mg base "is_whole" 1 ["value"] spWhole) : Dn P w K mg base "is_place" 2 ["value", "count"] spPlace := by
  have sc := sc_is_place
  refine F.ok sc (fun vs H Q E h => ?_) (fun f cdv A outer s H vs Q E hr h => ?_)
  · obtain ⟨_, _, rfl, _⟩ := h; rfl
  obtain ⟨z, n, rfl, q⟩ := h
  refine ⟨_, (pss_one (ps_ret (pe_and (pe_dn D_is_whole hr (pa_cons (pv 0) pa_nil)) (pe_one (pe_chain op_le op_lt pe_int (pv 0) (pv 1)))))), ?_⟩
  refine ⟨_, rfl, z, rfl, true, rfl, ?_⟩
  refine iteT ?_
  refine ⟨_, rfl, _, _, rfl, rfl, decide (0 ≤ z), rfl, ?_⟩
  refine ite2 (fun c => ?_) (fun c => ?_)
  · have h0 : 0 ≤ z := of_decide_eq_true c
    refine ⟨_, rfl, _, _, rfl, rfl, ?_⟩
    show Q (V.bl (decide (z < n))) H
    have e : decide (z < n) = decide (0 ≤ z ∧ z < n) := by
      by_cases h : z < n
      · rw [decide_eq_true h, decide_eq_true ⟨h0, h⟩]
      · rw [decide_eq_false h, decide_eq_false fun k => h k.2]
    rw [e]; exact q
  · have e : decide (0 ≤ z ∧ z < n) = false := decide_eq_false fun k => c (decide_eq_true k.1)
    rw [e] at q; exact q
def HandOk (z : Int) : Prop := z = 0 ∨ z = 1
def RankOk (z : Int) : Prop := 0 ≤ z ∧ z ≤ 40
def WG (n : Int) (ws : List Int) : Prop := ws ≠ [] ∧ ∀ x ∈ ws, 0 ≤ x ∧ x < n
def RowGood (n : Int) (r : Row) : Prop := HandOk r.1 ∧ RankOk r.2.1 ∧ WG n r.2.2
def RowBad (n : Int) (r : Row) (x : Str) : Prop := (x = "NoHand" ∧ ¬ HandOk r.1) ∨ (x = "NoRank" ∧ HandOk r.1 ∧ ¬ RankOk r.2.1) ∨ (x = "NoWay" ∧ HandOk r.1 ∧ RankOk r.2.1 ∧ ¬ WG n r.2.2)
def GGood (G : List Row) : Prop := G.length ≤ 160 ∧ (∀ r ∈ G, RowGood G.length r) ∧ ¬ (16 < G.length ∧ ∃ r ∈ G, 2 < r.2.1)
def GBad (G : List Row) (x : Str) : Prop := (x = "TooMany" ∧ 160 < G.length) ∨ (G.length ≤ 160 ∧ ∃ (i : Nat) (r : Row), G[i]? = some r ∧ RowBad G.length r x ∧ ∀ (j : Nat) (r' : Row), j < i → G[j]? = some r' → RowGood G.length r') ∨
  (x = "TooMany" ∧ G.length ≤ 160 ∧ (∀ r ∈ G, RowGood G.length r) ∧ 16 < G.length ∧ ∃ r ∈ G, 2 < r.2.1)
def spHand (K : PySem.W.Frag) : Sp := fun vs H Q E => ∃ z : Int, vs = [.int z] ∧ (HandOk z → ∀ H', Same H H' → Q .non H') ∧ (¬ HandOk z → ∀ H', Same H H' → E (.ref (clK K "NoHand")) none H')
theorem ok_check_hand (F : DefAt K mg "check_hand" s_check_hand ["hand"]) (T : Txt mg) (XC : XT K mg "GarthError" xRs xNs) (D_is_whole : Dn P w K mg base "is_whole" 1 ["value"] spWhole) : DnX P w K mg base "check_hand" 2 ["hand"] (spHand K) := by
  have sc := sc_check_hand
  refine F.okX sc (fun vs H Q E h => ?_) (fun f cdv A outer s H vs Q E hr h => ?_)
  · obtain ⟨z, rfl, _⟩ := h; rfl
  obtain ⟨z, rfl, q1, q2⟩ := h
  refine ⟨_, (pss_one (ps_if (PW.pt (pw_or (pt_not (pt_val (pe_dn D_is_whole hr (pa_cons (pv 0) pa_nil)))) (pw_or1 (pt_cmpR (notInS (K := K) rfl) (pv 0) (pe_tup (pa_cons pe_int (pa_cons pe_int pa_nil))) rfl))))
      (pss_one (ps_raise raisesR (XC.m "NoHand" (by decide)) (XC.exc "NoHand" (by decide)) (pa_cons pe_str pa_nil)))
      pss_nil)), ?_⟩
  refine ⟨_, rfl, z, rfl, _, rfl, ?_⟩
  refine iteF ?_
  refine ⟨_, rfl, (by show 2 ≤ sizeLine; decide), fun t ht => ?_⟩
  refine ⟨t, _, rfl, .inr (SqT.of upd_same), rfl, rfl, _, rfl, ?_⟩
  show if (!inV (.int z) (([0, 1] : List Int).map V.int)) = true then _ else _
  rw [inV_ints]
  refine ite2 (fun c => ?_) (fun c => ?_)
  · exact ⟨(by show 1 ≤ sizeLine; decide), q2 (fun k => by simp at c; rcases k with k | k <;> omega) _ (same_upd ht _)⟩
  · refine q1 ?_ _ (same_upd ht _)
    have h : ¬ z = 0 → z = 1 := by simpa using c
    by_cases e : z = 0
    · exact .inl e
    · exact .inr (h e)
def spRank (K : PySem.W.Frag) : Sp := fun vs H Q E => ∃ z : Int, vs = [.int z] ∧ (RankOk z → Q .non H) ∧ (¬ RankOk z → E (.ref (clK K "NoRank")) none H)
theorem ok_check_rank (F : DefAt K mg "check_rank" s_check_rank ["rank"]) (T : Txt mg) (XC : XT K mg "GarthError" xRs xNs) (D_is_whole : Dn P w K mg base "is_whole" 1 ["value"] spWhole) : DnX P w K mg base "check_rank" 2 ["rank"] (spRank K) := by
  have sc := sc_check_rank
  refine F.okX sc (fun vs H Q E h => ?_) (fun f cdv A outer s H vs Q E hr h => ?_)
  · obtain ⟨z, rfl, _⟩ := h; rfl
  obtain ⟨z, rfl, q1, q2⟩ := h
  refine ⟨_, (pss_one (ps_if (PW.pt (pw_or (pt_not (pt_val (pe_dn D_is_whole hr (pa_cons (pv 0) pa_nil)))) (pw_or (pt_cmpR op_lt (pv 0) pe_int (nomark _)) (pw_or1 (pt_cmpR op_gt (pv 0) (pe_gint T.g_GREATEST_RANK) (nomark _))))))
      (pss_one (ps_raise raisesR (XC.m "NoRank" (by decide)) (XC.exc "NoRank" (by decide)) (pa_cons (pe_join (pj_str (pj_int T.g_GREATEST_RANK pj_nil))) pa_nil)))
      pss_nil)), ?_⟩
  refine ⟨_, rfl, z, rfl, _, rfl, ?_⟩
  refine iteF ?_
  refine ⟨_, rfl, _, _, rfl, rfl, _, rfl, ?_⟩
  refine ite2 (fun c => ?_) (fun c => ?_)
  · have : z < 0 := of_decide_eq_true c
    refine iteT ?_
    exact fun x => ⟨(by show 1 ≤ sizeLine; decide), q2 fun k => by have := k.1; omega⟩
  have c0 : ¬ z < 0 := fun k => c (decide_eq_true k)
  refine ⟨_, rfl, _, _, rfl, rfl, _, rfl, ?_⟩
  refine ite2 (fun c => ?_) (fun c => ?_)
  · have : (40 : Int) < z := of_decide_eq_true c
    exact fun x => ⟨(by show 1 ≤ sizeLine; decide), q2 fun k => by have := k.2; omega⟩
  have c1 : ¬ (40 : Int) < z := fun k => c (decide_eq_true k)
  exact q1 ⟨by omega, by omega⟩
def spCheckWays (K : PySem.W.Frag) : Sp := fun vs H Q E => ∃ (wa : Addr) (ws : List Int) (n : Int), vs = [.ref wa, .int n] ∧ H wa = some (.lst (ws.map V.int)) ∧ (WG n ws → Q .non H) ∧ (¬ WG n ws → E (.ref (clK K "NoWay")) none H)
theorem ok_check_ways (F : DefAt K mg "check_ways" s_check_ways ["ways", "count"]) (T : Txt mg) (XC : XT K mg "GarthError" xRs xNs) (D_is_place : Dn P w K mg base "is_place" 2 ["value", "count"] spPlace) : DnX P w K mg base "check_ways" 3 ["ways", "count"] (spCheckWays K) := by
  have sc := sc_check_ways
  refine F.okX sc (fun vs H Q E h => ?_) (fun f cdv A outer s H vs Q E hr h => ?_)
  · obtain ⟨_, _, _, rfl, _⟩ := h; rfl
  obtain ⟨wa, ws, n, rfl, hw, q1, q2⟩ := h
  refine ⟨_, (pss_cons (ps_if (pt_cmpR op_eq (pe_callB (clLen (K := K) rfl) rfl T.b_len PySem.boot_len (pa_cons (pv 0) pa_nil)) pe_int (nomark _))
      (pss_one (ps_raise raisesR (XC.m "NoWay" (by decide)) (XC.exc "NoWay" (by decide)) (pa_cons pe_str pa_nil)))
      pss_nil)
      (pss_one (ps_for PassesOwn.leaving rfl (pi_list (pv 0)) (pg_name (i := 2) sc.nd rfl (Or.inl rfl))
      (pss_one (ps_if (pt_not (pt_val (pe_dn D_is_place hr (pa_cons (pv 2) (pa_cons (pv 1) pa_nil)))))
      (pss_one (ps_raise raisesR (XC.m "NoWay" (by decide)) (XC.exc "NoWay" (by decide)) (pa_cons pe_str pa_nil)))
      pss_nil))))), ?_⟩
  have hl : (ws.map V.int).length = ws.length := List.length_map _
  refine ⟨_, rfl, wa, _, rfl, .inl (SqL.of hw), rfl, _, rfl, ?_⟩
  refine ite2 (fun c => ?_) (fun c => ?_)
  · have c' := of_decide_eq_true c
    have c2 : (((ws.map V.int).length : Nat) : Int) = 0 := by injection c'
    refine ⟨(by show 1 ≤ sizeLine; decide), q2 fun k => k.1 (List.length_eq_zero_iff.mp (by omega))⟩
  have hne : ws ≠ [] := fun z => c (by rw [z]; rfl)
  refine ⟨_, rfl, wa, rfl, ⟨_, SqL.of hw⟩, for_list (K := K) (a := wa) (xs := ws.map V.int) (fun i σ H2 => H2 = H ∧ (∃ y : Option V, σ = [some (.ref wa), some (.int n), y]) ∧ ∀ x ∈ ws.take i, 0 ≤ x ∧ x < n) ⟨rfl, ⟨_, rfl⟩, fun _ z => by cases z⟩ (fun i σ H2 _ h => ?_) (fun i x σ H2 hi h => ?_) (fun σ H2 h => ?_)⟩
  · obtain ⟨rfl, _⟩ := h; exact SqL.of hw
  · obtain ⟨rfl, ⟨y, rfl⟩, hk⟩ := h
    obtain ⟨z, hz, rfl⟩ := int_of_at hi
    refine ⟨_, rfl, _, rfl, z, n, rfl, _, rfl, ?_⟩
    refine ite2 (fun c => ?_) (fun c => ?_)
    · exact ⟨(by show 1 ≤ sizeLine; decide), q2 fun k => by have := k.2 z (List.mem_of_getElem? hz); simp [this] at c⟩
    · refine ⟨rfl, ⟨_, rfl⟩, fun x hx => ?_⟩
      rcases (mem_take_snoc hz).mp hx with h | h
      · exact hk x h
      · rw [h]; simpa using c
  · obtain ⟨rfl, _, hk⟩ := h
    rw [List.length_map, List.take_length] at hk
    exact q1 ⟨hne, hk⟩
def spCheckRow (K : PySem.W.Frag) : Sp := fun vs H Q E => ∃ (v : V) (r : Row) (n : Int), vs = [v, .int n] ∧ rRow H r v ∧ (RowGood n r → ∀ H', Same H H' → Q .non H') ∧ ∀ x, RowBad n r x → ∀ H', Same H H' → E (.ref (clK K x)) none H'
theorem ok_check_row (F : DefAt K mg "check_row" s_check_row ["row", "count"]) (T : Txt mg) (XC : XT K mg "GarthError" xRs xNs) (D_check_hand : DnX P w K mg base "check_hand" 2 ["hand"] (spHand K)) (D_check_rank : DnX P w K mg base "check_rank" 2 ["rank"] (spRank K)) (D_check_ways : DnX P w K mg base "check_ways" 3 ["ways", "count"] (spCheckWays K)) :
    DnX P w K mg base "check_row" 4 ["row", "count"] (spCheckRow K) := by
  have sc := sc_check_row
  refine F.okX sc (fun vs H Q E h => ?_) (fun f cdv A outer s H vs Q E hr h => ?_)
  · obtain ⟨_, _, _, rfl, _⟩ := h; rfl
  obtain ⟨v, r, n, rfl, hr2, q1, q2⟩ := h
  obtain ⟨t, wa, rfl, ht, hwa⟩ := row_parts hr2
  refine ⟨_, (pss_cons (ps_expr (pe_dnX passR D_check_hand hr (pa_cons (pe_ix (ixT (K := K) rfl) (pv 0) pe_int (fun _ _ => rfl)) pa_nil)))
      (pss_cons (ps_expr (pe_dnX passR D_check_rank hr (pa_cons (pe_ix (ixT (K := K) rfl) (pv 0) pe_int (fun _ _ => rfl)) pa_nil)))
      (pss_one (ps_expr (pe_dnX passR D_check_ways hr (pa_cons (pe_ix (ixT (K := K) rfl) (pv 0) pe_int (fun _ _ => rfl)) (pa_cons (pv 1) pa_nil))))))), ?_⟩
  refine ⟨_, rfl, t, _, _, _, rfl, rfl, SqT.of ht, atI_nat (j := 0) rfl, _, rfl, fun h1 H1 s1 => ?_, fun h1 H1 s1 => q2 _ (.inl ⟨rfl, h1⟩) H1 s1⟩
  refine ⟨_, rfl, t, _, _, _, rfl, rfl, SqT.of (s1 _ _ ht), atI_nat (j := 1) rfl, _, rfl, fun h2 => ?_, fun h2 => q2 _ (.inr (.inl ⟨rfl, h1, h2⟩)) H1 s1⟩
  refine ⟨_, rfl, t, _, _, _, rfl, rfl, SqT.of (s1 _ _ ht), atI_nat (j := 2) rfl, _, rfl, wa, _, _, rfl, s1 _ _ hwa, fun h3 => ?_, fun h3 => q2 _ (.inr (.inr ⟨rfl, h1, h2, h3⟩)) H1 s1⟩
  exact q1 ⟨h1, h2, h3⟩ _ s1
def spCheckRows (K : PySem.W.Frag) : Sp := fun vs H Q E => ∃ (v : V) (G : List Row), vs = [v] ∧ rGame H G v ∧ G.length ≤ 1000 ∧ (GGood G → ∀ H', Same H H' → Q .non H') ∧ ∀ x, GBad G x → ∀ H', Same H H' → E (.ref (clK K x)) none H'
theorem ok_check_rows (F : DefAt K mg "check_rows" s_check_rows ["rows"]) (T : Txt mg) (XC : XT K mg "GarthError" xRs xNs) (D_check_row : DnX P w K mg base "check_row" 4 ["row", "count"] (spCheckRow K)) : DnX P w K mg base "check_rows" 5 ["rows"] (spCheckRows K) := by
  have sc := sc_check_rows
  refine F.okX sc (fun vs H Q E h => ?_) (fun f cdv A outer s H vs Q E hr h => ?_)
  · obtain ⟨_, _, rfl, _⟩ := h; rfl
  obtain ⟨v, G, rfl, hG, h1000, q1, q2⟩ := h
  obtain ⟨g0, gv, rfl, hg0, hgl, hrow⟩ := game_parts hG
  obtain ⟨_, _, e0, hg0', pg⟩ := id hG
  cases e0
  rw [hg0] at hg0'; cases hg0'
  refine ⟨_, (pss_cons (ps_if (pt_cmpR op_gt (pe_callB (clLen (K := K) rfl) rfl T.b_len PySem.boot_len (pa_cons (pv 0) pa_nil)) (pe_gint T.g_MOST_PLACES) (nomark _))
      (pss_one (ps_raise raisesR (XC.m "TooMany" (by decide)) (XC.exc "TooMany" (by decide)) (pa_cons (pe_join (pj_str (pj_int T.g_MOST_PLACES (pj_str pj_nil)))) pa_nil)))
      pss_nil)
      (pss_cons (ps_for PassesOwn.leaving rfl (pi_list (pv 0)) (pg_name (i := 1) sc.nd rfl (Or.inl rfl))
      (pss_one (ps_expr (pe_dnX passR D_check_row hr (pa_cons (pv 1) (pa_cons (pe_callB (clLen (K := K) rfl) rfl T.b_len PySem.boot_len (pa_cons (pv 0) pa_nil)) pa_nil))))))
      (pss_cons (ps_lc (i := 2) (defScope s_check_rows) ["rows", "row", "ranks"] ["row"] 1 [] sc.nd rfl rfl (pi_list (pv 0)) (fun _ _ _ _ _ _ => (ptg_name (show List.Nodup (["row"] : List Str) by decide +kernel) rfl rfl)) (fun _ _ _ _ _ _ => pts_nil) (fun _ _ _ _ _ _ => (pe_ix (ixT (K := K) rfl) (pv 0) pe_int (fun _ _ => rfl))))
      (pss_one (ps_if (PW.pt (pw_and (pt_cmpR op_gt (pe_callB (clLen (K := K) rfl) rfl T.b_len PySem.boot_len (pa_cons (pv 0) pa_nil)) (pe_gint T.g_MOST_RANKED_PLACES) (nomark _)) (pw_and1 (pt_cmpR op_gt (pe_callB (call_maxL rfl) rfl T.b_max PyProof.Rows.boot_max (pa_cons (pv 2) pa_nil)) (pe_gint T.g_GREATEST_LOW_RANK) (nomark _)))))
      (pss_one (ps_raise raisesR (XC.m "TooMany" (by decide)) (XC.exc "TooMany" (by decide)) (pa_cons (pe_join (pj_str (pj_int T.g_GREATEST_LOW_RANK (pj_str (pj_int T.g_MOST_RANKED_PLACES (pj_str pj_nil)))))) pa_nil)))
      pss_nil))))), ?_⟩
  refine ⟨_, rfl, g0, _, rfl, .inl (SqL.of hg0), _, _, rfl, rfl, _, rfl, ?_⟩
  refine ite2 (fun c => ?_) (fun c => ?_)
  · have : (160 : Int) < (gv.length : Nat) := of_decide_eq_true c
    exact fun x => ⟨(by show 1 ≤ sizeLine; decide), q2 _ (.inl ⟨rfl, by omega⟩) _ (Same.refl _)⟩
  have h160 : G.length ≤ 160 := by
    have : ¬ (160 : Int) < (gv.length : Nat) := fun k => c (decide_eq_true k)
    omega
  refine ⟨_, rfl, g0, rfl, ⟨_, SqL.of hg0⟩, for_list (K := K) (a := g0) (xs := gv) (fun i σ H2 => Same H H2 ∧ (∃ y : Option V, σ = [some (.ref g0), y, none]) ∧ ∀ (j : Nat) (r' : Row), j < i → G[j]? = some r' → RowGood G.length r') ⟨Same.refl _, ⟨_, rfl⟩, fun j _ h => absurd h (Nat.not_lt_zero _)⟩ (fun i σ H2 _ h => ?_) (fun i x σ H2 hi h => ?_) (fun σ H2 h => ?_)⟩
  · exact SqL.of (h.1 _ _ hg0)
  · obtain ⟨s2, ⟨y, rfl⟩, hk⟩ := h
    obtain ⟨row, hrw, rr⟩ := Paired.ta pg hi
    refine ⟨_, rfl, _, rfl, g0, _, rfl, .inl (SqL.of (s2 _ _ hg0)), _, row, ((gv.length : Nat) : Int), rfl, mono_row.up s2 rr, fun hgood H3 s3 => ?_, fun x hbad H3 s3 => ?_⟩
    · refine ⟨s2.trans s3, ⟨_, rfl⟩, fun j r' hj hr' => ?_⟩
      by_cases e : j < i
      · exact hk j r' e hr'
      · have : j = i := by omega
        subst this
        rw [hrw] at hr'; cases hr'
        rw [hgl] at hgood; exact hgood
    · rw [hgl] at hbad
      exact q2 x (.inr (.inl ⟨h160, i, row, hrw, hbad, hk⟩)) _ (s2.trans s3)
  obtain ⟨s2, ⟨y, rfl⟩, hk⟩ := h
  have hall : ∀ r ∈ G, RowGood G.length r := fun r hr => by
    obtain ⟨i, hi⟩ := List.getElem?_of_mem hr
    exact hk i r (by have := (List.getElem?_eq_some_iff.mp hi).1; omega) hi
  refine ⟨_, rfl, g0, rfl, ⟨_, SqL.of (s2 _ _ hg0)⟩, comp_listD (K := K) (a := g0) (xs := gv) (fun i ys H3 => H3 = H2 ∧ ys = ((G.take i).map fun r => r.2.1).map V.int) ⟨rfl, rfl⟩ (small (m := 1000) (by omega)) (fun i ys H3 hi h => ?_) (fun i x ys H3 hi h => ?_) (fun ys H3 h p hp => ?_)⟩
  · obtain ⟨rfl, rfl⟩ := h
    exact ⟨SqL.of (s2 _ _ hg0), by simp; omega⟩
  · obtain ⟨rfl, rfl⟩ := h
    obtain ⟨row, hrw, rr⟩ := Paired.ta pg hi
    obtain ⟨t, wa, rfl, ht, hwa⟩ := row_parts rr
    refine comp_yes ?_
    refine ⟨_, rfl, t, _, _, _, rfl, rfl, SqT.of (s2 _ _ ht), atI_nat (j := 1) rfl, rfl, ?_⟩
    rw [List.take_add_one, hrw, List.map_append, List.map_append]; rfl
  obtain ⟨rfl, rfl⟩ := h
  rw [hgl, List.take_length]
  have sp := s2.trans (same_upd hp (.lst ((G.map fun r => r.2.1).map V.int)))
  refine ⟨_, rfl, g0, _, rfl, .inl (SqL.of (sp _ _ hg0)), _, _, rfl, rfl, _, rfl, ?_⟩
  refine ite2 (fun c => ?_) (fun c => ?_)
  · have c' : (16 : Int) < (gv.length : Nat) := of_decide_eq_true c
    refine ⟨_, rfl, p, G.map fun r => r.2.1, rfl, SqL.of upd_same, (fun z => ?_), fun M hM hle => ?_⟩
    · have h0 : (G.map fun r => r.2.1).length = 0 := by rw [z]; rfl
      rw [List.length_map] at h0
      omega
    · obtain ⟨row, hrw, rfl⟩ := List.mem_map.mp hM
      refine ⟨_, _, rfl, rfl, _, rfl, ?_⟩
      refine ite2 (fun c => ?_) (fun c => ?_)
      · have : (2 : Int) < row.2.1 := of_decide_eq_true c
        exact fun x => ⟨(by show 1 ≤ sizeLine; decide), q2 _ (.inr (.inr ⟨rfl, h160, hall, by omega, row, hrw, this⟩)) _ sp⟩
      · have c2 : ¬ (2 : Int) < row.2.1 := fun k => c (decide_eq_true k)
        refine q1 ⟨h160, hall, fun ⟨_, r, hr, h2⟩ => ?_⟩ _ sp
        have := hle r.2.1 (List.mem_map.mpr ⟨r, hr, rfl⟩)
        omega
  · refine iteF ?_
    have c2 : ¬ (16 : Int) < (gv.length : Nat) := fun k => c (decide_eq_true k)
    exact q1 ⟨h160, hall, fun k => by have := k.1; omega⟩ _ sp
def toldG (G : List Row) : List Row := G.map fun r => (r.1, r.2.1, norm G.length r.2.2)
theorem toldG_len (G : List Row) : (toldG G).length = G.length := List.length_map _
theorem toldG_at {G : List Row} {i : Nat} {r : Row} (h : G[i]? = some r) : (toldG G)[i]? = some (r.1, r.2.1, norm G.length r.2.2) := by unfold toldG; rw [List.getElem?_map, h]; rfl
theorem toldG_snoc {G : List Row} {i : Nat} {r : Row} (h : G[i]? = some r) : (toldG G).take (i + 1) = (toldG G).take i ++ [(r.1, r.2.1, norm G.length r.2.2)] := by rw [List.take_add_one, toldG_at h]; rfl
def spGameOf (K : PySem.W.Frag) : Sp := fun vs H Q E => ∃ (v : V) (G : List Row), vs = [v] ∧ rGame H G v ∧ G.length ≤ 1000 ∧ (∀ r ∈ G, r.2.2.length ≤ 62) ∧ (GGood G → ∀ (v' : V) (H' : Hp), Same H H' → rGame (newp H H') (toldG G) v' → Q v' H') ∧ ∀ x, GBad G x → ∀ H', Same H H' → E (.ref (clK K x)) none H'
theorem ok_game_of (F : DefAt K mg "game_of" s_game_of ["rows"]) (T : Txt mg) (XC : XT K mg "GarthError" xRs xNs) (D_check_rows : DnX P w K mg base "check_rows" 5 ["rows"] (spCheckRows K)) : DnX P w K mg base "game_of" 6 ["rows"] (spGameOf K) := by
  have sc := sc_game_of
  refine F.okX sc (fun vs H Q E h => ?_) (fun f cdv A outer s H vs Q E hr h => ?_)
  · obtain ⟨_, _, rfl, _⟩ := h; rfl
  obtain ⟨v, G, rfl, hG, h1000, h62, q, q2⟩ := h
  obtain ⟨g0, gv, rfl, hg0, hgl, hrow⟩ := game_parts hG
  refine ⟨_, (pss_cons (ps_expr (pe_dnX passR D_check_rows hr (pa_cons (pv 0) pa_nil)))
      (pss_one (ps_ret (pe_lc (defScope s_game_of) ["rows"] ["row"] 1 [] (pi_list (pv 0)) (fun _ _ _ _ _ _ => (ptg_name (show List.Nodup (["row"] : List Str) by decide +kernel) rfl rfl)) (fun _ _ _ _ _ _ => pts_nil) (fun _ _ _ _ _ _ => (pe_tup (pa_cons (pe_ix (ixT (K := K) rfl) (pv 0) pe_int (fun _ _ => rfl)) (pa_cons (pe_ix (ixT (K := K) rfl) (pv 0) pe_int (fun _ _ => rfl)) (pa_cons (pe_sorted_setK (K := K) rfl rfl rfl T.b_sorted rfl T.b_set (pa_cons (pe_ix (ixT (K := K) rfl) (pv 0) pe_int (fun _ _ => rfl)) pa_nil)) pa_nil))))))))), ?_⟩
  refine ⟨_, rfl, _, G, rfl, hG, h1000, fun hok H1 s1 => ?_, q2⟩
  refine ⟨_, rfl, g0, rfl, ⟨_, SqL.of (s1 _ _ hg0)⟩, comp_listD (K := K) (a := g0) (xs := gv) (fun i ys H2 => Same H H2 ∧ Paired (rRow (newp H H2)) ((toldG G).take i) ys) ⟨s1, .nil⟩ (small (m := 1000) (by omega)) (fun i ys H2 hi h => ?_) (fun i x ys H2 hi h => ?_) (fun ys H2 h p hp => ?_)⟩
  · exact ⟨SqL.of (h.1 _ _ hg0), by have := h.2.length; rw [List.length_take] at this; omega⟩
  · obtain ⟨s2, pr⟩ := h
    have hil : i < G.length := by have := (List.getElem?_eq_some_iff.mp hi).1; omega
    obtain ⟨row, hrw⟩ : ∃ row, G[i]? = some row := ⟨G[i], by simp⟩
    obtain ⟨t, wa, p1, p2, p3⟩ := hrow i row hrw
    rw [hi] at p1; cases p1
    have hw1 := (hok.2.1 row (List.mem_of_getElem? hrw)).2.2.2
    have hw2 := h62 row (List.mem_of_getElem? hrw)
    refine comp_yes ?_
    refine ⟨_, rfl, t, _, _, _, rfl, rfl, SqT.of (s2 _ _ p2), atI_nat (j := 0) rfl, _, rfl, t, _, _, _, rfl, rfl, SqT.of (s2 _ _ p2), atI_nat (j := 1) rfl, _, rfl, t, _, _, _, rfl, rfl, SqT.of (s2 _ _ p2), atI_nat (j := 2) rfl, wa, row.2.2, rfl, SqL.of (s2 _ _ p3), by omega, (fun ns hn hs => by have := nodup_sub ns row.2.2 hn hs; omega), fun l ns hl pw mem => ?_⟩
    refine ⟨(by show 3 ≤ sizeLine; decide), fun t2 ht2 => ?_⟩
    have en := norm_eq hw1 pw mem
    subst en
    have s3 := s2.trans (same_upd hl (.lst ((norm G.length row.2.2).map V.int)))
    refine ⟨s3.trans (same_upd ht2 _), ?_⟩
    rw [toldG_snoc hrw]
    refine Paired.app (paired_mono mono_row (newp_in ((same_upd hl _).trans (same_upd ht2 _))) pr) (.cons ?_ .nil)
    exact row_new (h := row.1) (r := row.2.1) s3 (s2.free hl) upd_same ht2
  · obtain ⟨s2, pr⟩ := h
    rw [hgl, ← toldG_len G, List.take_length] at pr
    exact q hok _ _ (s2.trans (same_upd hp _)) ⟨p, ys, rfl, by rw [newp_at (s2.free hp), upd_same], paired_mono mono_row (newp_in (same_upd hp _)) pr⟩
def inT (signs : Str) (c : Nat) : Bool := !(Builtin.Str.occurrences signs ⟨#[c]⟩ 0 signs.length 1).isEmpty
def spMade : Sp := fun vs H Q _ => ∃ (z signs : Str) (m : Int), vs = [.str z, .str signs, .int m] ∧ z.length ≤ 100000 ∧ ∀ H', Same H H' → Q (.bl (decide (1 ≤ z.length ∧ (z.length : Int) ≤ m) && z.cps.toList.all (inT signs))) H'
theorem ok_made (F : DefAt K mg "is_made_of" s_is_made_of ["word", "signs", "most"]) (T : Txt mg) : Dn P w K mg base "is_made_of" 1 ["word", "signs", "most"] spMade := by
  have sc := sc_is_made_of
  refine F.ok sc (fun vs H Q E h => ?_) (fun f cdv A outer s H vs Q E hr h => ?_)
  · obtain ⟨_, _, _, rfl, _⟩ := h; rfl
  obtain ⟨z, signs, m, rfl, hz, q⟩ := h
  refine ⟨_, (pss_one (ps_ret (pe_and (pe_chain op_le op_le pe_int (pe_callB call_len_str rfl T.b_len PySem.boot_len (pa_cons (pv 0) pa_nil)) (pv 2)) (pe_one (pe_callB (call_allL rfl) rfl T.b_all PyProof.Rows.boot_all (pa_cons (pe_lc (defScope s_is_made_of) ["word", "signs", "most"] ["sign", "signs"] 1 [1] (pi_str (pv 0)) (fun _ _ _ _ _ _ => (ptg_name (show List.Nodup (["sign", "signs"] : List Str) by decide +kernel) rfl rfl)) (fun _ _ _ _ _ _ => pts_nil) (fun _ _ _ _ _ _ => (pe_cmpR op_in_str (pv 0) (pv 1) rfl))) pa_nil)))))), ?_⟩
  refine ⟨_, rfl, z, rfl, small (m := 100000) hz, _, _, rfl, rfl, ?_⟩
  have fin : decide (1 ≤ z.length ∧ (z.length : Int) ≤ m) = false → Q (.bl false) H := fun e => by
    have := q H (Same.refl _)
    rw [e] at this; exact this
  refine ⟨_, rfl, ?_⟩
  refine ite2 (fun c => ?_) (fun c => ?_)
  · have c1 : (1 : Int) ≤ z.length := of_decide_eq_true c
    refine ⟨_, rfl, _, _, rfl, rfl, _, rfl, ?_⟩
    refine ite2 (fun c => ?_) (fun c => ?_)
    · have c2 : (z.length : Int) ≤ m := of_decide_eq_true c
      refine ⟨_, rfl, z, rfl, comp_strD (z := z) (fun i ys H3 => H3 = H ∧ ys = ((z.cps.toList.take i).map (inT signs)).map V.bl) ⟨rfl, rfl⟩ (small (m := 100000) hz) (fun i ys H3 hi h => ?_) (fun i c ys H3 hi h => ?_) (fun ys H3 h p hp => ?_)⟩
      · obtain ⟨rfl, rfl⟩ := h
        simp; omega
      · obtain ⟨rfl, rfl⟩ := h
        refine comp_yes ?_
        refine ⟨_, rfl, _, rfl, _, _, rfl, rfl, rfl, ?_⟩
        have hi' : z.cps.toList[i]? = some c := by simpa using hi
        rw [List.take_add_one, hi', List.map_append, List.map_append]; rfl
      · obtain ⟨rfl, rfl⟩ := h
        refine ⟨p, _, rfl, SqL.of upd_same, ?_⟩
        have e := q _ (same_upd hp (.lst (((z.cps.toList.take z.cps.size).map (inT signs)).map V.bl)))
        rw [decide_eq_true ⟨by omega, c2⟩, Bool.true_and] at e
        have el : z.cps.toList.take z.cps.size = z.cps.toList := List.take_of_length_le (by simp)
        rw [el] at e ⊢
        rw [show ((z.cps.toList.map (inT signs)).all id) = z.cps.toList.all (inT signs) by rw [List.all_map]; rfl]
        exact e
    · exact fin (decide_eq_false fun h => c (decide_eq_true h.2))
  · refine ⟨_, rfl, ?_⟩
    refine iteF ?_
    exact fin (decide_eq_false fun h => c (decide_eq_true (by have := h.1; omega)))
def isName (z : Str) : Bool := decide (1 ≤ z.length ∧ (z.length : Int) ≤ 8) && z.cps.toList.all (inT "abcdefghijklmnopqrstuvwxyz")
def spName : Sp := fun vs H Q _ => ∃ z : Str, vs = [.str z] ∧ z.length ≤ 100000 ∧ ∀ H', Same H H' → Q (.bl (isName z)) H'
theorem ok_name (F : DefAt K mg "is_name" s_is_name ["word"]) (T : Txt mg) (D_is_made_of : Dn P w K mg base "is_made_of" 1 ["word", "signs", "most"] spMade) : Dn P w K mg base "is_name" 2 ["word"] spName := by
  have sc := sc_is_name
  refine F.ok sc (fun vs H Q E h => ?_) (fun f cdv A outer s H vs Q E hr h => ?_)
  · obtain ⟨_, rfl, _⟩ := h; rfl
  obtain ⟨z, rfl, hz, q⟩ := h
  refine ⟨_, (pss_one (ps_ret (pe_dn D_is_made_of hr (pa_cons (pv 0) (pa_cons (pe_gstr T.g_LETTERS) (pa_cons (pe_gint T.g_MOST_LETTERS) pa_nil)))))), ?_⟩
  exact ⟨_, rfl, z, _, _, rfl, hz, fun H' s' => q _ s'⟩
def isFig (z : Str) (m : Int) : Bool := (decide (1 ≤ z.length ∧ (z.length : Int) ≤ m) && z.cps.toList.all (inT "0123456789")) && (z == "0" || !(z.cps.toList[0]? == some 48))
def spFig : Sp := fun vs H Q _ => ∃ (z : Str) (m : Int), vs = [.str z, .int m] ∧ z.length ≤ 100000 ∧ ∀ H', Same H H' → Q (.bl (isFig z m)) H'
theorem ok_fig (F : DefAt K mg "is_figures" s_is_figures ["word", "most"]) (T : Txt mg) (D_is_made_of : Dn P w K mg base "is_made_of" 1 ["word", "signs", "most"] spMade) : Dn P w K mg base "is_figures" 2 ["word", "most"] spFig := by
  have sc := sc_is_figures
  refine F.ok sc (fun vs H Q E h => ?_) (fun f cdv A outer s H vs Q E hr h => ?_)
  · obtain ⟨_, _, rfl, _⟩ := h; rfl
  obtain ⟨z, m, rfl, hz, q⟩ := h
  refine ⟨_, (pss_one (ps_ret (pe_and (pe_dn D_is_made_of hr (pa_cons (pv 0) (pa_cons (pe_gstr T.g_FIGURES) (pa_cons (pv 1) pa_nil)))) (pe_one (pe_or (pe_cmpR op_eq (pv 0) pe_str (nomark _)) (pe_one (pe_cmpR op_ne (pe_ix ix_str (pv 0) pe_int (fun _ _ => rfl)) pe_str (nomark _)))))))), ?_⟩
  refine ⟨_, rfl, _, rfl, z, _, _, rfl, hz, fun H1 s1 => ?_⟩
  have fin : ∀ b c : Bool, isFig z m = (b && c) → Q (.bl (b && c)) H1 := fun b c e => by rw [← e]; exact q _ s1
  refine ⟨_, rfl, ?_⟩
  refine ite2 (fun c => ?_) (fun c => ?_)
  · have c1 := c
    rw [Bool.and_eq_true] at c1
    have l1 : 1 ≤ z.length := (of_decide_eq_true c1.1).1
    obtain ⟨c0, hc0⟩ : ∃ c0, z.cps.toList[0]? = some c0 := ⟨z.cps.toList[0]'(by rw [Array.length_toList]; exact l1), by simp⟩
    have ef : isFig z m = (z == "0" || !(some c0 == some 48)) := by unfold isFig; rw [c, hc0, Bool.true_and]
    refine ⟨_, rfl, rfl, ?_⟩
    refine ⟨_, rfl, ?_⟩
    refine ite2 (fun d => ?_) (fun d => ?_)
    · have e : z = "0" := by have := of_decide_eq_true d; injection this
      have := q _ s1
      rw [ef, e, show (("0" : Str) == ("0" : Str)) = true from rfl, Bool.true_or] at this; exact this
    · have e : (z == "0") = false := by
        rw [dec_str] at d
        exact Bool.eq_false_iff.mpr d
      refine ⟨_, rfl, z, 0, c0, rfl, rfl, small (m := 100000) hz, atI_nat (j := 0) hc0, rfl, ?_⟩
      have := q _ s1
      rw [ef, e, Bool.false_or] at this
      have e2 : decide (V.str ⟨#[c0]⟩ = V.str "0") = (some c0 == some 48) := by
        rw [dec_str]
        by_cases h : c0 = 48
        · subst h; rfl
        · have h1 : (some c0 == some 48) = false := by simp [h]
          rw [h1]
          refine Bool.eq_false_iff.mpr fun k => h ?_
          have := eq_of_beq k
          have e3 : (⟨#[c0]⟩ : Str).cps = (Str.ofString "0").cps := by rw [this]
          have e4 : (#[c0] : Array Nat) = #[48] := e3
          simpa using e4
      rw [e2]; exact this
  · have e : isFig z m = false := by unfold isFig; rw [Bool.eq_false_iff.mpr c, Bool.false_and]
    have := q _ s1
    rw [e] at this; exact this
def spNum : Sp := fun vs H Q _ => ∃ z : Str, vs = [.str z] ∧ z.length ≤ 100000 ∧ ∀ H', Same H H' → Q (.bl (isFig z 9)) H'
theorem ok_num (F : DefAt K mg "is_number" s_is_number ["word"]) (T : Txt mg) (D_is_figures : Dn P w K mg base "is_figures" 2 ["word", "most"] spFig) : Dn P w K mg base "is_number" 3 ["word"] spNum := by
  have sc := sc_is_number
  refine F.ok sc (fun vs H Q E h => ?_) (fun f cdv A outer s H vs Q E hr h => ?_)
  · obtain ⟨_, rfl, _⟩ := h; rfl
  obtain ⟨z, rfl, hz, q⟩ := h
  refine ⟨_, (pss_one (ps_ret (pe_dn D_is_figures hr (pa_cons (pv 0) (pa_cons (pe_gint T.g_MOST_NUMBER_FIGURES) pa_nil))))), ?_⟩
  exact ⟨_, rfl, z, _, rfl, hz, fun H' s' => q _ s'⟩
theorem inT_mem (x : Str) (c : Nat) : inT x c = decide (c ∈ x.cps.toList) := PySem.StrLaws.found_one x c
def intS (i : Int) : Str := toString i
theorem name_few {z : Str} (h : isName z = true) : 1 ≤ z.length ∧ z.length ≤ 8 ∧ ∀ c ∈ z.cps.toList, 97 ≤ c ∧ c ≤ 122 := by
  unfold isName at h
  rw [Bool.and_eq_true] at h
  have h1 := of_decide_eq_true h.1
  refine ⟨h1.1, by omega, fun c hc => ?_⟩
  have h2 := List.all_eq_true.mp h.2 c hc
  rw [inT_mem] at h2
  have h3 := of_decide_eq_true h2
  have h4 : ("abcdefghijklmnopqrstuvwxyz" : Str).cps.toList.all (fun c => decide (97 ≤ c ∧ c ≤ 122)) = true := by decide +kernel
  exact of_decide_eq_true (List.all_eq_true.mp h4 c h3)
theorem flat_mem {s : List Nat} : ∀ (ps : List (List Nat)) (c : Nat), c ∈ flatL s ps → c ∈ s ∨ ∃ p ∈ ps, c ∈ p
  | [], _, h => by cases h
  | [p], c, h => .inr ⟨p, List.mem_cons_self, h⟩
  | p :: q :: r, c, h => by
    have h' : c ∈ p ++ s ++ flatL s (q :: r) := h
    rcases List.mem_append.mp h' with h | h
    · rcases List.mem_append.mp h with h | h
      · exact .inr ⟨p, List.mem_cons_self, h⟩
      · exact .inl h
    · rcases flat_mem (q :: r) c h with h | ⟨x, hx, h⟩
      · exact .inl h
      · exact .inr ⟨x, List.mem_cons_of_mem _ hx, h⟩
theorem sum_le (B : Nat) : ∀ (l : List Str), (∀ x ∈ l, x.length ≤ B) → (l.map fun x => x.length).sum ≤ l.length * B
  | [], _ => by simp
  | x :: r, h => by
    have := sum_le B r fun y hy => h y (List.mem_cons_of_mem _ hy)
    have h0 := h x List.mem_cons_self
    rw [List.map_cons, List.sum_cons, List.length_cons, Nat.succ_mul]
    omega
theorem join_few {y : Str} {ps : List Str} {B : Nat} (h : ∀ x ∈ ps, x.length ≤ B) : (Txt.join y ps).length ≤ ps.length * (B + y.length) := by
  have h1 := StrLaws.join_length_le y ps
  have h2 := sum_le B ps h
  show (Builtin.Str.glued y ps).length ≤ _
  rw [StrLaws.glued_eq_join, Nat.mul_add]
  omega
theorem app_len (x y : Str) : (x ++ y).length = x.length + y.length := by rw [str_len, app_list, List.length_append, ← str_len, ← str_len]
def sgn (hand : Int) : Nat := if hand = 0 then 43 else 45
def numKV (names : List Str) : List (Key × V) := names.zipIdx.map fun p => (.inr p.1, .int (p.2 : Nat))
theorem put_new : ∀ (l c : List (Key × V)), (∀ p ∈ l, p.1 ∉ c.map (·.1)) → (l.map (·.1)).Nodup → putAll c l = c ++ l
  | [], c, _, _ => by rw [List.append_nil]; rfl
  | p :: r, c, h, hn => by
    show putAll (putK c p.1 p.2) r = _
    have h1 : ¬ (c.any fun kv => decide (kv.1 = p.1)) = true := fun z => by
      obtain ⟨q, hq, e⟩ := List.any_eq_true.mp z
      exact h p List.mem_cons_self (List.mem_map.mpr ⟨q, hq, of_decide_eq_true e⟩)
    have e : putK c p.1 p.2 = c ++ [p] := by unfold putK; rw [if_neg h1]
    rw [List.map_cons, List.nodup_cons] at hn
    rw [e, put_new r (c ++ [p]) (fun q hq z => ?_) hn.2, List.append_assoc]; rfl
    rw [List.map_append] at z
    rcases List.mem_append.mp z with z | z
    · exact h q (List.mem_cons_of_mem _ hq) z
    · have z : q.1 = p.1 := by simpa using z
      exact hn.1 (by rw [← z]; exact List.mem_map.mpr ⟨q, hq, rfl⟩)
theorem num_find : ∀ (names : List Str) (i k : Nat) (z : Str), names.Nodup → names[i]? = some z → valV ((names.zipIdx k).map fun p => ((.inr p.1 : Key), V.int (p.2 : Nat))) (.inr z) = some (.int ((k + i : Nat)))
  | [], i, k, z, _, h => by cases h
  | y :: r, i, k, z, hn, h => by
    rw [List.zipIdx_cons, List.map_cons]
    rw [List.nodup_cons] at hn
    unfold valV
    cases i with
    | zero =>
      have e : y = z := by simpa using h
      subst e
      rw [List.find?_cons_of_pos (by simp)]; rfl
    | succ i =>
      have h' : r[i]? = some z := by simpa using h
      have hne : y ≠ z := fun e => hn.1 (by rw [e]; exact List.mem_of_getElem? h')
      rw [List.find?_cons_of_neg (by simp [hne])]
      have := num_find r i (k + 1) z hn.2 h'
      unfold valV at this
      rw [this, show k + 1 + i = k + (i + 1) by omega]
theorem good_not {G : List Row} (h : GGood G) {x : Str} : ¬ GBad G x := by
  rintro (⟨_, h1⟩ | ⟨_, i, r, hi, hb, _⟩ | ⟨_, _, _, h16, h2⟩)
  · have := h.1; omega
  · obtain ⟨g1, g2, g3⟩ := h.2.1 r (List.mem_of_getElem? hi)
    rcases hb with ⟨_, h1⟩ | ⟨_, _, h1⟩ | ⟨_, _, _, h1⟩
    · exact h1 g1
    · exact h1 g2
    · exact h1 g3
  · exact h.2.2 ⟨h16, h2⟩
def lt1 (t : Int) : Nat := 97 + t.toNat
def abc : Str := "abcdefghijklmnopqrstuvwxyz"
theorem abc_at : ∀ t : Int, 0 ≤ t → t < 26 → atI abc.cps.toList t = some (lt1 t) := by
  have h : (List.range 26).all (fun k => decide (atI abc.cps.toList ((k : Nat) : Int) = some (lt1 ((k : Nat) : Int)))) = true := by decide +kernel
  intro t h0 h1
  have := List.all_eq_true.mp h t.toNat (List.mem_range.mpr (by omega))
  rw [show ((t.toNat : Nat) : Int) = t by omega] at this
  exact of_decide_eq_true this
theorem name_back {l : List Nat} (h1 : 1 ≤ l.length) (h8 : l.length ≤ 8) (h : ∀ c ∈ l, 97 ≤ c ∧ c ≤ 122) : isName ⟨l.toArray⟩ = true := by
  have hb : (List.range 26).all (fun k => decide (97 + k ∈ abc.cps.toList)) = true := by decide +kernel
  have el : (⟨l.toArray⟩ : Str).length = l.length := by rw [str_len]
  unfold isName
  rw [Bool.and_eq_true]
  refine ⟨decide_eq_true (by rw [el]; omega), List.all_eq_true.mpr fun c hc => ?_⟩
  rw [inT_mem]
  refine decide_eq_true ?_
  have hc' := h c hc
  have := of_decide_eq_true (List.all_eq_true.mp hb (c - 97) (List.mem_range.mpr (by omega)))
  rw [show 97 + (c - 97) = c by omega] at this
  exact this
theorem lt1_in {t : Int} (h0 : 0 ≤ t) (h1 : t < 26) : 97 ≤ lt1 t ∧ lt1 t ≤ 122 := by unfold lt1; omega
def wrd (l : List Int) : Str := ⟨(l.map lt1).toArray⟩
theorem wrd_list (l : List Int) : (wrd l).cps.toList = l.map lt1 := rfl
theorem wrd_len (l : List Int) : (wrd l).length = l.length := by rw [str_len, wrd_list, List.length_map]
theorem wrd_snoc (l : List Int) (t : Int) : wrd l ++ ⟨#[lt1 t]⟩ = wrd (l ++ [t]) := by
  have := app_list (wrd l) ⟨#[lt1 t]⟩
  rw [wrd_list] at this
  rw [str_list this]
  unfold wrd
  rw [List.map_append]; rfl
theorem wrd_name {l : List Int} (h1 : 1 ≤ l.length) (h8 : l.length ≤ 8) (h : ∀ t ∈ l, 0 ≤ t ∧ t < 26) : isName (wrd l) = true := by
  refine name_back (by rw [List.length_map]; exact h1) (by rw [List.length_map]; exact h8) fun c hc => ?_
  obtain ⟨t, ht, rfl⟩ := List.mem_map.mp hc
  exact lt1_in (h t ht).1 (h t ht).2
theorem wrd_inj {l l' : List Int} (h : ∀ t ∈ l, 0 ≤ t) (h' : ∀ t ∈ l', 0 ≤ t) (e : wrd l = wrd l') : l = l' := by
  have e1 : l.map lt1 = l'.map lt1 := by rw [← wrd_list, ← wrd_list, e]
  have back : ∀ l : List Int, (∀ t ∈ l, 0 ≤ t) → (l.map lt1).map (fun c : Nat => (c : Int) - 97) = l := fun l hl => by
    rw [List.map_map]
    have : l.map ((fun c : Nat => (c : Int) - 97) ∘ lt1) = l.map id := List.map_congr_left fun t ht => by
      have := hl t ht
      show ((lt1 t : Nat) : Int) - 97 = t
      unfold lt1; omega
    rw [this, List.map_id]
  rw [← back l h, ← back l' h', e1]
theorem map_nodup {f : Nat → Str} {n : Nat} (h : ∀ i j, i < n → j < n → f i = f j → i = j) : ((List.range n).map f).Nodup := by
  unfold List.Nodup
  rw [List.pairwise_map]
  exact List.Pairwise.imp_of_mem (fun ha hb hne e => hne (h _ _ (List.mem_range.mp ha) (List.mem_range.mp hb) e)) List.nodup_range
theorem fig_in {c : Nat} : inT "0123456789" c = isG c := by
  rw [inT_mem]
  unfold isG
  rw [Bool.eq_iff_iff, decide_eq_true_eq, Bool.and_eq_true, decide_eq_true_eq, decide_eq_true_eq]
  have e : ("0123456789" : Str).cps.toList = [48, 49, 50, 51, 52, 53, 54, 55, 56, 57] := by decide +kernel
  rw [e]
  simp
  omega
theorem let_in {c : Nat} : inT "abcdefghijklmnopqrstuvwxyz" c = isL c := by
  rw [inT_mem]
  unfold isL
  rw [Bool.eq_iff_iff, decide_eq_true_eq, Bool.and_eq_true, decide_eq_true_eq, decide_eq_true_eq]
  have e : ("abcdefghijklmnopqrstuvwxyz" : Str).cps.toList = [97, 98, 99, 100, 101, 102, 103, 104, 105, 106, 107, 108, 109, 110, 111, 112, 113, 114, 115, 116, 117, 118, 119, 120, 121, 122] := by decide +kernel
  rw [e]
  simp
  omega
theorem name_l {z : Str} (h : isName z = true) : NameL z.cps.toList := by
  unfold isName at h
  rw [Bool.and_eq_true] at h
  have h1 := of_decide_eq_true h.1
  rw [str_len] at h1
  exact ⟨h1.1, by omega, fun c hc => by rw [← let_in]; exact List.all_eq_true.mp h.2 c hc⟩
theorem num_l {z : Str} (h : isFig z 9 = true) : NumL z.cps.toList := by
  unfold isFig at h
  rw [Bool.and_eq_true, Bool.and_eq_true, Bool.or_eq_true] at h
  obtain ⟨⟨h1, h2⟩, h3⟩ := h
  have h1 := of_decide_eq_true h1
  rw [str_len] at h1
  refine ⟨h1.1, by omega, fun c hc => by rw [← fig_in]; exact List.all_eq_true.mp h2 c hc, ?_⟩
  rcases h3 with h3 | h3
  · rw [eq_of_beq h3]; exact .inl (by decide +kernel)
  · refine .inr fun r e => ?_
    rw [e] at h3
    simp at h3
theorem fig_of {z : Str} (h : NumL z.cps.toList) : isFig z 9 = true := by
  unfold isFig
  rw [Bool.and_eq_true, Bool.and_eq_true, Bool.or_eq_true, str_len]
  refine ⟨⟨decide_eq_true ⟨h.one, by have := h.few; omega⟩, List.all_eq_true.mpr fun c hc => by rw [fig_in]; exact h.all c hc⟩, ?_⟩
  rcases h.lead with e | e
  · exact .inl (by rw [str_list e]; decide +kernel)
  · refine .inr ?_
    cases hz : z.cps.toList with
    | nil => have := h.one; rw [hz] at this; simp at this
    | cons c r =>
      have : c ≠ 48 := fun e2 => e r (by rw [hz, e2])
      simp [this]
theorem num_gen {z : Int} (h0 : 0 ≤ z) (h1 : z < 1000000000) : isFig (intS z) 9 = true ∧ intText? (intS z) = some z ∧ (∀ c ∈ (intS z).cps.toList, 48 ≤ c ∧ c ≤ 57) ∧ (intS z).length ≤ 9 := by
  have ht : (intS z).cps.toList = dl z.natAbs := pos_text h0
  have hl : (dl z.natAbs).length ≤ 9 := dl_le (by decide) (by omega)
  have ha := dl_all z.natAbs
  refine ⟨fig_of ?_, (int_back z (Nat.lt_of_lt_of_le (show z.natAbs < 1000000000 by omega) (by decide))).1, fun c hc => by rw [ht] at hc; exact ha c hc, by rw [str_len, ht]; exact hl⟩
  rw [ht]
  refine ⟨dl_len _, hl, fun c hc => ?_, ?_⟩
  · have := ha c hc
    unfold isG
    rw [decide_eq_true this.1, decide_eq_true this.2]; rfl
  · by_cases e : z.natAbs = 0
    · rw [e, dl_zero]; exact .inl rfl
    · exact .inr fun r er => e (dl_head er)
def numI (m : Str) : Int := (intText? m).getD 0
theorem numI_is {m : Str} (h : isFig m 9 = true) : intText? m = some (numI m) := by
  have n := num_l h
  have e := intText_digits (x := m) (fun c hc => by
    have := n.all c hc
    unfold isG at this
    rw [Bool.and_eq_true] at this
    exact ⟨of_decide_eq_true this.1, of_decide_eq_true this.2⟩) (fun e => by have := n.one; rw [e] at this; simp at this) (by have := n.few; rw [← str_len] at this; omega)
  unfold numI
  rw [e]; rfl
theorem numI_s {z : Int} (h0 : 0 ≤ z) (h1 : z < 1000000000) : numI (intS z) = z := by unfold numI; rw [(num_gen h0 h1).2.1]; rfl
theorem split_cps (t y : Str) : t.cps.toList = flatL y.cps.toList ((Txt.split t y).map fun p => p.cps.toList) := by
  rw [← flat_join]
  show _ = (Builtin.Str.glued y (Txt.split t y)).cps.toList
  rw [StrLaws.glued_eq_join, StrLaws.join_split]
theorem flat_ge {s : List Nat} : ∀ (ps : List (List Nat)), (∀ p ∈ ps, p.length ≤ (flatL s ps).length) ∧ (1 ≤ s.length → ps.length ≤ (flatL s ps).length + 1)
  | [] => ⟨(fun p h => by cases h), fun _ => Nat.zero_le _⟩
  | [p] => ⟨(fun q h => by rw [List.mem_singleton.mp h]; exact Nat.le_refl _), fun _ => by simp⟩
  | p :: q :: r => by
    obtain ⟨h1, h2⟩ := flat_ge (s := s) (q :: r)
    have e : (flatL s (p :: q :: r)).length = p.length + s.length + (flatL s (q :: r)).length := by
      show (p ++ s ++ flatL s (q :: r)).length = _
      rw [List.length_append, List.length_append]
    refine ⟨fun x hx => ?_, fun hs => ?_⟩
    · rw [e]
      rcases List.mem_cons.mp hx with rfl | hx
      · omega
      · have := h1 x hx; omega
    · have := h2 hs
      rw [e, List.length_cons]
      omega
theorem split_few (t y : Str) (hy : 1 ≤ y.cps.toList.length) : (∀ p ∈ Txt.split t y, p.length ≤ t.length) ∧ (Txt.split t y).length ≤ t.length + 1 := by
  have h := flat_ge (s := y.cps.toList) ((Txt.split t y).map fun p => p.cps.toList)
  rw [← split_cps, ← str_len] at h
  refine ⟨fun p hp => ?_, by have := h.2 hy; rwa [List.length_map] at this⟩
  have := h.1 _ (List.mem_map.mpr ⟨p, hp, rfl⟩)
  rwa [← str_len] at this
def spFormX (K : PySem.W.Frag) : Sp := fun vs H Q E => ∃ b : Bool, vs = [.bl b] ∧ (b = true → Q .non H) ∧ (b = false → E (.ref (clK K "NoText")) none H)
theorem ok_formX (F : DefAt K mg "check_form" s_check_form ["right"]) (T : Txt mg) (XC : XT K mg "GarthError" xRs xNs) : DnX P w K mg base "check_form" 1 ["right"] (spFormX K) := by
  have sc := sc_check_form
  refine F.okX sc (fun vs H Q E h => ?_) (fun f cdv A outer s H vs Q E hr h => ?_)
  · obtain ⟨_, rfl, _⟩ := h; rfl
  obtain ⟨b, rfl, q1, q2⟩ := h
  refine ⟨_, (pss_one (ps_if (pt_not (pt_val (pv 0)))
      (pss_one (ps_raise raisesR (XC.m "NoText" (by decide)) (XC.exc "NoText" (by decide)) (pa_cons pe_str pa_nil)))
      pss_nil)), ?_⟩
  refine ⟨_, rfl, _, rfl, ?_⟩
  cases b with
  | true => exact iteF (q1 rfl)
  | false => exact iteT ⟨(by show 1 ≤ sizeLine; decide), q2 rfl⟩
theorem inV_str (x : Str) (l : List Str) : inV (.str x) (l.map V.str) = decide (x ∈ l) := by
  unfold inV
  rw [Bool.eq_iff_iff, List.any_eq_true, decide_eq_true_eq]
  constructor
  · rintro ⟨v, hv, e⟩
    obtain ⟨y, hy, rfl⟩ := List.mem_map.mp hv
    have : y = x := by simpa [eqV] using e
    exact this ▸ hy
  · intro h
    exact ⟨.str x, List.mem_map.mpr ⟨x, h, rfl⟩, by simp [eqV]⟩
theorem pr_len {α β : Type} {F : α → β → Prop} : ∀ {xs : List α} {ys : List β}, Paired F xs ys → xs.length = ys.length
  | _, _, .nil => rfl
  | _, _, .cons _ t => by rw [List.length_cons, List.length_cons, pr_len t]
theorem split_ne (t y : Str) : Txt.split t y ≠ [] := by
  unfold Txt.split
  split
  · simp
  · split
    · simp
    · rw [StrLaws.partsBetween_eq]
      intro e
      cases h : Builtin.Str.occurrences t y 0 t.length (t.length + 1) with
      | nil => rw [h, StrLaws.partsFrom.eq_1] at e; cases e
      | cons i r => rw [h, StrLaws.partsFrom.eq_2] at e; cases e
def spToldX (K : PySem.W.Frag) : Sp := fun vs H Q E => ∃ v : V, vs = [v] ∧
  ((∃ S, kindV H v S ∧ PySem.W.kitOne K (.type S) (.type "str") = some false ∧ ∀ H', Same H H' → E (.ref (clK K "NoText")) none H') ∨
   ∃ z : Str, v = .str z ∧ z.length ≤ 100000 ∧ ∀ (p : Addr) (H' : Hp), Same H H' → H p = none → H' p = some (.lst ((if z.length = 0 then [] else Txt.split z "; ").map V.str)) → Q (.ref p) H')
theorem ok_toldX (F : DefAt K mg "places_told" s_places_told ["text"]) (T : Txt mg) (D_check_form : DnX P w K mg base "check_form" 1 ["right"] (spFormX K)) : DnX P w K mg base "places_told" 2 ["text"] (spToldX K) := by
  have sc := sc_places_told
  refine F.okX sc (fun vs H Q E h => ?_) (fun f cdv A outer s H vs Q E hr h => ?_)
  · obtain ⟨_, rfl, _⟩ := h; rfl
  obtain ⟨v, rfl, h⟩ := h
  refine ⟨_, (pss_cons (ps_expr (pe_dnX passR D_check_form hr (pa_cons (pe_callB (clIsi (K := K) rfl (T := "str")) rfl T.b_isinstance PyProof.Rows.boot_isinstance (pa_cons (pv 0) (pa_cons (pe_bltn (v := .ty "str") rfl T.b_str PyProof.Rows.boot_str rfl) pa_nil))) pa_nil)))
      (pss_one (ps_ret (pe_ifExp (pt_truth (pv 0) (by intro _; rfl)) (pe_bm PySem.F.plainAttrs_str PySem.F.slot_str_split PySem.F.type_str_split mt_split (pv 0) (pa_cons pe_str pa_nil)) (pe_lst pa_nil))))), ?_⟩
  rcases h with ⟨S, hk, kt, q⟩ | ⟨z, rfl, hz, q⟩
  · exact ⟨_, rfl, _, S, _, rfl, hk, kt, false, rfl, (fun z => by cases z), fun _ => q _ (Same.refl _)⟩
  refine ⟨_, rfl, _, "str", _, rfl, rfl, isi_same _, true, rfl, fun _ => ?_, (fun z => by cases z)⟩
  refine ⟨_, rfl, decide (z.length ≠ 0), ?_, ?_⟩
  · refine ⟨small (m := 100000) hz, ?_⟩
    by_cases e : z.length = 0
    · rw [e]; rfl
    · rw [decide_eq_true e]
      symm
      simp [e]
  refine ite2 (fun c => ?_) (fun c => ?_)
  · have e : z.length ≠ 0 := of_decide_eq_true c
    refine ⟨_, rfl, rfl, z, _, rfl, rfl, rfl, small (m := 100002) (by omega), fun p hp => ?_⟩
    refine q p _ (same_upd hp _) hp ?_
    rw [if_neg e, upd_same]
  · have e : z.length = 0 := Classical.byContradiction fun e => c (decide_eq_true e)
    refine ⟨Nat.zero_le _, fun p hp => ?_⟩
    refine q p _ (same_upd hp _) hp ?_
    rw [if_pos e, upd_same]; rfl
def HdP (w nm : Str) (h : Int) (d : Str) : Prop := (inT w 43 = true ∧ h = 0 ∧ ∃ s, Txt.partition w "+" = (nm, s, d)) ∨ (inT w 43 = false ∧ inT w 45 = true ∧ h = 1 ∧ ∃ s, Txt.partition w "-" = (nm, s, d))
def spHeadX (K : PySem.W.Frag) : Sp := fun vs H Q E => ∃ w : Str, vs = [.str w] ∧ w.length ≤ 100000 ∧
  (∀ nm h d, HdP w nm h d → isName nm = true → ∀ (p : Addr) (H' : Hp), Same H H' → H p = none → H' p = some (.tup [.str nm, .int h, .str d]) → Q (.ref p) H') ∧ ((∀ nm h d, HdP w nm h d → isName nm = true → False) → ∀ H', Same H H' → E (.ref (clK K "NoText")) none H')
theorem ok_headX (F : DefAt K mg "read_head" s_read_head ["word"]) (T : Txt mg) (D_check_form : DnX P w K mg base "check_form" 1 ["right"] (spFormX K)) (D_is_name : Dn P w K mg base "is_name" 2 ["word"] spName) : DnX P w K mg base "read_head" 3 ["word"] (spHeadX K) := by
  have sc := sc_read_head
  refine F.okX sc (fun vs H Q E h => ?_) (fun f cdv A outer s H vs Q E hr h => ?_)
  · obtain ⟨_, rfl, _⟩ := h; rfl
  obtain ⟨wd, rfl, hw, q1, q2⟩ := h
  refine ⟨_, (pss_cons (ps_lc (i := 1) (defScope s_read_head) ["word", "found", "parts"] ["hand", "sign", "word"] 2 [0] sc.nd rfl rfl (pi_enumS rfl T.b_enumerate (pa_cons (pe_gstr T.g_HAND_SIGNS) pa_nil)) (fun _ _ _ _ _ _ => (ptg2 (K := K) rfl rfl (show List.Nodup (["hand", "sign", "word"] : List Str) by decide +kernel) rfl rfl rfl rfl)) (fun _ _ _ _ _ _ => (pts_one (pt_cmpR op_in_str (pv 1) (pv 2) rfl))) (fun _ _ _ _ _ _ => (pv 0)))
      (pss_cons (ps_expr (pe_dnX passR D_check_form hr (pa_cons (pe_cmpR op_gt (pe_callB (clLen (K := K) rfl) rfl T.b_len PySem.boot_len (pa_cons (pv 1) pa_nil)) pe_int (nomark _)) pa_nil)))
      (pss_cons (ps_set (i := 2) sc.nd rfl (Or.inl rfl) (pe_bm PySem.F.plainAttrs_str PySem.F.slot_str_partition PySem.F.type_str_partition mt_partition (pv 0) (pa_cons (pe_ix ix_str (pe_gstr T.g_HAND_SIGNS) (pe_ix (ixL (K := K) rfl) (pv 1) pe_int (fun _ _ => rfl)) (fun _ _ => rfl)) pa_nil)))
      (pss_cons (ps_expr (pe_dnX passR D_check_form hr (pa_cons (pe_dn D_is_name hr (pa_cons (pe_ix (ixT (K := K) rfl) (pv 2) pe_int (fun _ _ => rfl)) pa_nil)) pa_nil)))
      (pss_one (ps_ret (pe_tup (pa_cons (pe_ix (ixT (K := K) rfl) (pv 2) pe_int (fun _ _ => rfl)) (pa_cons (pe_ix (ixL (K := K) rfl) (pv 1) pe_int (fun _ _ => rfl)) (pa_cons (pe_ix (ixT (K := K) rfl) (pv 2) pe_int (fun _ _ => rfl)) pa_nil)))))))))), ?_⟩
  obtain ⟨f0, hf0⟩ : ∃ f0 : List V, f0 = if inT wd 43 = true then [V.int 0] else [] := ⟨_, rfl⟩
  obtain ⟨f1, hf1⟩ : ∃ f1 : List V, f1 = if inT wd 45 = true then [V.int 1] else [] := ⟨_, rfl⟩
  have l0 : f0.length ≤ 1 := by rw [hf0]; split <;> simp
  have l1 : f1.length ≤ 1 := by rw [hf1]; split <;> simp
  refine ⟨"+-", rfl, comp_enumSD (z := "+-") (fun i ys H3 => Same H H3 ∧ ys = (if i = 0 then [] else if i = 1 then f0 else f0 ++ f1)) ⟨Same.refl _, rfl⟩ (by decide +kernel) (fun i ys H3 hi h => ?_) (fun i c T0 ys H3 hi h hT => ?_) (fun ys H3 h p hp => ?_)⟩
  · obtain ⟨_, rfl⟩ := h
    by_cases h0 : i = 0
    · rw [if_pos h0]; exact Nat.zero_le _
    · rw [if_neg h0]
      by_cases h1 : i = 1
      · rw [if_pos h1]; omega
      · rw [if_neg h1, List.length_append]; omega
  · obtain ⟨s3, rfl⟩ := h
    have s4 := s3.trans (same_upd hT (.tup [.int (i : Nat), .str ⟨#[c]⟩]))
    have hi2 : i < 2 := (Array.getElem?_eq_some_iff.mp hi).1
    have hiT : ∀ c, (!(Builtin.Str.occurrences wd ⟨#[c]⟩ 0 wd.length 1).isEmpty) = inT wd c := fun _ => rfl
    rcases (show i = 0 ∨ i = 1 by omega) with rfl | rfl
    · have ec : 43 = c := Option.some.inj (show some 43 = some c from hi)
      subst ec
      refine ⟨T0, _, rfl, SqT.of upd_same, rfl, ?_⟩
      refine ⟨_, rfl, _, rfl, _, _, rfl, rfl, _, rfl, ?_⟩
      rw [hiT]
      refine ite2 (fun b => ?_) (fun b => ?_)
      · exact ⟨_, rfl, s4, by rw [if_pos rfl, if_neg (by decide), if_pos rfl, hf0, if_pos b]; rfl⟩
      · exact ⟨s4, by rw [if_pos rfl, if_neg (by decide), if_pos rfl, hf0, if_neg b]⟩
    · have ec : 45 = c := Option.some.inj (show some 45 = some c from hi)
      subst ec
      refine ⟨T0, _, rfl, SqT.of upd_same, rfl, ?_⟩
      refine ⟨_, rfl, _, rfl, _, _, rfl, rfl, _, rfl, ?_⟩
      rw [hiT]
      refine ite2 (fun b => ?_) (fun b => ?_)
      · refine ⟨_, rfl, s4, ?_⟩
        rw [if_neg (by decide), if_pos rfl, if_neg (by decide), if_neg (by decide), hf1, if_pos b]; rfl
      · refine ⟨s4, ?_⟩
        rw [if_neg (by decide), if_pos rfl, if_neg (by decide), if_neg (by decide), hf1, if_neg b, List.append_nil]
  obtain ⟨s3, rfl⟩ := h
  have ee : (if ("+-" : Str).cps.size = 0 then [] else if ("+-" : Str).cps.size = 1 then f0 else f0 ++ f1) = f0 ++ f1 := rfl
  rw [ee]
  have s4 := s3.trans (same_upd hp (.lst (f0 ++ f1)))
  have hp1 : upd H3 p (.lst (f0 ++ f1)) p = some (.lst (f0 ++ f1)) := upd_same
  generalize upd H3 p (.lst (f0 ++ f1)) = H4 at s4 hp1 ⊢
  refine ⟨_, rfl, p, _, rfl, .inl (SqL.of hp1), _, _, rfl, rfl, _, rfl, fun c => ?_, fun c => q2 (fun nm h d z _ => ?_) _ s4⟩
  rotate_left
  · have c' : ¬ (0 : Int) < (((f0 ++ f1).length : Nat) : Int) := fun z => by rw [decide_eq_true z] at c; cases c
    have z0 : f0 = [] := List.length_eq_zero_iff.mp (by rw [List.length_append] at c'; omega)
    have z1 : f1 = [] := List.length_eq_zero_iff.mp (by rw [List.length_append] at c'; omega)
    rcases z with ⟨e, _⟩ | ⟨_, e, _⟩
    · rw [hf0, if_pos e] at z0; cases z0
    · rw [hf1, if_pos e] at z1; cases z1
  have c' : (0 : Int) < (((f0 ++ f1).length : Nat) : Int) := of_decide_eq_true c
  obtain ⟨hand, rest, eh, hh, hsg⟩ : ∃ (hand : Int) (rest : List V), f0 ++ f1 = V.int hand :: rest ∧ (hand = 0 ∨ hand = 1) ∧ ((inT wd 43 = true ∧ hand = 0) ∨ (inT wd 43 = false ∧ inT wd 45 = true ∧ hand = 1)) := by
    cases b0 : inT wd 43 with
    | true => rw [hf0, if_pos b0]; exact ⟨0, f1, rfl, .inl rfl, .inl ⟨rfl, rfl⟩⟩
    | false =>
      rw [hf0, if_neg (by rw [b0]; decide)] at c' ⊢
      cases b1 : inT wd 45 with
      | true => rw [hf1, if_pos b1]; exact ⟨1, [], rfl, .inr rfl, .inr ⟨rfl, rfl, rfl⟩⟩
      | false => rw [hf1, if_neg (by rw [b1]; decide)] at c'; simp at c'
  rw [eh] at hp1
  have hat : atI (("+-" : Str).cps.toList) hand = some (sgn hand) := by rcases hh with rfl | rfl <;> rfl
  refine ⟨_, rfl, rfl, _, rfl, p, _, _, _, rfl, rfl, SqL.of hp1, atI_nat (j := 0) rfl, "+-", hand, sgn hand, rfl, rfl, (by decide +kernel), hat, _, _, rfl, rfl, rfl, small (m := 100000) hw, fun tp htp => ?_⟩
  obtain ⟨nm, sep, d, hpt⟩ : ∃ nm sep d, Txt.partition wd ⟨#[sgn hand]⟩ = (nm, sep, d) := ⟨_, _, _, rfl⟩
  have psum := StrLaws.partition_sum wd ⟨#[sgn hand]⟩
  rw [hpt] at psum
  have plen : nm.length + sep.length + d.length = wd.length := by rw [← psum, app_len, app_len]
  rw [hpt]
  have hd1 : HdP wd nm hand d := by
    rcases hsg with ⟨e, rfl⟩ | ⟨e1, e2, rfl⟩
    · exact .inl ⟨e, rfl, sep, hpt⟩
    · exact .inr ⟨e1, e2, rfl, sep, hpt⟩
  have uniq : ∀ nm' h' d', HdP wd nm' h' d' → nm' = nm ∧ h' = hand ∧ d' = d := fun nm' h' d' z => by
    rcases z with ⟨e, rfl, s', ep⟩ | ⟨e1, e2, rfl, s', ep⟩
    · rcases hsg with ⟨_, rfl⟩ | ⟨e', _⟩
      · have := hpt.symm.trans ep
        injection this with a1 a2
        injection a2 with _ a3
        exact ⟨a1.symm, rfl, a3.symm⟩
      · rw [e] at e'; cases e'
    · rcases hsg with ⟨e', _⟩ | ⟨_, _, rfl⟩
      · rw [e1] at e'; cases e'
      · have := hpt.symm.trans ep
        injection this with a1 a2
        injection a2 with _ a3
        exact ⟨a1.symm, rfl, a3.symm⟩
  have s5 := s4.trans (same_upd htp (.tup [.str nm, .str sep, .str d]))
  have hp2 := same_upd htp (.tup [.str nm, .str sep, .str d]) _ _ hp1
  have ht2 : upd H4 tp (.tup [.str nm, .str sep, .str d]) tp = some (.tup [.str nm, .str sep, .str d]) := upd_same
  generalize upd H4 tp (.tup [.str nm, .str sep, .str d]) = H5 at s5 hp2 ht2 ⊢
  refine ⟨_, rfl, tp, _, _, _, rfl, rfl, SqT.of ht2, atI_nat (j := 0) rfl, nm, rfl, by omega, fun H6 s6 => ⟨_, rfl, fun hn => ?_, fun hn => q2 (fun nm' h' d' z z2 => ?_) _ (s5.trans s6)⟩⟩
  rotate_left
  · rw [(uniq _ _ _ z).1, hn] at z2; cases z2
  refine ⟨_, rfl, tp, _, _, _, rfl, rfl, SqT.of (s6 _ _ ht2), atI_nat (j := 0) rfl, _, rfl, p, _, _, _, rfl, rfl, SqL.of (s6 _ _ hp2), atI_nat (j := 0) rfl, _, rfl, tp, _, _, _, rfl, rfl, SqT.of (s6 _ _ ht2), atI_nat (j := 2) rfl, (by show 3 ≤ sizeLine; decide), fun rp hrp => ?_⟩
  exact q1 nm hand d hd1 hn rp _ (s5.trans (s6.trans (same_upd hrp _))) (s5.free (s6.free hrp)) upd_same
abbrev PTy := Str × Int × Int × List Str
def PlP (t : Str) (p : PTy) : Prop := ∃ w ws nm h d, Txt.split t " " = w :: ws ∧ HdP w nm h d ∧ isName nm = true ∧ isFig d 9 = true ∧ (∀ x ∈ ws, isName x = true) ∧ p = (nm, h, numI d, ws)
def rP : Rel PTy := fun H p v => ∃ t l : Addr, v = .ref t ∧ H t = some (.tup [.str p.1, .int p.2.1, .int p.2.2.1, .ref l]) ∧ H l = some (.lst (p.2.2.2.map V.str))
theorem mono_p : MonoR rP := ⟨fun _ _ p v s h => by
  obtain ⟨t, l, e, h1, h2⟩ := h
  exact ⟨t, l, e, s _ _ h1, s _ _ h2⟩⟩
theorem hd_one {w nm nm' : Str} {h h' : Int} {d d' : Str} (a : HdP w nm h d) (b : HdP w nm' h' d') : nm' = nm ∧ h' = h ∧ d' = d := by
  rcases a with ⟨e, rfl, s, ep⟩ | ⟨e1, e2, rfl, s, ep⟩
  · rcases b with ⟨_, rfl, s', ep'⟩ | ⟨e', _⟩
    · have := ep.symm.trans ep'
      injection this with a1 a2
      injection a2 with _ a3
      exact ⟨a1.symm, rfl, a3.symm⟩
    · rw [e] at e'; cases e'
  · rcases b with ⟨e', _⟩ | ⟨_, _, rfl, s', ep'⟩
    · rw [e1] at e'; cases e'
    · have := ep.symm.trans ep'
      injection this with a1 a2
      injection a2 with _ a3
      exact ⟨a1.symm, rfl, a3.symm⟩
theorem pl_one {t : Str} {p p' : PTy} (a : PlP t p) (b : PlP t p') : p' = p := by
  obtain ⟨w, ws, nm, h, d, e, hd, _, _, _, rfl⟩ := a
  obtain ⟨w', ws', nm', h', d', e', hd', _, _, _, rfl⟩ := b
  rw [e] at e'
  injection e' with e1 e2
  subst e1; subst e2
  obtain ⟨rfl, rfl, rfl⟩ := hd_one hd hd'
  rfl
def spPlX (K : PySem.W.Frag) : Sp := fun vs H Q E => ∃ t : Str, vs = [.str t] ∧ t.length ≤ 100000 ∧ (∀ p, PlP t p → ∀ (v : V) (H' : Hp), Same H H' → rP H' p v → Q v H') ∧ ((∀ p, ¬ PlP t p) → ∀ H', Same H H' → E (.ref (clK K "NoText")) none H')
theorem ok_placeX (F : DefAt K mg "read_place" s_read_place ["text"]) (T : Txt mg) (D_read_head : DnX P w K mg base "read_head" 3 ["word"] (spHeadX K)) (D_check_form : DnX P w K mg base "check_form" 1 ["right"] (spFormX K)) (D_is_number : Dn P w K mg base "is_number" 3 ["word"] spNum) (D_is_name : Dn P w K mg base "is_name" 2 ["word"] spName) : DnX P w K mg base "read_place" 4 ["text"] (spPlX K) := by
  have sc := sc_read_place
  refine F.okX sc (fun vs H Q E h => ?_) (fun f cdv A outer s H vs Q E hr h => ?_)
  · obtain ⟨_, rfl, _⟩ := h; rfl
  obtain ⟨t, rfl, ht, q1, q2⟩ := h
  obtain ⟨fw, fl⟩ := split_few t " " (by decide +kernel)
  refine ⟨_, (pss_cons (ps_set (i := 1) sc.nd rfl (Or.inl rfl) (pe_bm PySem.F.plainAttrs_str PySem.F.slot_str_split PySem.F.type_str_split mt_split (pv 0) (pa_cons pe_str pa_nil)))
      (pss_cons (ps_set (i := 2) sc.nd rfl (Or.inl rfl) (pe_dnX passR D_read_head hr (pa_cons (pe_ix (ixL (K := K) rfl) (pv 1) pe_int (fun _ _ => rfl)) pa_nil)))
      (pss_cons (ps_expr (pe_dnX passR D_check_form hr (pa_cons (pe_dn D_is_number hr (pa_cons (pe_ix (ixT (K := K) rfl) (pv 2) pe_int (fun _ _ => rfl)) pa_nil)) pa_nil)))
      (pss_cons (ps_expr (pe_dnX passR D_check_form hr (pa_cons (pe_callB (call_allL rfl) rfl T.b_all PyProof.Rows.boot_all (pa_cons (pe_lc (defScope s_read_place) ["text", "words", "head"] ["word"] 1 [] (pi_list (pe_slice (slL (K := K) rfl) (pv 1) (po_some pe_int) po_none)) (fun _ _ _ _ _ _ => (ptg_name (show List.Nodup (["word"] : List Str) by decide +kernel) rfl rfl)) (fun _ _ _ _ _ _ => pts_nil) (fun _ _ _ _ _ _ => (pe_dn D_is_name hr (pa_cons (pv 0) pa_nil)))) pa_nil)) pa_nil)))
      (pss_one (ps_ret (pe_tup (pa_cons (pe_ix (ixT (K := K) rfl) (pv 2) pe_int (fun _ _ => rfl)) (pa_cons (pe_ix (ixT (K := K) rfl) (pv 2) pe_int (fun _ _ => rfl)) (pa_cons (pe_callTy call_int_text rfl T.b_int PyProof.Rows.boot_int (pa_cons (pe_ix (ixT (K := K) rfl) (pv 2) pe_int (fun _ _ => rfl)) pa_nil)) (pa_cons (pe_slice (slL (K := K) rfl) (pv 1) (po_some pe_int) po_none) pa_nil))))))))))), ?_⟩
  refine ⟨_, rfl, rfl, t, _, rfl, rfl, rfl, small (m := 100002) (by omega), fun wp hwp => ?_⟩
  obtain ⟨wd, ws, hsp⟩ := List.exists_cons_of_ne_nil (split_ne t " ")
  rw [hsp] at fw fl
  rw [hsp]
  have lwd : wd.length ≤ 100000 := by have := fw wd List.mem_cons_self; omega
  have lws : ws.length ≤ 100000 := by rw [List.length_cons] at fl; omega
  have s1 := same_upd hwp (.lst ((wd :: ws).map V.str))
  have hw1 : upd H wp (.lst ((wd :: ws).map V.str)) wp = some (.lst (V.str wd :: ws.map V.str)) := upd_same
  generalize upd H wp (.lst ((wd :: ws).map V.str)) = H1 at s1 hw1 ⊢
  have inv : ∀ p, PlP t p → ∃ nm h d, HdP wd nm h d ∧ isName nm = true ∧ isFig d 9 = true ∧ (∀ x ∈ ws, isName x = true) ∧ p = (nm, h, numI d, ws) := fun p z => by
    obtain ⟨w', ws', nm, h, d, e, r⟩ := z
    rw [hsp] at e
    injection e with e1 e2
    subst e1; subst e2
    exact ⟨nm, h, d, r⟩
  refine ⟨_, rfl, wp, _, _, _, rfl, rfl, SqL.of hw1, atI_nat (j := 0) rfl, wd, rfl, lwd, fun nm hand d hh hn hp H2 s2 _ hhp => ?_, fun no H2 s2 => q2 (fun p z => ?_) _ (s1.trans s2)⟩
  rotate_left
  · obtain ⟨nm, h, d, a1, a2, _⟩ := inv p z
    exact no nm h d a1 a2
  have dl' : d.length ≤ 100000 := by
    have : d.length ≤ wd.length := by
      rcases hh with ⟨_, _, s', ep⟩ | ⟨_, _, _, s', ep⟩
      · have := StrLaws.partition_sum wd "+"
        rw [ep] at this
        have this' : nm ++ s' ++ d = wd := this
        rw [← this', app_len]; omega
      · have := StrLaws.partition_sum wd "-"
        rw [ep] at this
        have this' : nm ++ s' ++ d = wd := this
        rw [← this', app_len]; omega
    omega
  refine ⟨_, rfl, hp, _, _, _, rfl, rfl, SqT.of hhp, atI_nat (j := 2) rfl, d, rfl, dl', fun H3 s3 => ⟨_, rfl, fun hf => ?_, fun hf => q2 (fun p z => ?_) _ (s1.trans (s2.trans s3))⟩⟩
  rotate_left
  · obtain ⟨nm', h', d', a1, _, a3, _⟩ := inv p z
    rw [(hd_one hh a1).2.2, hf] at a3; cases a3
  have s13 := s2.trans s3
  refine ⟨_, rfl, 1, rfl, wp, _, rfl, SqL.of (s13 _ _ hw1), fun sp hs2 => ?_⟩
  rw [cut_from1]
  have s4 := same_upd hs2 (.lst ((V.str wd :: ws.map V.str).drop 1))
  have hs4 : upd H3 sp (.lst ((V.str wd :: ws.map V.str).drop 1)) sp = some (.lst (ws.map V.str)) := upd_same
  generalize upd H3 sp (.lst ((V.str wd :: ws.map V.str).drop 1)) = H4 at s4 hs4 ⊢
  refine ⟨sp, rfl, ⟨_, SqL.of hs4⟩, comp_listD (K := K) (a := sp) (xs := ws.map V.str) (fun i ys H5 => Same H4 H5 ∧ ys = ((ws.take i).map isName).map V.bl) ⟨Same.refl _, rfl⟩ (small (m := 100000) (by rw [List.length_map]; exact lws)) (fun i ys H5 hi h => ?_) (fun i x ys H5 hi h => ?_) (fun ys H5 h bp hbp => ?_)⟩
  · obtain ⟨s5, rfl⟩ := h
    exact ⟨SqL.of (s5 _ _ hs4), by simp; omega⟩
  · obtain ⟨s5, rfl⟩ := h
    rw [List.getElem?_map] at hi
    obtain ⟨z, hz, rfl⟩ : ∃ z, ws[i]? = some z ∧ x = V.str z := by
      cases e : ws[i]? with
      | none => rw [e] at hi; cases hi
      | some z => rw [e] at hi; cases hi; exact ⟨z, rfl, rfl⟩
    refine comp_yes ?_
    refine ⟨_, rfl, z, rfl, by have := fw z (List.mem_cons_of_mem _ (List.mem_of_getElem? hz)); omega, fun H6 s6 => ⟨s5.trans s6, ?_⟩⟩
    rw [List.take_add_one, hz, List.map_append, List.map_append]; rfl
  obtain ⟨s5, rfl⟩ := h
  rw [List.length_map, List.take_length]
  refine ⟨bp, _, rfl, SqL.of upd_same, ?_⟩
  have s6 := s5.trans (same_upd hbp (.lst ((ws.map isName).map V.bl)))
  generalize upd H5 bp (.lst ((ws.map isName).map V.bl)) = H6 at s6 ⊢
  have s26 := s3.trans (s4.trans s6)
  have s06 := s1.trans (s2.trans s26)
  refine ⟨_, rfl, fun hall => ?_, fun hall => q2 (fun p z => ?_) _ s06⟩
  rotate_left
  · obtain ⟨nm', h', d', _, _, _, a4, _⟩ := inv p z
    rw [List.all_map] at hall
    have : (ws.all (id ∘ isName)) = true := List.all_eq_true.mpr fun m hm => a4 m hm
    rw [this] at hall; cases hall
  have ew : ∀ x ∈ ws, isName x = true := fun m hm => by
    rw [List.all_map] at hall
    exact List.all_eq_true.mp hall m hm
  have h6 := s26 _ _ hhp
  have ld := (num_l hf).few
  rw [← str_len] at ld
  refine ⟨_, rfl, hp, _, _, _, rfl, rfl, SqT.of h6, atI_nat (j := 0) rfl, _, rfl, hp, _, _, _, rfl, rfl, SqT.of h6, atI_nat (j := 1) rfl, _, rfl, hp, _, _, _, rfl, rfl, SqT.of h6, atI_nat (j := 2) rfl, d, numI d, rfl, numI_is hf, by omega, _, rfl, 1, rfl, wp, _, rfl, SqL.of (s26 _ _ (s2 _ _ hw1)), fun l hl2 => ?_⟩
  rw [cut_from1]
  refine ⟨(by show 4 ≤ sizeLine; decide), fun rp hrp => ?_⟩
  exact q1 (nm, hand, numI d, ws) ⟨wd, ws, nm, hand, d, hsp, hh, hn, hf, ew, rfl⟩ _ _ (s06.trans ((same_upd hl2 _).trans (same_upd hrp _))) ⟨rp, l, rfl, upd_same, same_upd hrp _ _ _ upd_same⟩
theorem putK_len (c : List (Key × V)) (k : Key) (v : V) : (putK c k v).length ≤ c.length + 1 ∧ ((putK c k v).length = c.length + 1 → k ∉ c.map (·.1) ∧ putK c k v = c ++ [(k, v)]) := by
  unfold putK
  split
  · rw [List.length_map]
    exact ⟨by omega, fun z => by omega⟩
  · rename_i h
    refine ⟨by rw [List.length_append]; exact Nat.le_refl _, fun _ => ⟨fun z => h ?_, rfl⟩⟩
    obtain ⟨q, hq, e⟩ := List.mem_map.mp z
    exact List.any_eq_true.mpr ⟨q, hq, decide_eq_true e⟩
theorem put_len : ∀ (l c : List (Key × V)), (putAll c l).length ≤ c.length + l.length ∧ ((putAll c l).length = c.length + l.length → (l.map (·.1)).Nodup ∧ ∀ p ∈ l, p.1 ∉ c.map (·.1))
  | [], c => ⟨Nat.le_refl _, fun _ => ⟨List.nodup_nil, fun _ z => by cases z⟩⟩
  | p :: r, c => by
    have e : putAll c (p :: r) = putAll (putK c p.1 p.2) r := rfl
    obtain ⟨a1, a2⟩ := putK_len c p.1 p.2
    obtain ⟨b1, b2⟩ := put_len r (putK c p.1 p.2)
    rw [e, List.length_cons]
    refine ⟨by omega, fun z => ?_⟩
    obtain ⟨k1, k2⟩ := a2 (by omega)
    obtain ⟨n1, n2⟩ := b2 (by omega)
    rw [k2, List.map_append] at n2
    refine ⟨by
      rw [List.map_cons, List.nodup_cons]
      refine ⟨fun z => ?_, n1⟩
      obtain ⟨q, hq, eq⟩ := List.mem_map.mp z
      exact n2 q hq (List.mem_append_right _ (by rw [eq]; exact List.mem_singleton.mpr rfl)), fun q hq => ?_⟩
    rcases List.mem_cons.mp hq with rfl | hq
    · exact k1
    · exact fun z => n2 q hq (List.mem_append_left _ z)
theorem num_keys (names : List Str) : (numKV names).map (·.1) = names.map Sum.inr := by
  unfold numKV
  rw [List.map_map]
  show names.zipIdx.map (Sum.inr ∘ Prod.fst) = _
  rw [← List.map_map, List.zipIdx_map_fst]
def spNumberedX (K : PySem.W.Frag) : Sp := fun vs H Q E => ∃ (a : Addr) (names : List Str), vs = [.ref a] ∧ SqL K H a (names.map V.str) ∧ names.length ≤ 100000 ∧ (names.Nodup → ∀ (p : Addr) (H' : Hp), Same H H' → H' p = some (.dK (numKV names)) → Q (.ref p) H') ∧ (¬ names.Nodup → ∀ H', Same H H' → E (.ref (clK K "NoName")) none H')
theorem ok_numberedX (F : DefAt K mg "numbered" s_numbered ["names"]) (T : Txt mg) (XC : XT K mg "GarthError" xRs xNs) : DnX P w K mg base "numbered" 1 ["names"] (spNumberedX K) := by
  have sc := sc_numbered
  refine F.okX sc (fun vs H Q E h => ?_) (fun f cdv A outer s H vs Q E hr h => ?_)
  · obtain ⟨_, _, rfl, _⟩ := h; rfl
  obtain ⟨a, names, rfl, ha, hl, q1, q2⟩ := h
  refine ⟨_, (pss_cons (ps_set (i := 1) sc.nd rfl (Or.inl rfl) (pe_callTy (call_dict_pairs (K := K) rfl rfl) rfl T.b_dict PyProof.Rows.boot_dict (pa_cons (pe_lc (defScope s_numbered) ["names", "numbers"] ["number", "name"] 2 [] (pi_enum (K := K) rfl rfl T.b_enumerate (pa_cons (pv 0) pa_nil)) (fun _ _ _ _ _ _ => (ptg2 (K := K) rfl rfl (show List.Nodup (["number", "name"] : List Str) by decide +kernel) rfl rfl rfl rfl)) (fun _ _ _ _ _ _ => pts_nil) (fun _ _ _ _ _ _ => (pe_tup (pa_cons (pv 1) (pa_cons (pv 0) pa_nil))))) pa_nil)))
      (pss_cons (ps_if (pt_cmpR op_lt (pe_callB call_lenD rfl T.b_len PySem.boot_len (pa_cons (pv 1) pa_nil)) (pe_callB (clLen (K := K) rfl) rfl T.b_len PySem.boot_len (pa_cons (pv 0) pa_nil)) (nomark _))
      (pss_one (ps_raise raisesR (XC.m "NoName" (by decide)) (XC.exc "NoName" (by decide)) (pa_cons pe_str pa_nil)))
      pss_nil)
      (pss_one (ps_ret (pv 1))))), ?_⟩
  have hlm : (names.map V.str).length = names.length := List.length_map _
  have hlk : (numKV names).length = names.length := by unfold numKV; simp
  refine ⟨_, rfl, a, rfl, ⟨_, ha⟩, comp_enumD (K := K) (a := a) (xs := names.map V.str) (fun i ys H3 => Same H H3 ∧ ∃ ts : List (Addr × Key × V), ys = ts.map (fun t => V.ref t.1) ∧ (ts.map fun t => t.2) = (numKV names).take i ∧ (∀ t ∈ ts, H3 t.1 = some (.tup [kV t.2.1, t.2.2]))) ⟨Same.refl _, [], rfl, rfl, fun _ z => by cases z⟩ (small (m := 100000) (by omega)) (fun i ys H3 hi h => ?_) (fun i x T0 ys H3 hi h hT => ?_) (fun ys H3 h p hp => ?_)⟩
  · obtain ⟨s3, ts, rfl, e2, _⟩ := h
    refine ⟨s3.seq ha, ?_⟩
    have := congrArg List.length e2
    rw [List.length_map, List.length_take] at this
    rw [List.length_map]; omega
  · obtain ⟨s3, ts, rfl, e2, e3⟩ := h
    rw [List.getElem?_map] at hi
    obtain ⟨z, hz, rfl⟩ : ∃ z, names[i]? = some z ∧ x = V.str z := by
      cases e : names[i]? with
      | none => rw [e] at hi; cases hi
      | some z => rw [e] at hi; cases hi; exact ⟨z, rfl, rfl⟩
    have s4 := same_upd hT (.tup [.int (i : Nat), .str z])
    refine comp_yesT (SqT.of upd_same) rfl ?_
    refine ⟨_, rfl, _, rfl, (by show 2 ≤ sizeLine; decide), fun t2 ht2 => ?_⟩
    have s5 := s4.trans (same_upd ht2 (.tup [.str z, .int (i : Nat)]))
    refine ⟨s3.trans s5, ts ++ [(t2, .inr z, .int (i : Nat))], by rw [List.map_append]; rfl, ?_, fun t ht => ?_⟩
    · have hk : (numKV names)[i]? = some (.inr z, .int (i : Nat)) := by unfold numKV; rw [List.getElem?_map, List.getElem?_zipIdx, hz]; simp
      rw [List.take_add_one, hk, List.map_append, e2]; rfl
    · rcases List.mem_append.mp ht with h | h
      · exact s5 _ _ (e3 t h)
      · rw [List.mem_singleton.mp h]; exact upd_same
  obtain ⟨s3, ts, rfl, e2, e3⟩ := h
  rw [hlm, ← hlk, List.take_length] at e2
  have s4 := same_upd hp (.lst (ts.map fun t => V.ref t.1))
  refine ⟨p, ts, rfl, SqL.of upd_same, fun t ht => SqT.of (s4 _ _ (e3 t ht)), fun d hd => ?_⟩
  rw [e2]
  obtain ⟨b1, b2⟩ := put_len (numKV names) []
  have b1' : (putAll [] (numKV names)).length ≤ names.length := by rw [← hlk]; simpa using b1
  have s5 := s3.trans (s4.trans (same_upd hd (.dK (putAll [] (numKV names)))))
  refine ⟨_, rfl, d, _, rfl, upd_same, _, rfl, a, _, rfl, .inl (s5.seq ha), _, _, rfl, rfl, _, rfl, ?_⟩
  rw [hlm]
  refine ite2 (fun c => ?_) (fun c => ?_)
  · have c' : (((putAll [] (numKV names)).length : Nat) : Int) < ((names.length : Nat) : Int) := of_decide_eq_true c
    refine ⟨(by show 1 ≤ sizeLine; decide), q2 (fun nd => ?_) _ s5⟩
    have hnd : ((numKV names).map (·.1)).Nodup := by
      rw [num_keys]
      exact nd.map _ fun x y h z => h (Sum.inr.inj z)
    rw [put_new _ [] (fun _ _ z => by cases z) hnd, List.nil_append, hlk] at c'
    omega
  · have c' : ¬ (((putAll [] (numKV names)).length : Nat) : Int) < ((names.length : Nat) : Int) := fun z => c (decide_eq_true z)
    have hnd := (b2 (by rw [hlk]; simp; omega)).1
    have nd : names.Nodup := by
      rw [num_keys] at hnd
      exact List.Pairwise.imp (fun h e => h (congrArg _ e)) (List.pairwise_map.mp hnd)
    refine ⟨_, rfl, q1 nd d _ s5 ?_⟩
    rw [put_new _ [] (fun _ _ z => by cases z) hnd, List.nil_append, upd_same]
theorem num_none {names : List Str} {z : Str} (h : z ∉ names) : valV (numKV names) (.inr z) = none := by
  unfold valV
  rw [List.find?_eq_none.mpr]; rfl
  intro p hp e
  have : p.1 ∈ (numKV names).map (·.1) := List.mem_map.mpr ⟨p, hp, rfl⟩
  rw [num_keys] at this
  obtain ⟨y, hy, ey⟩ := List.mem_map.mp this
  have e' : p.1 = .inr z := by simpa using e
  rw [e'] at ey
  injection ey with ey
  exact h (ey ▸ hy)
theorem num_some {names : List Str} {z : Str} (hn : names.Nodup) (h : z ∈ names) : valV (numKV names) (.inr z) = some (.int (names.idxOf z : Nat)) := by
  have := num_find names (names.idxOf z) 0 z hn (by
    rw [List.getElem?_eq_getElem (List.idxOf_lt_length_iff.mpr h), List.getElem_idxOf])
  rw [Nat.zero_add] at this
  exact this
def spNumOfX (K : PySem.W.Frag) : Sp := fun vs H Q E => ∃ (a : Addr) (names : List Str) (x : Str), vs = [.ref a, .str x] ∧ H a = some (.dK (numKV names)) ∧ names.Nodup ∧ (x ∈ names → Q (.int (names.idxOf x : Nat)) H) ∧ (x ∉ names → E (.ref (clK K "NoName")) none H)
theorem ok_numofX (F : DefAt K mg "number_of" s_number_of ["numbers", "name"]) (T : Txt mg) (XC : XT K mg "GarthError" xRs xNs) : DnX P w K mg base "number_of" 1 ["numbers", "name"] (spNumOfX K) := by
  have sc := sc_number_of
  refine F.okX sc (fun vs H Q E h => ?_) (fun f cdv A outer s H vs Q E hr h => ?_)
  · obtain ⟨_, _, _, rfl, _⟩ := h; rfl
  obtain ⟨a, names, x, rfl, ha, hn, q1, q2⟩ := h
  refine ⟨_, (pss_cons (ps_if (pt_cmp (pc_dnotin (hu_n hr 1) (pv 1) (pv 0)))
      (pss_one (ps_raise raisesR (XC.m "NoName" (by decide)) (XC.exc "NoName" (by decide)) (pa_cons pe_str pa_nil)))
      pss_nil)
      (pss_one (ps_ret (pe_dget (hu_n hr 1) (pv 0) (pv 1) (fun _ _ => rfl))))), ?_⟩
  by_cases hx : x ∈ names
  · have g : DGet H a (.str x) (some (.int (names.idxOf x : Nat))) := .inl ⟨_, .inr x, .inl ha, rfl, (num_some hn hx).symm⟩
    refine ⟨_, rfl, _, rfl, a, _, rfl, g, _, rfl, ?_⟩
    refine iteF ?_
    exact ⟨_, rfl, _, rfl, a, _, rfl, g, q1 hx⟩
  · have g : DGet H a (.str x) none := .inl ⟨_, .inr x, .inl ha, rfl, (num_none hx).symm⟩
    refine ⟨_, rfl, _, rfl, a, _, rfl, g, _, rfl, ?_⟩
    refine iteT ?_
    exact ⟨(by show 1 ≤ sizeLine; decide), q2 hx⟩
theorem mem_take_s {α : Type} {xs : List α} {i : Nat} {z : α} (h : xs[i]? = some z) {x : α} : x ∈ xs.take (i + 1) ↔ x ∈ xs.take i ∨ x = z := by
  rw [List.take_add_one, h, List.mem_append]
  exact ⟨fun a => a.imp id fun b => List.mem_singleton.mp b, fun a => a.imp id fun b => List.mem_singleton.mpr b⟩
def partsT (s : Str) : List Str := if s.length = 0 then [] else Txt.split s "; "
def FormG (s : Str) (ps : List PTy) : Prop := Paired PlP (partsT s) ps
def nmsOf (ps : List PTy) : List Str := ps.map fun p => p.1
def rowOf (ns : List Str) (p : PTy) : Row := (p.2.1, p.2.2.1, p.2.2.2.map fun x => ((ns.idxOf x : Nat) : Int))
def rowsOf (ps : List PTy) : List Row := ps.map (rowOf (nmsOf ps))
theorem form_one {s : Str} {ps ps' : List PTy} (a : FormG s ps) (b : FormG s ps') : ps' = ps := by
  unfold FormG at a b
  generalize partsT s = l at a b
  induction a generalizing ps' with
  | nil => cases b; rfl
  | cons h _ ih =>
    cases b with
    | cons h' t' => rw [pl_one h h', ih t']
def spReadX (K : PySem.W.Frag) : Sp := fun vs H Q E => ∃ v : V, vs = [v] ∧
  ((∃ S, kindV H v S ∧ PySem.W.kitOne K (.type S) (.type "str") = some false ∧ ∀ H', Same H H' → E (.ref (clK K "NoText")) none H') ∨
   ∃ s : Str, v = .str s ∧ s.length ≤ 50000 ∧ ((∀ ps, ¬ FormG s ps) → ∀ H', Same H H' → E (.ref (clK K "NoText")) none H') ∧
    ∀ ps, FormG s ps → ps.length ≤ 1000 ∧ (∀ p ∈ ps, p.2.2.2.length ≤ 62) ∧ (¬ (nmsOf ps).Nodup → ∀ H', Same H H' → E (.ref (clK K "NoName")) none H') ∧
      ((nmsOf ps).Nodup → (∃ p ∈ ps, ∃ x ∈ p.2.2.2, x ∉ nmsOf ps) → ∀ H', Same H H' → E (.ref (clK K "NoName")) none H') ∧
      ((nmsOf ps).Nodup → (∀ p ∈ ps, ∀ x ∈ p.2.2.2, x ∈ nmsOf ps) → (GGood (rowsOf ps) → ∀ (p : Addr) (xs : List V) (H' : Hp), Same H H' → H' p = some (.tup xs) → Q (.ref p) H') ∧ ∀ x, GBad (rowsOf ps) x → ∀ H', Same H H' → E (.ref (clK K x)) none H'))
theorem ok_readX (F : DefAt K mg "read_game" s_read_game ["text"]) (T : Txt mg) (D_places_told : DnX P w K mg base "places_told" 2 ["text"] (spToldX K)) (D_read_place : DnX P w K mg base "read_place" 4 ["text"] (spPlX K)) (D_numbered : DnX P w K mg base "numbered" 1 ["names"] (spNumberedX K)) (D_number_of : DnX P w K mg base "number_of" 1 ["numbers", "name"] (spNumOfX K)) (D_game_of : DnX P w K mg base "game_of" 6 ["rows"] (spGameOf K)) : DnX P w K mg base "read_game" 7 ["text"] (spReadX K) := by
  have sc := sc_read_game
  refine F.okX sc (fun vs H Q E h => ?_) (fun f cdv A outer s H vs Q E hr h => ?_)
  · obtain ⟨_, rfl, _⟩ := h; rfl
  obtain ⟨v, rfl, h⟩ := h
  refine ⟨_, (pss_cons (ps_lcX (i := 1) (defScope s_read_game) ["text", "places", "names", "numbers", "rows", "place"] ["part"] 1 [] sc.nd rfl rfl (pi_list (pe_dnX passR D_places_told hr (pa_cons (pv 0) pa_nil))) (fun _ _ _ _ _ _ _ => (ptg_name (show List.Nodup (["part"] : List Str) by decide +kernel) rfl rfl)) (fun _ _ _ _ _ _ _ => pts_nil) (fun _ _ _ _ _ _ _ hp => (pe_dnX hp D_read_place hr (pa_cons (pv 0) pa_nil))))
      (pss_cons (ps_lc (i := 2) (defScope s_read_game) ["text", "places", "names", "numbers", "rows", "place"] ["place"] 1 [] sc.nd rfl rfl (pi_list (pv 1)) (fun _ _ _ _ _ _ => (ptg_name (show List.Nodup (["place"] : List Str) by decide +kernel) rfl rfl)) (fun _ _ _ _ _ _ => pts_nil) (fun _ _ _ _ _ _ => (pe_ix (ixT (K := K) rfl) (pv 0) pe_int (fun _ _ => rfl))))
      (pss_cons (ps_set (i := 3) sc.nd rfl (Or.inr rfl) (pe_dnX passR D_numbered hr (pa_cons (pv 2) pa_nil)))
      (pss_cons (ps_set (i := 4) sc.nd rfl (Or.inl rfl) (pe_lst pa_nil))
      (pss_cons (ps_for PassesOwn.leaving rfl (pi_list (pv 1)) (pg_name (i := 5) sc.nd rfl (Or.inl rfl))
      (pss_one (ps_expr (pe_bm PySem.F.plainAttrs_list PySem.F.slot_list_append PySem.F.type_list_append mt_append (pv 4) (pa_cons (pe_tup (pa_cons (pe_ix (ixT (K := K) rfl) (pv 5) pe_int (fun _ _ => rfl)) (pa_cons (pe_ix (ixT (K := K) rfl) (pv 5) pe_int (fun _ _ => rfl)) (pa_cons (pe_lcX (defScope s_read_game) ["text", "places", "names", "numbers", "rows", "place"] ["name", "numbers"] 1 [3] (pi_list (pe_ix (ixT (K := K) rfl) (pv 5) pe_int (fun _ _ => rfl))) (fun _ _ _ _ _ _ _ => (ptg_name (show List.Nodup (["name", "numbers"] : List Str) by decide +kernel) rfl rfl)) (fun _ _ _ _ _ _ _ => pts_nil) (fun _ _ _ _ _ _ _ hp => (pe_dnX hp D_number_of hr (pa_cons (pv 1) (pa_cons (pv 0) pa_nil))))) pa_nil)))) pa_nil)))))
      (pss_one (ps_ret (pe_tup (pa_cons (pv 2) (pa_cons (pe_dnX passR D_game_of hr (pa_cons (pv 4) pa_nil)) pa_nil)))))))))), ?_⟩
  rcases h with ⟨S, hk, kt, q⟩ | ⟨s0, rfl, hs0, q0, q⟩
  · exact ⟨_, rfl, _, rfl, .inl ⟨S, hk, kt, q⟩⟩
  obtain ⟨fw, fl⟩ : (∀ p ∈ partsT s0, p.length ≤ s0.length) ∧ (partsT s0).length ≤ s0.length + 1 := by
    unfold partsT
    split
    · exact ⟨fun _ z => (by cases z), Nat.zero_le _⟩
    · exact split_few s0 "; " (by decide +kernel)
  refine ⟨_, rfl, _, rfl, .inr ⟨s0, rfl, by omega, fun p0 H0 s0' _ hp0 => ?_⟩⟩
  replace hp0 : H0 p0 = some (.lst ((partsT s0).map V.str)) := hp0
  have hpl : ((partsT s0).map V.str).length = (partsT s0).length := List.length_map _
  refine ⟨p0, rfl, ⟨_, SqL.of hp0⟩, comp_listD (K := K) (a := p0) (xs := (partsT s0).map V.str) (fun i ys H2 => Same H0 H2 ∧ ∃ ps, Paired PlP ((partsT s0).take i) ps ∧ Paired (rP H2) ps ys) ⟨Same.refl _, [], .nil, .nil⟩ (small (m := 100000) (by omega)) (fun i ys H2 hi h => ?_) (fun i x ys H2 hi h => ?_) (fun ys H2 h pl hpl2 => ?_)⟩
  · obtain ⟨s2, ps, p1, p2⟩ := h
    refine ⟨SqL.of (s2 _ _ hp0), ?_⟩
    rw [← pr_len p2, ← pr_len p1]; exact List.length_take_le _ _
  · obtain ⟨s2, ps, p1, p2⟩ := h
    rw [List.getElem?_map] at hi
    obtain ⟨t, ht, rfl⟩ : ∃ t, (partsT s0)[i]? = some t ∧ x = V.str t := by
      cases e : (partsT s0)[i]? with
      | none => rw [e] at hi; cases hi
      | some z => rw [e] at hi; cases hi; exact ⟨z, rfl, rfl⟩
    refine comp_yes ?_
    refine ⟨_, rfl, t, rfl, by have := fw t (List.mem_of_getElem? ht); omega, fun p hp u H6 s6 hu => ⟨s2.trans s6, ps ++ [p], ?_, L2.Paired.app (paired_mono mono_p s6 p2) (.cons hu .nil)⟩, fun no H6 s6 => q0 (fun ps' f => ?_) _ (s0'.trans (s2.trans s6))⟩
    · rw [List.take_add_one, ht]
      exact L2.Paired.app p1 (.cons hp .nil)
    · obtain ⟨p, _, hp⟩ := L2.Paired.at f ht
      exact no p hp
  obtain ⟨s2, ps, p1, p2⟩ := h
  rw [hpl, List.take_length] at p1
  have fo : FormG s0 ps := p1
  obtain ⟨b1, b2, qn, qm, qg⟩ := q ps fo
  have s3 := s0'.trans (s2.trans (same_upd hpl2 (.lst ys)))
  have hpl3 : upd H2 pl (.lst ys) pl = some (.lst ys) := upd_same
  have pr := paired_mono mono_p (same_upd hpl2 (.lst ys)) p2
  generalize upd H2 pl (.lst ys) = H3 at s3 hpl3 pr ⊢
  have hyl : ys.length = ps.length := (pr_len pr).symm
  have nl : (nmsOf ps).length = ps.length := List.length_map _
  refine ⟨_, rfl, pl, rfl, ⟨_, SqL.of hpl3⟩, comp_listD (K := K) (a := pl) (xs := ys) (fun i zs H4 => H4 = H3 ∧ zs = ((nmsOf ps).take i).map V.str) ⟨rfl, rfl⟩ (small (m := 1000) (by omega)) (fun i zs H4 hi h => ?_) (fun i x zs H4 hi h => ?_) (fun zs H4 h na hna => ?_)⟩
  · obtain ⟨rfl, rfl⟩ := h
    exact ⟨SqL.of hpl3, by simp; omega⟩
  · obtain ⟨rfl, rfl⟩ := h
    obtain ⟨p, hp, t, l, rfl, ht, _⟩ := L2.Paired.ta pr hi
    refine comp_yes ?_
    refine ⟨_, rfl, t, _, _, _, rfl, rfl, SqT.of ht, atI_nat (j := 0) rfl, rfl, ?_⟩
    have hnm : (nmsOf ps)[i]? = some p.1 := by unfold nmsOf; rw [List.getElem?_map, hp]; rfl
    rw [List.take_add_one, hnm, List.map_append]; rfl
  obtain ⟨rfl, rfl⟩ := h
  rw [hyl, ← nl, List.take_length]
  have s4 := same_upd hna (.lst ((nmsOf ps).map V.str))
  have hn4 : upd H4 na (.lst ((nmsOf ps).map V.str)) na = some (.lst ((nmsOf ps).map V.str)) := upd_same
  replace pr := paired_mono mono_p s4 pr
  have hpl4 := s4 _ _ hpl3
  replace s4 := s3.trans s4
  generalize upd H4 na (.lst ((nmsOf ps).map V.str)) = H5 at s4 hn4 pr hpl4 ⊢
  refine ⟨_, rfl, na, _, rfl, SqL.of hn4, by omega, fun nd dp H6 s6 hd6 => ?_, fun nn H6 s6 => qn nn _ (s4.trans s6)⟩
  refine ⟨Nat.zero_le _, fun g hg => ?_⟩
  have hpl6 := s6 _ _ hpl4
  refine ⟨_, rfl, pl, rfl, ⟨_, SqL.of (same_upd hg _ _ _ hpl6)⟩, for_list (K := K) (a := pl) (xs := ys) (fun i σ H7 => ∃ y : Option V, σ = [some (.str s0), some (.ref pl), some (.ref na), some (.ref dp), some (.ref g), y] ∧ Bld rRow H6 H7 g ((rowsOf ps).take i) ∧ ∀ p ∈ ps.take i, ∀ x ∈ p.2.2.2, x ∈ nmsOf ps)
    ⟨_, rfl, Bld.start (Same.refl _) hg, fun _ z => by cases z⟩ (fun i σ H7 _ h => ?_) (fun i x σ H7 hi h => ?_) (fun σ H7 h => ?_)⟩
  · obtain ⟨_, _, b, _⟩ := h
    exact SqL.of (b.s _ _ hpl6)
  · obtain ⟨y, rfl, b, hin⟩ := h
    obtain ⟨p, hp, t, l, rfl, ht, hl4⟩ := L2.Paired.ta pr hi
    have hpm := List.mem_of_getElem? hp
    have hrG : (rowsOf ps)[i]? = some (rowOf (nmsOf ps) p) := by unfold rowsOf; rw [List.getElem?_map, hp]; rfl
    have s7 := s6.trans b.s
    have ht7 := s7 _ _ ht
    have hl7 := s7 _ _ hl4
    have hd7 := b.s _ _ hd6
    obtain ⟨gvs, hgv, _⟩ := b.sq
    refine ⟨_, rfl, .inl ⟨rfl, _, SqL.of hgv⟩, _, rfl, t, _, _, _, rfl, rfl, SqT.of ht7, atI_nat (j := 1) rfl, _, rfl, t, _, _, _, rfl, rfl, SqT.of ht7, atI_nat (j := 2) rfl, _, rfl, t, _, _, _, rfl, rfl, SqT.of ht7, atI_nat (j := 3) rfl, l, rfl, ⟨_, SqL.of hl7⟩, comp_listD (K := K) (a := l) (xs := p.2.2.2.map V.str) (fun k zs H8 => H8 = H7 ∧ zs = ((rowOf (nmsOf ps) p).2.2.take k).map V.int ∧ ∀ x ∈ p.2.2.2.take k, x ∈ nmsOf ps) ⟨rfl, rfl, fun _ z => by cases z⟩ (small (m := 1000) (by rw [List.length_map]; have := b2 p hpm; omega)) (fun k zs H8 hk h => ?_) (fun k x zs H8 hk h => ?_) (fun zs H8 h wp hwp => ?_)⟩
    · obtain ⟨rfl, rfl, _⟩ := h
      exact ⟨SqL.of hl7, by simp; omega⟩
    · obtain ⟨rfl, rfl, hk2⟩ := h
      rw [List.getElem?_map] at hk
      obtain ⟨z, hz, rfl⟩ : ∃ z, p.2.2.2[k]? = some z ∧ x = V.str z := by
        cases e : p.2.2.2[k]? with
        | none => rw [e] at hk; cases hk
        | some z => rw [e] at hk; cases hk; exact ⟨z, rfl, rfl⟩
      refine comp_yes ?_
      refine ⟨_, rfl, _, rfl, dp, nmsOf ps, z, rfl, hd7, nd, fun zin => ⟨rfl, ?_, fun x hx => ?_⟩, fun zno => qm nd ⟨p, hpm, z, List.mem_of_getElem? hz, zno⟩ _ (s4.trans s7)⟩
      · have : (rowOf (nmsOf ps) p).2.2[k]? = some (((nmsOf ps).idxOf z : Nat) : Int) := by unfold rowOf; rw [List.getElem?_map, hz]; rfl
        rw [List.take_add_one, this, List.map_append]; rfl
      · rcases (mem_take_s hz).mp hx with h | h
        · exact hk2 x h
        · rw [h]; exact zin
    obtain ⟨rfl, rfl, hk2⟩ := h
    have rl : (rowOf (nmsOf ps) p).2.2.length = p.2.2.2.length := by unfold rowOf; rw [List.length_map]
    rw [List.length_map, List.take_length] at hk2
    rw [List.length_map, ← rl, List.take_length]
    refine ⟨(by show 3 ≤ sizeLine; decide), fun t2 ht2 => ?_⟩
    have sw := same_upd hwp (.lst ((rowOf (nmsOf ps) p).2.2.map V.int))
    obtain ⟨vs4, k1, k2, b4⟩ := b.push mono_row (sw.trans (same_upd ht2 _)) (row_new (h := p.2.1) (r := p.2.2.1) (ws := (rowOf (nmsOf ps) p).2.2) sw hwp upd_same ht2)
    refine ⟨g, vs4, _, rfl, rfl, k1, (smlt (m := 1000) (by rw [k2, List.length_take]; have := List.length_map (as := ps) (rowOf (nmsOf ps)); have e : (rowsOf ps).length = ps.length := this; omega)), ?_⟩
    refine ⟨_, rfl, ?_, fun x hx => ?_⟩
    · rw [List.take_add_one, hrG]
      exact b4
    · rcases (mem_take_s hp).mp hx with h | h
      · exact hin x h
      · rw [h]; exact hk2
  obtain ⟨y, rfl, b, hin⟩ := h
  have rl : (rowsOf ps).length = ps.length := List.length_map _
  rw [hyl, List.take_length] at hin
  rw [hyl, ← rl, List.take_length] at b
  have hgm := mono_game.up (newp_same _ _) (b.done mono_row)
  obtain ⟨g1, g2⟩ := qg nd hin
  have s47 := s4.trans (s6.trans b.s)
  refine ⟨_, rfl, _, rfl, .ref g, rowsOf ps, rfl, hgm, by omega, fun r hr => ?_, fun hgd v8 H8 s8 hv8 => ?_, fun x hb H8 s8 => g2 x hb _ (s47.trans s8)⟩
  · obtain ⟨p, hp, rfl⟩ := List.mem_map.mp hr
    show (p.2.2.2.map _).length ≤ 62
    rw [List.length_map]; exact b2 p hp
  refine ⟨(by show 2 ≤ sizeLine; decide), fun rp hrp => ?_⟩
  exact g1 hgd rp _ _ (s47.trans (s8.trans (same_upd hrp _))) upd_same
theorem flat_w : ∀ (ws : List (List Nat)) (p : List Nat), flatL [32] (p :: ws) = p ++ wL ws
  | [], p => (List.append_nil p).symm
  | q :: r, p => by
    show p ++ [32] ++ flatL [32] (q :: r) = _
    rw [flat_w r q, wL_cons, List.append_assoc]; rfl
theorem flat_nil : ∀ ps : List (List Nat), flatL [] ps = ps.flatten
  | [] => rfl
  | [p] => (List.append_nil p).symm
  | p :: q :: r => by
    show p ++ [] ++ flatL [] (q :: r) = p ++ (q :: r).flatten
    rw [flat_nil (q :: r), List.append_nil]
def cpL (ws : List Str) : List (List Nat) := ws.map fun w => w.cps.toList
theorem hd_l {w nm : Str} {h : Int} {d : Str} (z : HdP w nm h d) : ∃ sg, (sg = 43 ∨ sg = 45) ∧ w.cps.toList = nm.cps.toList ++ sg :: d.cps.toList := by
  have go : ∀ (c : Nat) (s : Str), inT w c = true → Txt.partition w ⟨#[c]⟩ = (nm, s, d) → w.cps.toList = nm.cps.toList ++ c :: d.cps.toList := fun c s hi hp => by
    rw [inT_mem] at hi
    obtain ⟨a, b, e, hn⟩ := List.eq_append_cons_of_mem (of_decide_eq_true hi)
    have ew : w = ⟨(a ++ c :: b).toArray⟩ := str_list e
    have := part_one (b := b) hn
    rw [← ew, hp] at this
    injection this with t1 t2
    injection t2 with _ t3
    rw [e, t1, t3]
  rcases z with ⟨hi, _, s, hp⟩ | ⟨_, hi, _, s, hp⟩
  · exact ⟨43, .inl rfl, go 43 s hi hp⟩
  · exact ⟨45, .inr rfl, go 45 s hi hp⟩
theorem pl_l {t : Str} {p : PTy} (z : PlP t p) : PartL t.cps.toList := by
  obtain ⟨w, ws, nm, h, d, e, hd, h1, h2, h3, _⟩ := z
  obtain ⟨sg, hs, ew⟩ := hd_l hd
  refine ⟨nm.cps.toList, sg, d.cps.toList, cpL ws, name_l h1, hs, num_l h2, fun m hm => ?_, ?_⟩
  · obtain ⟨x, hx, rfl⟩ := List.mem_map.mp hm
    exact name_l (h3 x hx)
  · rw [split_cps t " ", e]
    show flatL [32] (w.cps.toList :: cpL ws) = _
    rw [flat_w, ew, List.append_assoc]; rfl
theorem form_acc {s : Str} {ps : List PTy} (f : FormG s ps) : accG (runG .t0 s.cps.toList) = true := by
  unfold FormG partsT at f
  by_cases z : s.length = 0
  · have : s.cps.toList = [] := List.length_eq_zero_iff.mp (by rw [← str_len]; exact z)
    rw [this]; rfl
  · rw [if_neg z] at f
    rw [split_cps s "; "]
    refine midG_acc (rung_parts (.inl rfl) (fun e => ?_) fun p hp => ?_)
    · exact split_ne s "; " (List.map_eq_nil_iff.mp e)
    · obtain ⟨t, ht, rfl⟩ := List.mem_map.mp hp
      obtain ⟨i, hi⟩ := List.getElem?_of_mem ht
      obtain ⟨r, _, hr⟩ := L2.Paired.at f hi
      exact pl_l hr
theorem no_form {s : Str} (h : accG (runG .t0 s.cps.toList) = false) : ∀ ps, ¬ FormG s ps := fun ps f => by
  rw [form_acc f] at h; cases h
def partS (w : List Str) : Str := Txt.join " " (Txt.join "" (w.take 3) :: w.drop 3)
def textP (W : List (List Str)) : Str := Txt.join "; " (W.map partS)
def partL (w : List Str) : List Nat := (cpL (w.take 3)).flatten ++ wL (cpL (w.drop 3))
theorem part_l (w : List Str) : (partS w).cps.toList = partL w := by
  unfold partS partL
  rw [flat_join, List.map_cons, flat_join]
  show flatL [32] (flatL [] (cpL (w.take 3)) :: cpL (w.drop 3)) = _
  rw [flat_w, flat_nil]
theorem text_l (W : List (List Str)) : (textP W).cps.toList = flatL [59, 32] (W.map partL) := by
  unfold textP
  rw [flat_join, List.map_map]
  have : W.map ((fun p => p.cps.toList) ∘ partS) = W.map partL := List.map_congr_left fun w _ => part_l w
  rw [this]; rfl
def sgS (h : Int) : Str := ⟨#[sgn h]⟩
def itP (p : PTy) : List Str := p.1 :: sgS p.2.1 :: intS p.2.2.1 :: p.2.2.2
structure POk (p : PTy) : Prop where
  nm : isName p.1 = true
  h : p.2.1 = 0 ∨ p.2.1 = 1
  r0 : 0 ≤ p.2.2.1
  r1 : p.2.2.1 < 1000000000
  ws : ∀ x ∈ p.2.2.2, isName x = true
  l : p.2.2.2.length ≤ 2
theorem sgn_is (h : Int) : sgn h = 43 ∨ sgn h = 45 := by
  unfold sgn; split
  · exact .inl rfl
  · exact .inr rfl
theorem itp_l (p : PTy) : partL (itP p) = p.1.cps.toList ++ sgn p.2.1 :: ((intS p.2.2.1).cps.toList ++ wL (cpL p.2.2.2)) := by
  show (p.1.cps.toList ++ ([sgn p.2.1] ++ ((intS p.2.2.1).cps.toList ++ []))) ++ wL (cpL p.2.2.2) = _
  rw [List.append_nil, List.append_assoc, List.append_assoc]; rfl
theorem pok_l {p : PTy} (h : POk p) : PartL (partL (itP p)) := by
  refine ⟨_, _, _, _, name_l h.nm, sgn_is p.2.1, num_l (num_gen h.r0 h.r1).1, fun m hm => ?_, itp_l p⟩
  obtain ⟨x, hx, rfl⟩ := List.mem_map.mp hm
  exact name_l (h.ws x hx)
theorem name_no {z : Str} (h : isName z = true) {c : Nat} (hc : c ∈ z.cps.toList) : 97 ≤ c ∧ c ≤ 122 := (name_few h).2.2 c hc
theorem hdw_no {p : PTy} (h : POk p) : ∀ c ∈ (Txt.join "" ((itP p).take 3)).cps.toList, c ≠ 32 ∧ c ≠ 59 := by
  intro c hc
  rw [flat_join] at hc
  replace hc : c ∈ flatL [] [p.1.cps.toList, [sgn p.2.1], (intS p.2.2.1).cps.toList] := hc
  rcases flat_mem _ c hc with z | ⟨x, hx, z⟩
  · cases z
  simp only [List.mem_cons, List.not_mem_nil, or_false] at hx
  rcases hx with rfl | rfl | rfl
  · have := name_no h.nm z; omega
  · have e := List.mem_singleton.mp z
    rcases sgn_is p.2.1 with s | s <;> omega
  · have := (num_gen h.r0 h.r1).2.2.1 c z; omega
theorem pl_is {p : PTy} (h : POk p) : PlP (partS (itP p)) p := by
  have e : (Txt.join "" ((itP p).take 3)).cps.toList = p.1.cps.toList ++ sgn p.2.1 :: (intS p.2.2.1).cps.toList := by
    rw [flat_join]
    show flatL [] [p.1.cps.toList, [sgn p.2.1], (intS p.2.2.1).cps.toList] = _
    rw [flat_nil]
    show p.1.cps.toList ++ ([sgn p.2.1] ++ ((intS p.2.2.1).cps.toList ++ [])) = _
    rw [List.append_nil]; rfl
  have ew := str_list e
  refine ⟨Txt.join "" ((itP p).take 3), p.2.2.2, p.1, p.2.1, intS p.2.2.1, split_join (c := 32) (s := []) rfl (by decide +kernel) (fun z => by cases z) (fun x hx z => ?_), ?_, h.nm, (num_gen h.r0 h.r1).1, h.ws, ?_⟩
  · rcases List.mem_cons.mp hx with rfl | hx
    · exact (hdw_no h 32 z).1 rfl
    · have := name_no (h.ws x hx) z; omega
  · have hin : ∀ c, inT (Txt.join "" ((itP p).take 3)) c = decide (c = sgn p.2.1 ∨ c ∈ p.1.cps.toList ∨ c ∈ (intS p.2.2.1).cps.toList) := fun c => by
      rw [inT_mem, e, Bool.eq_iff_iff, decide_eq_true_eq, decide_eq_true_eq]
      simp only [List.mem_append, List.mem_cons]
      exact ⟨fun z => by rcases z with z | z | z; exact .inr (.inl z); exact .inl z; exact .inr (.inr z), fun z => by rcases z with z | z | z; exact .inr (.inl z); exact .inl z; exact .inr (.inr z)⟩
    have no : sgn p.2.1 ∉ p.1.cps.toList := fun z => by
      have := name_no h.nm z
      rcases sgn_is p.2.1 with s | s <;> omega
    have hp := part_one (b := (intS p.2.2.1).cps.toList) no
    rw [← ew] at hp
    rcases h.h with z | z
    · refine .inl ⟨?_, z, ⟨#[sgn p.2.1]⟩, ?_⟩
      · rw [hin]; exact decide_eq_true (.inl (by rw [z]; rfl))
      · rw [z] at hp ⊢; exact hp
    · refine .inr ⟨?_, ?_, z, ⟨#[sgn p.2.1]⟩, ?_⟩
      · rw [hin]
        refine decide_eq_false fun k => ?_
        rcases k with k | k | k
        · rw [z] at k; exact absurd k (by decide)
        · have := name_no h.nm k; omega
        · have := (num_gen h.r0 h.r1).2.2.1 _ k; omega
      · rw [hin]; exact decide_eq_true (.inl (by rw [z]; rfl))
      · rw [z] at hp ⊢; exact hp
  · rw [numI_s h.r0 h.r1]
theorem itp_few {p : PTy} (h : POk p) : (itP p).length ≤ 5 ∧ ∀ w ∈ itP p, w.length ≤ 20 := by
  refine ⟨by unfold itP; simp only [List.length_cons]; have := h.l; omega, fun w hw => ?_⟩
  rcases List.mem_cons.mp hw with rfl | hw
  · have := (name_few h.nm).2.1; omega
  rcases List.mem_cons.mp hw with rfl | hw
  · show 1 ≤ 20; decide
  rcases List.mem_cons.mp hw with rfl | hw
  · have := (num_gen h.r0 h.r1).2.2.2; omega
  · have := (name_few (h.ws w hw)).2.1; omega
theorem part_ne {p : PTy} (h : POk p) : partL (itP p) ≠ [] := by
  rw [itp_l]; simp
theorem form_is {ps : List PTy} (hne : ps ≠ []) (h : ∀ p ∈ ps, POk p) : FormG (textP (ps.map itP)) ps := by
  have h1 : (textP (ps.map itP)).length ≠ 0 := fun z => by
    have e : (textP (ps.map itP)).cps.toList = [] := List.length_eq_zero_iff.mp (by rw [← str_len]; exact z)
    obtain ⟨p, r, rfl⟩ := List.exists_cons_of_ne_nil hne
    rw [text_l, List.map_cons, List.map_cons] at e
    obtain ⟨t, et, _⟩ := flatG_head (partL (itP p)) ((r.map itP).map partL)
    rw [et] at e
    exact part_ne (h p List.mem_cons_self) (List.append_eq_nil_iff.mp e).1
  unfold FormG partsT
  rw [if_neg h1]
  have e : Txt.split (textP (ps.map itP)) "; " = (ps.map itP).map partS := by
    refine split_join (c := 59) (s := [32]) rfl (by decide +kernel) (fun z => ?_) (fun x hx z => ?_)
    · exact hne (List.map_eq_nil_iff.mp (List.map_eq_nil_iff.mp z))
    · obtain ⟨y, hy, rfl⟩ := List.mem_map.mp hx
      obtain ⟨p, hp, rfl⟩ := List.mem_map.mp hy
      rw [part_l, itp_l] at z
      have hp := h p hp
      have hw : ∀ ws : List Str, (∀ x ∈ ws, isName x = true) → 59 ∉ wL (cpL ws) := fun ws hn k => by
        unfold wL at k
        obtain ⟨l, hl, k⟩ := List.mem_flatten.mp k
        obtain ⟨l', hl', rfl⟩ := List.mem_map.mp hl
        obtain ⟨x, hx, rfl⟩ := List.mem_map.mp hl'
        rcases List.mem_cons.mp k with k | k
        · cases k
        · have := name_no (hn x hx) k; omega
      rcases List.mem_append.mp z with z | z
      · have := name_no hp.nm z; omega
      rcases List.mem_cons.mp z with z | z
      · rcases sgn_is p.2.1 with s | s <;> omega
      rcases List.mem_append.mp z with z | z
      · have := (num_gen hp.r0 hp.r1).2.2.1 _ z; omega
      · exact hw _ hp.ws z
  rw [e]
  clear e h1 hne
  induction ps with
  | nil => exact .nil
  | cons p r ih => exact .cons (pl_is (h p List.mem_cons_self)) (ih fun x hx => h x (List.mem_cons_of_mem _ hx))
abbrev bad0 : List Str := ["", "A", "abcdefghi", "a1", "a_b", "a b", " a", "a;", "zzzzzzzzz", "a."]
abbrev bad1 : List Str := ["", "A", "abcdefghi", "a1", "a+", "a:1", " ", "a,", "zzzzzzzzz", "7"]
abbrev bad2 : List Str := ["", "=", "+-", "-+", "++", "--", " +", "+ ", "*", " "]
abbrev bad3 : List Str := ["", "03", "00", "+3", "-0", "3a", "1_0", "1234567890", "3.", "\n3", "3\n", "x"]
abbrev bad5 : List Str := [";", ";  ", " ; ", ", ", " "]
abbrev bad6 : List Str := ["A+1 a", "a+01 a", "a3 a", "a+3  a"]
theorem bad0_ok : ∀ x ∈ bad0, (∀ q, ahg q → ∀ s, (s = 43 ∨ s = 45) → runG q (x.cps.toList ++ [s]) = .dead) ∧ x.length ≤ 20 := by
  have h : bad0.all (fun x => decide (runG .t0 (x.cps.toList ++ [43]) = .dead ∧ runG .t0 (x.cps.toList ++ [45]) = .dead ∧ runG .t1 (x.cps.toList ++ [43]) = .dead ∧ runG .t1 (x.cps.toList ++ [45]) = .dead) && decide (x.length ≤ 20)) = true := by decide +kernel
  intro x hx
  have := List.all_eq_true.mp h x hx
  rw [Bool.and_eq_true] at this
  obtain ⟨h1, h2, h3, h4⟩ := of_decide_eq_true this.1
  refine ⟨fun q hq s hs => ?_, of_decide_eq_true this.2⟩
  rcases hq with rfl | rfl <;> rcases hs with rfl | rfl
  · exact h1
  · exact h2
  · exact h3
  · exact h4
theorem bad1_ok : ∀ x ∈ bad1, (runG .bl x.cps.toList = .dead ∨ runG .bl x.cps.toList = .bl) ∧ x.length ≤ 20 := by
  have h : bad1.all (fun x => decide (runG .bl x.cps.toList = .dead ∨ runG .bl x.cps.toList = .bl) && decide (x.length ≤ 20)) = true := by decide +kernel
  intro x hx
  have := List.all_eq_true.mp h x hx
  rw [Bool.and_eq_true] at this
  exact ⟨of_decide_eq_true this.1, of_decide_eq_true this.2⟩
theorem bad2_ok : ∀ x ∈ bad2, (∀ k c, k ≤ 8 → isG c = true → runG (.nm k) (x.cps.toList ++ [c]) = .dead) ∧ x.length ≤ 20 := by
  have h : bad2.all (fun x => (List.range 9).all (fun k => (List.range 10).all fun c => decide (runG (.nm k) (x.cps.toList ++ [48 + c]) = .dead)) && decide (x.length ≤ 20)) = true := by decide +kernel
  intro x hx
  have := List.all_eq_true.mp h x hx
  rw [Bool.and_eq_true] at this
  refine ⟨fun k c hk hc => ?_, of_decide_eq_true this.2⟩
  unfold isG at hc
  rw [Bool.and_eq_true] at hc
  have c1 := of_decide_eq_true hc.1
  have c2 := of_decide_eq_true hc.2
  have := of_decide_eq_true (List.all_eq_true.mp (List.all_eq_true.mp this.1 k (List.mem_range.mpr (by omega))) (c - 48) (List.mem_range.mpr (by omega)))
  rw [show 48 + (c - 48) = c by omega] at this
  exact this
theorem bad3_ok : ∀ x ∈ bad3, runG .sg (x.cps.toList ++ [32]) = .dead ∧ x.length ≤ 20 := by
  have h : bad3.all (fun x => decide (runG .sg (x.cps.toList ++ [32]) = .dead) && decide (x.length ≤ 20)) = true := by decide +kernel
  intro x hx
  have := List.all_eq_true.mp h x hx
  rw [Bool.and_eq_true] at this
  exact ⟨of_decide_eq_true this.1, of_decide_eq_true this.2⟩
theorem bad6_ok : ∀ x ∈ bad6, runG .t1 x.cps.toList = .dead ∧ x.length ≤ 20 := by
  have h : bad6.all (fun x => decide (runG .t1 x.cps.toList = .dead) && decide (x.length ≤ 20)) = true := by decide +kernel
  intro x hx
  have := List.all_eq_true.mp h x hx
  rw [Bool.and_eq_true] at this
  exact ⟨of_decide_eq_true this.1, of_decide_eq_true this.2⟩
def Suf (l : List Nat) : Prop := l = [] ∨ ∃ r, l = 59 :: r
def BadT (s : Str) : Prop := ∀ suf, Suf suf → accG (runG .t0 (s.cps.toList ++ suf)) = false
def stopG (q : Ag) : Prop := q = .dead ∨ q = .bl ∨ q = .sc ∨ q = .t1
theorem stop_suf {q : Ag} (h : stopG q) {suf : List Nat} (hs : Suf suf) : accG (runG q suf) = false := by
  rcases hs with rfl | ⟨r, rfl⟩
  · rcases h with rfl | rfl | rfl | rfl <;> rfl
  · rw [rung_cons]
    rcases h with rfl | rfl | rfl | rfl <;> (rw [show stepG _ 59 = Ag.dead from rfl, rung_dead]; rfl)
theorem line_mid {ps : List PTy} (hne : ps ≠ []) (h : ∀ p ∈ ps, POk p) {q : Ag} (hq : ahg q) : midG (runG q (textP (ps.map itP)).cps.toList) = true := by
  rw [text_l]
  refine rung_parts hq (fun e => ?_) fun p hp => ?_
  · exact hne (List.map_eq_nil_iff.mp (List.map_eq_nil_iff.mp e))
  · obtain ⟨y, hy, rfl⟩ := List.mem_map.mp hp
    obtain ⟨z, hz, rfl⟩ := List.mem_map.mp hy
    exact pok_l (h z hz)
theorem badT_suf {ps : List PTy} (hne : ps ≠ []) (h : ∀ p ∈ ps, POk p) {x : Str} (hx : ∀ q, midG q = true → stopG (runG q x.cps.toList)) : BadT (textP (ps.map itP) ++ x) := fun suf hs => by
  rw [app_list, rung_app, rung_app]
  exact stop_suf (hx _ (line_mid hne h (.inl rfl))) hs
theorem badT_pre {y x : Str} (h : runG .t0 y.cps.toList = .dead) : BadT (y ++ x) := fun suf hs => by
  rw [app_list, List.append_assoc, rung_app, h, rung_dead]; rfl
theorem badT_end {s x : Str} (h : BadT s) (hx : Suf x.cps.toList) : ∀ ps, ¬ FormG (s ++ x) ps := no_form (by rw [app_list]; exact h _ hx)
theorem badT_no {s : Str} (h : BadT s) : ∀ ps, ¬ FormG s ps := no_form (by have := h [] (.inl rfl); rwa [List.append_nil] at this)
theorem badT_part {as bs : List (List Str)} {p : List Str} (ha : ∀ x ∈ as, PartL (partL x)) (hp : ∀ r, ahg r → runG r (partL p) = .dead ∨ runG r (partL p) = .bl) : BadT (textP (as ++ p :: bs)) := fun suf hs => by
  rw [text_l, List.map_append, List.map_cons]
  exact badG_part (.inl rfl) (fun z hz => by
    obtain ⟨x, hx, rfl⟩ := List.mem_map.mp hz
    exact ha x hx) hp suf hs
def itX (a b c : Str) (ws : List Str) : List Str := a :: b :: c :: ws
theorem itx_l (a b c : Str) (ws : List Str) : partL (itX a b c ws) = a.cps.toList ++ (b.cps.toList ++ (c.cps.toList ++ wL (cpL ws))) := by
  show (a.cps.toList ++ (b.cps.toList ++ (c.cps.toList ++ []))) ++ wL (cpL ws) = _
  rw [List.append_nil, List.append_assoc, List.append_assoc]
theorem bad_nm {p : PTy} (h : POk p) {x : Str} (hx : x ∈ bad0) {r : Ag} (hr : ahg r) : runG r (partL (itX x (sgS p.2.1) (intS p.2.2.1) p.2.2.2)) = .dead := by
  rw [itx_l]
  show runG r (x.cps.toList ++ ([sgn p.2.1] ++ _)) = _
  rw [← List.append_assoc, rung_app, (bad0_ok x hx).1 r hr _ (sgn_is _), rung_dead]
theorem bad_sg {p : PTy} (h : POk p) {x : Str} (hx : x ∈ bad2) {r : Ag} (hr : ahg r) : runG r (partL (itX p.1 x (intS p.2.2.1) p.2.2.2)) = .dead := by
  obtain ⟨k, ek, _, k8⟩ := rung_name hr (name_l h.nm)
  have n := num_l (num_gen h.r0 h.r1).1
  rw [itx_l, rung_app, ek]
  cases hc : (intS p.2.2.1).cps.toList with
  | nil => have := n.one; rw [hc] at this; simp at this
  | cons c l =>
    have hg := n.all c (by rw [hc]; exact List.mem_cons_self)
    show runG _ (x.cps.toList ++ ([c] ++ (l ++ _))) = _
    rw [← List.append_assoc, rung_app, (bad2_ok x hx).1 k c k8 hg, rung_dead]
theorem bad_num {p : PTy} (h : POk p) (hw : p.2.2.2 ≠ []) {x : Str} (hx : x ∈ bad3) {r : Ag} (hr : ahg r) : runG r (partL (itX p.1 (sgS p.2.1) x p.2.2.2)) = .dead := by
  obtain ⟨k, ek, _, k8⟩ := rung_name hr (name_l h.nm)
  obtain ⟨m, ms, e⟩ := List.exists_cons_of_ne_nil hw
  rw [itx_l, rung_app, ek, e]
  show runG _ (sgn p.2.1 :: (x.cps.toList ++ wL (m.cps.toList :: cpL ms))) = _
  rw [rung_cons, rung_sign (sgn_is _), wL_cons]
  show runG _ (x.cps.toList ++ ([32] ++ _)) = _
  rw [← List.append_assoc, rung_app, (bad3_ok x hx).1, rung_dead]
theorem bad_way {p : PTy} (h : POk p) {ms : List Str} {x : Str} (hx : x ∈ bad1) {r : Ag} (hr : ahg r) : runG r (partL (itX p.1 (sgS p.2.1) (intS p.2.2.1) (x :: ms))) = .dead ∨ runG r (partL (itX p.1 (sgS p.2.1) (intS p.2.2.1) (x :: ms))) = .bl := by
  obtain ⟨k, ek, _, k8⟩ := rung_name hr (name_l h.nm)
  rw [itx_l, rung_app, ek]
  show runG _ (sgn p.2.1 :: ((intS p.2.2.1).cps.toList ++ wL (x.cps.toList :: cpL ms))) = _ ∨ runG _ (sgn p.2.1 :: ((intS p.2.2.1).cps.toList ++ wL (x.cps.toList :: cpL ms))) = _
  rw [rung_cons, rung_sign (sgn_is _), rung_app, wL_cons, rung_cons, midG_32 (rung_num (num_l (num_gen h.r0 h.r1).1)), rung_app]
  cases ms with
  | nil => exact (bad1_ok x hx).1
  | cons m ms =>
    show runG _ (wL (m.cps.toList :: cpL ms)) = _ ∨ _
    rw [wL_cons, rung_cons]
    refine .inl ?_
    rcases (bad1_ok x hx).1 with e | e <;> rw [e] <;> exact rung_dead _
theorem midG_sg {q : Ag} (h : midG q = true) {s : Nat} (hs : s = 43 ∨ s = 45) : stepG q s = .dead := by
  rcases hs with rfl | rfl <;> cases q <;> first | rfl | (cases h; done)
theorem bad_rep {q : Ag} (h : midG q = true) {x : Str} (hx : x ∈ bad5) {p : PTy} (hp : POk p) (t : List Nat) : runG q (x.cps.toList ++ (partL (itP p) ++ t)) = .dead := by
  have nm := name_l hp.nm
  rw [itp_l]
  cases hc : p.1.cps.toList with
  | nil => have := nm.one; rw [hc] at this; simp at this
  | cons c l =>
    have hl : isL c = true := nm.all c (by rw [hc]; exact List.mem_cons_self)
    simp only [List.mem_cons, List.not_mem_nil, or_false] at hx
    rcases hx with rfl | rfl | rfl | rfl | rfl
    · show runG q (59 :: c :: _) = _
      rw [rung_cons, midG_59 h, rung_cons]
      have : stepG .sc c = .dead := by
        have c32 : c ≠ 32 := fun e => by rw [e] at hl; exact absurd hl (by decide)
        exact if_neg c32
      rw [this, rung_dead]
    · show runG q (59 :: 32 :: 32 :: _) = _
      rw [rung_cons, midG_59 h, rung_cons, rung_cons]
      exact rung_dead _
    · show runG q (32 :: 59 :: _) = _
      rw [rung_cons, midG_32 h, rung_cons]
      exact rung_dead _
    · show runG q (44 :: _) = _
      rw [rung_cons, midG_44 h]
      exact rung_dead _
    · show runG q (32 :: ((c :: l ++ sgn p.2.1 :: _) ++ t)) = _
      rw [rung_cons, midG_32 h, ← hc, List.append_assoc, rung_app]
      show runG _ (sgn p.2.1 :: _) = _
      rw [rung_cons, midG_sg (rung_way nm) (sgn_is _), rung_dead]
theorem rep_bad {p1 p2 : PTy} {ps : List PTy} (h1 : POk p1) (h2 : POk p2) {x : Str} (hx : x ∈ bad5) : BadT (rep1 (textP ((p1 :: p2 :: ps).map itP)) "; " x) ∧ (rep1 (textP ((p1 :: p2 :: ps).map itP)) "; " x).length ≤ (textP ((p1 :: p2 :: ps).map itP)).length + 3 := by
  have no : 59 ∉ partL (itP p1) := fun z => by
    have hp := h1
    rw [itp_l] at z
    have hw : ∀ ws : List Str, (∀ x ∈ ws, isName x = true) → 59 ∉ wL (cpL ws) := fun ws hn k => by
      unfold wL at k
      obtain ⟨l, hl, k⟩ := List.mem_flatten.mp k
      obtain ⟨l', hl', rfl⟩ := List.mem_map.mp hl
      obtain ⟨x, hx, rfl⟩ := List.mem_map.mp hl'
      rcases List.mem_cons.mp k with k | k
      · cases k
      · have := name_no (hn x hx) k; omega
    rcases List.mem_append.mp z with z | z
    · have := name_no hp.nm z; omega
    rcases List.mem_cons.mp z with z | z
    · rcases sgn_is p1.2.1 with s | s <;> omega
    rcases List.mem_append.mp z with z | z
    · have := (num_gen hp.r0 hp.r1).2.2.1 _ z; omega
    · exact hw _ hp.ws z
  obtain ⟨t, et, _⟩ := flatG_head (partL (itP p2)) ((ps.map itP).map partL)
  have el : (textP ((p1 :: p2 :: ps).map itP)).cps.toList = partL (itP p1) ++ (59 :: [32]) ++ (partL (itP p2) ++ t) := by
    rw [text_l, ← et]; rfl
  have er := rep_two (y := "; ") (s := [32]) (c := 59) (b := partL (itP p2) ++ t) rfl no x
  rw [← str_list el] at er
  refine ⟨fun suf hs => ?_, ?_⟩
  · rw [er, List.append_assoc, List.append_assoc, rung_app, List.append_assoc, bad_rep (rung_part (.inl rfl) (pok_l h1)) hx h2]; rfl
  · have xl : x.length ≤ 3 := by
      have h : bad5.all (fun x => decide (x.length ≤ 3)) = true := by decide +kernel
      exact of_decide_eq_true (List.all_eq_true.mp h x hx)
    have e1 := str_len (rep1 (textP ((p1 :: p2 :: ps).map itP)) "; " x)
    have e2 := str_len (textP ((p1 :: p2 :: ps).map itP))
    have e3 := str_len x
    rw [er] at e1
    rw [el] at e2
    simp only [List.length_append, List.length_cons, List.length_nil] at e1 e2
    omega
def spCell (K : PySem.W.Frag) : Sp := fun vs H Q _ => ∃ (a : Addr) (ns : List Int) (k : Int), vs = [.ref a, .int k] ∧ SqL K H a (ns.map V.int) ∧ ns.length ≤ 63 ∧ 0 ≤ k ∧ ∀ z : Int, Q (.int z) H
theorem ok_cell (F : DefAt K mg "_law_cell_at" s_law_cell_at ["_law_script", "_law_k"]) (T : Txt mg) : Dn P w K mg base "_law_cell_at" 1 ["_law_script", "_law_k"] (spCell K) := by
  have sc := sc_law_cell_at
  refine F.ok sc (fun vs H Q E h => ?_) (fun f cdv A outer s H vs Q E hr h => ?_)
  · obtain ⟨_, _, _, rfl, _⟩ := h; rfl
  obtain ⟨a, ns, k, rfl, hS, h63, h0, q⟩ := h
  have hl : (ns.map V.int).length = ns.length := List.length_map _
  refine ⟨_, (pss_cons (ps_if (pt_cmpR op_lt (pv 1) (pe_callB (clLen (K := K) rfl) rfl T.b_len PySem.boot_len (pa_cons (pv 0) pa_nil)) (nomark _))
      (pss_one (ps_ret (pe_ix (ixL (K := K) rfl) (pv 0) (pv 1) (fun _ _ => rfl))))
      pss_nil)
      (pss_one (ps_ret pe_int))), ?_⟩
  refine ⟨_, rfl, _, rfl, a, _, rfl, .inl hS, _, _, rfl, rfl, _, rfl, ?_⟩
  refine ite2 (fun c => ?_) (fun c => ?_)
  · have c' : k < (((ns.map V.int).length : Nat) : Int) := of_decide_eq_true c
    rw [hl] at c'
    exact ⟨_, rfl, _, rfl, a, _, _, _, rfl, rfl, hS, atI_ints h0 c', q _⟩
  · exact q _
theorem log_s {z : Int} (h0 : 0 ≤ z) (h1 : z < 1000000) : z.natAbs.log2 < 1920 := by
  by_cases e : z.natAbs = 0
  · rw [e]; decide
  · exact Nat.lt_trans ((Nat.log2_lt e).mpr (Nat.lt_of_lt_of_le (show z.natAbs < 1000000 by omega) (by decide : 1000000 ≤ 2 ^ 20))) (by decide)
theorem sw {x y : Str} : decide (V.str x = V.str y) = decide (x = y) := by rw [Bool.eq_iff_iff]; simp
theorem de {x y : Int} : decide (V.int x = V.int y) = decide (x = y) := by rw [Bool.eq_iff_iff]; simp
abbrev rWs : Rel (List (List Str)) := rLst (rLst rStr)
theorem strs_paired {H : Hp} : ∀ {xs : List Str} {vs : List V}, Paired (rStr H) xs vs → vs = xs.map V.str
  | _, _, .nil => rfl
  | _, _, .cons h t => by rw [List.map_cons, ← strs_paired t]; exact congrArg (· :: _) h
theorem strs_rel {H : Hp} {a : Addr} {xs : List Str} (h : H a = some (.lst (xs.map V.str))) : rLst rStr H xs (.ref a) := ⟨a, _, rfl, h, paired_map (F := rStr H) (f := V.str) (fun _ => rfl) xs⟩
theorem sum_b (B : Nat) (l : List Str) (h : ∀ x ∈ l, x.length ≤ B) : (l.map fun x => x.length).sum ≤ l.length * B := sum_le B l h
structure HW (H : Hp) (g : Addr) (as : List Addr) (W : List (List Str)) : Prop where
  hg : H g = some (.lst (as.map V.ref))
  nd : as.Nodup
  ng : g ∉ as
  len : as.length = W.length
  cell : ∀ (i : Nat) x w, as[i]? = some x → W[i]? = some w → H x = some (.lst (w.map V.str))
theorem HW.up {H H' : Hp} {g : Addr} {as : List Addr} {W : List (List Str)} (h : HW H g as W) (s : Same H H') : HW H' g as W := ⟨s _ _ h.hg, h.nd, h.ng, h.len, fun i x w h1 h2 => s _ _ (h.cell i x w h1 h2)⟩
theorem HW.set {H H' : Hp} {g : Addr} {as : List Addr} {W : List (List Str)} (h : HW H g as W) {n : Nat} {x : Addr} {w : List Str} (hx : as[n]? = some x) (hs : ∀ b o, b ≠ x → H b = some o → H' b = some o) (hw : H' x = some (.lst (w.map V.str))) : HW H' g as (W.set n w) := by
  refine ⟨hs _ _ (fun e => h.ng (e ▸ List.mem_of_getElem? hx)) h.hg, h.nd, h.ng, by rw [List.length_set]; exact h.len, fun i y w' hy hw' => ?_⟩
  have nl := (List.getElem?_eq_some_iff.mp hx).1
  by_cases e : i = n
  · subst e
    rw [hx] at hy
    injection hy with hy
    subst hy
    rw [List.getElem?_set_self (by rw [← h.len]; exact nl)] at hw'
    injection hw' with hw'
    subst hw'
    exact hw
  · rw [List.getElem?_set_ne (Ne.symm e)] at hw'
    refine hs _ _ (fun ey => e ?_) (h.cell i y w' hy hw')
    subst ey
    exact (List.getElem?_inj (List.getElem?_eq_some_iff.mp hy).1 h.nd).mp (hy.trans hx.symm)
theorem pr_of {α β : Type} {F : α → β → Prop} : ∀ {xs : List α} {ys : List β}, xs.length = ys.length → (∀ (i : Nat) x y, xs[i]? = some x → ys[i]? = some y → F x y) → Paired F xs ys
  | [], [], _, _ => .nil
  | [], _ :: _, h, _ => by simp at h
  | _ :: _, [], h, _ => by simp at h
  | x :: xs, y :: ys, h, f => .cons (f 0 x y rfl rfl) (pr_of (by simpa using h) fun i a b ha hb => f (i + 1) a b ha hb)
theorem HW.rel {H : Hp} {g : Addr} {as : List Addr} {W : List (List Str)} (h : HW H g as W) : rWs H W (.ref g) := by
  refine ⟨g, _, rfl, h.hg, pr_of (by rw [List.length_map, h.len]) fun i w v hw hv => ?_⟩
  rw [List.getElem?_map] at hv
  cases e : as[i]? with
  | none => rw [e] at hv; cases hv
  | some x =>
    rw [e] at hv
    injection hv with hv
    rw [← hv]
    exact strs_rel (h.cell i x w e hw)
theorem HW.push {H1 H2 : Hp} {g : Addr} {as : List Addr} {W : List (List Str)} (h : HW H1 g as W) {p : Addr} {w : List Str} (s : Same H1 H2) (f : H1 p = none) (hp : H2 p = some (.lst (w.map V.str))) : HW (upd H2 g (.lst (as.map V.ref ++ [.ref p]))) g (as ++ [p]) (W ++ [w]) := by
  have pg : p ≠ g := fun e => by rw [e, h.hg] at f; cases f
  have pa : p ∉ as := fun z => by
    obtain ⟨i, hi⟩ := List.getElem?_of_mem z
    have il : i < W.length := by rw [← h.len]; exact (List.getElem?_eq_some_iff.mp hi).1
    rw [h.cell i p _ hi (List.getElem?_eq_getElem il)] at f; cases f
  refine ⟨by rw [upd_same, List.map_append]; rfl, List.nodup_append.mpr ⟨h.nd, List.nodup_cons.mpr ⟨(fun z => by cases z), List.nodup_nil⟩, fun x hx y hy => ?_⟩, fun z => ?_, by rw [List.length_append, List.length_append, h.len]; rfl, fun i x v hx hv => ?_⟩
  · rw [List.mem_singleton.mp hy]
    intro e; exact pa (e ▸ hx)
  · rcases List.mem_append.mp z with z | z
    · exact h.ng z
    · exact pg (List.mem_singleton.mp z).symm
  · rcases Nat.lt_or_ge i as.length with il | il
    · rw [List.getElem?_append_left il] at hx
      rw [List.getElem?_append_left (by rw [← h.len]; exact il)] at hv
      have xg : x ≠ g := fun e => h.ng (by rw [← e]; exact List.mem_of_getElem? hx)
      rw [upd_ne xg]
      exact s _ _ (h.cell i x v hx hv)
    · rw [List.getElem?_append_right il] at hx
      rw [List.getElem?_append_right (by rw [← h.len]; exact il)] at hv
      have e0 : i - as.length = 0 := by
        have := (List.getElem?_eq_some_iff.mp hx).1
        simpa using this
      have e1 : i - W.length = 0 := by rw [← h.len]; exact e0
      rw [e0] at hx
      rw [e1] at hv
      injection hx with hx
      injection hv with hv
      subst hx; subst hv
      rw [upd_ne pg]; exact hp
theorem pick {l : List Str} {n : Int} (h0 : 0 ≤ n) (h1 : n < l.length) : ∃ x, atI (l.map V.str) n = some (.str x) ∧ x ∈ l ∧ l[n.toNat]? = some x := by
  obtain ⟨m, rfl⟩ := Int.eq_ofNat_of_zero_le h0
  have nl : m < l.length := by omega
  exact ⟨l[m], atI_nat (j := m) (by rw [List.getElem?_map, List.getElem?_eq_getElem nl]; rfl), List.getElem_mem nl, List.getElem?_eq_getElem nl⟩
def ltK (c at' k : Int) (j : Nat) : Int := (c / ((j : Int) + 5) + k * (if (j : Int) = at' then 1 else 0)) % 26
def nmK (c at' : Int) (sz : Nat) (k : Nat) : Str := wrd ((List.range sz).map (ltK c at' (k : Int)))
theorem ltk_in (c at' k : Int) (j : Nat) : 0 ≤ ltK c at' k j ∧ ltK c at' k j < 26 := ⟨Int.emod_nonneg _ (by decide), Int.emod_lt_of_pos _ (by decide)⟩
theorem ltk_all {c at' k : Int} {m : Nat} : ∀ t ∈ (List.range m).map (ltK c at' k), 0 ≤ t ∧ t < 26 := fun t ht => by
  obtain ⟨j, _, rfl⟩ := List.mem_map.mp ht
  exact ltk_in _ _ _ _
theorem nmk_inj {c at' : Int} {sz k k' : Nat} (ha0 : 0 ≤ at') (ha1 : at' < sz) (hk : k < 26) (hk' : k' < 26) (e : nmK c at' sz k = nmK c at' sz k') : k = k' := by
  have e1 := wrd_inj (fun t ht => (ltk_all t ht).1) (fun t ht => (ltk_all t ht).1) e
  have := congrArg (fun l => l[at'.toNat]?) e1
  simp only [List.getElem?_map, List.getElem?_range (show at'.toNat < sz by omega), Option.map_some] at this
  have h := Option.some.inj this
  unfold ltK at h
  rw [show ((at'.toNat : Nat) : Int) = at' by omega, if_pos rfl, Int.mul_one, Int.mul_one] at h
  omega
theorem nmk_name {c at' : Int} {sz k : Nat} (h1 : 1 ≤ sz) (h8 : sz ≤ 8) : isName (nmK c at' sz k) = true := wrd_name (by simp; omega) (by simp; omega) ltk_all
structure GP (ps : List PTy) : Prop where
  ok : ∀ p ∈ ps, POk p
  rk : ∀ p ∈ ps, p.2.2.1 ≤ 40
  ne : ∀ p ∈ ps, p.2.2.2 ≠ []
  nd : (nmsOf ps).Nodup
  inn : ∀ p ∈ ps, ∀ x ∈ p.2.2.2, x ∈ nmsOf ps
def spParts (K : PySem.W.Frag) : Sp := fun vs H Q _ => ∃ (a : Addr) (ns : List Int) (n : Int), vs = [.ref a, .int n] ∧ SqL K H a (ns.map V.int) ∧ ns.length ≤ 63 ∧ 2 ≤ n ∧ n ≤ 6 ∧ ∀ (g : Addr) (as : List Addr) (ps : List PTy) (H' : Hp), Same H H' → HW H' g as (ps.map itP) → H g = none → (∀ x ∈ as, H x = none) → (ps.length : Int) = n → GP ps → Q (.ref g) H'
theorem ok_parts (F : DefAt K mg "_law_parts" s_law_parts ["_law_script", "_law_many_here"]) (T : Txt mg) (D_law_cell_at : Dn P w K mg base "_law_cell_at" 1 ["_law_script", "_law_k"] (spCell K)) : Dn P w K mg base "_law_parts" 2 ["_law_script", "_law_many_here"] (spParts K) := by
  have sc := sc_law_parts
  refine F.ok sc (fun vs H Q E h => ?_) (fun f cdv A outer s H vs Q E hr h => ?_)
  · obtain ⟨_, _, _, rfl, _⟩ := h; rfl
  obtain ⟨a, ns, n, rfl, hS, h63, n2, n6, q⟩ := h
  refine ⟨_, (pss_cons (ps_set (i := 2) sc.nd rfl (Or.inl rfl) pe_str)
      (pss_cons (ps_set (i := 3) sc.nd rfl (Or.inl rfl) (pe_op op_mod (pe_op op_mul (pe_dn D_law_cell_at hr (pa_cons (pv 0) (pa_cons pe_int pa_nil))) pe_int) pe_int))
      (pss_cons (ps_set (i := 4) sc.nd rfl (Or.inl rfl) (pe_op op_add pe_int (pe_op op_mod (pv 3) pe_int)))
      (pss_cons (ps_set (i := 5) sc.nd rfl (Or.inl rfl) (pe_op op_mod (pe_op op_fdiv (pv 3) pe_int) (pv 4)))
      (pss_cons (ps_set (i := 6) sc.nd rfl (Or.inl rfl) (pe_lst pa_nil))
      (pss_cons (ps_for PassesOwn.never rfl (pi_range1 rfl T.b_range (pa_cons (pe_op op_add (pv 1) pe_int) pa_nil)) (pg_name (i := 7) sc.nd rfl (Or.inl rfl))
      (pss_cons (ps_set (i := 8) sc.nd rfl (Or.inl rfl) pe_str)
      (pss_cons (ps_for PassesOwn.never rfl (pi_range1 rfl T.b_range (pa_cons (pv 4) pa_nil)) (pg_name (i := 9) sc.nd rfl (Or.inl rfl))
      (pss_one (ps_set (i := 8) sc.nd rfl (Or.inl rfl) (pe_op op_add_str (pv 8) (pe_ix ix_str (pv 2) (pe_op op_mod (pe_op op_add (pe_op op_fdiv (pv 3) (pe_op op_add (pv 9) pe_int)) (pe_op op_mul (pv 7) (pe_callTy call_int1 rfl T.b_int PyProof.Rows.boot_int (pa_cons (pe_cmpR op_eq (pv 9) (pv 5) (nomark _)) pa_nil)))) pe_int) (fun _ _ => rfl))))))
      (pss_one (ps_expr (pe_bm PySem.F.plainAttrs_list PySem.F.slot_list_append PySem.F.type_list_append mt_append (pv 6) (pa_cons (pv 8) pa_nil)))))))
      (pss_cons (ps_set (i := 10) sc.nd rfl (Or.inl rfl) (pe_lst pa_nil))
      (pss_cons (ps_for PassesOwn.never rfl (pi_range1 rfl T.b_range (pa_cons (pv 1) pa_nil)) (pg_name (i := 7) sc.nd rfl (Or.inl rfl))
      (pss_cons (ps_set (i := 3) sc.nd rfl (Or.inl rfl) (pe_op op_add (pe_dn D_law_cell_at hr (pa_cons (pv 0) (pa_cons (pe_op op_add pe_int (pv 7)) pa_nil))) (pe_op op_mul (pe_op op_mul pe_int (pv 7)) (pv 7))))
      (pss_cons (ps_set (i := 11) sc.nd rfl (Or.inl rfl) (pe_lst (pa_cons (pe_ix (ixL (K := K) rfl) (pv 6) (pv 7) (fun _ _ => rfl)) (pa_cons (pe_ix ix_str pe_str (pe_op op_mod (pe_op op_mod (pe_op op_mul (pv 3) pe_int) pe_int) pe_int) (fun _ _ => rfl)) (pa_cons (pe_callTy call_str_int rfl T.b_str PyProof.Rows.boot_str (pa_cons (pe_op op_mod (pe_op op_mod (pe_op op_mul (pv 3) pe_int) pe_int) pe_int) pa_nil)) pa_nil)))))
      (pss_cons (ps_expr (pe_bm PySem.F.plainAttrs_list PySem.F.slot_list_append PySem.F.type_list_append mt_append (pv 11) (pa_cons (pe_ix (ixL (K := K) rfl) (pv 6) (pe_op op_mod (pe_op op_mod (pe_op op_mul (pv 3) pe_int) pe_int) (pv 1)) (fun _ _ => rfl)) pa_nil)))
      (pss_cut (ps_if (pt_cmpR op_eq (pe_op op_mod (pe_op op_mod (pe_op op_mul (pv 3) pe_int) pe_int) pe_int) pe_int (nomark _))
      (pss_one (ps_expr (pe_bm PySem.F.plainAttrs_list PySem.F.slot_list_append PySem.F.type_list_append mt_append (pv 11) (pa_cons (pe_ix (ixL (K := K) rfl) (pv 6) (pe_op op_mod (pe_op op_mod (pe_op op_mul (pv 3) pe_int) pe_int) (pv 1)) (fun _ _ => rfl)) pa_nil))))
      pss_nil)
      (pss_one (ps_expr (pe_bm PySem.F.plainAttrs_list PySem.F.slot_list_append PySem.F.type_list_append mt_append (pv 10) (pa_cons (pv 11) pa_nil)))))))))
      (pss_one (ps_ret (pv 10))))))))))), ?_⟩
  refine ⟨_, rfl, a, ns, 1, rfl, hS, h63, by decide, fun m0 => ?_⟩
  refine ⟨_, _, rfl, rfl, .inr ⟨by decide, by decide⟩, _, _, rfl, rfl, (show (0 : Int) < 65537 by decide), ?_⟩
  have c0 : 0 ≤ m0 * 16807 % 65537 ∧ m0 * 16807 % 65537 < 65537 := ⟨Int.emod_nonneg _ (by decide), Int.emod_lt_of_pos _ (by decide)⟩
  generalize hc : m0 * 16807 % 65537 = c at c0
  replace hc : (fun i j : Int => V.int (i % j)) (m0 * 16807) 65537 = V.int c := by rw [← hc]
  rw [hc]
  clear hc
  obtain ⟨c0, c1⟩ := c0
  have s8 : 0 ≤ c % 8 ∧ c % 8 < 8 := ⟨Int.emod_nonneg _ (by decide), Int.emod_lt_of_pos _ (by decide)⟩
  refine ⟨_, rfl, _, _, rfl, rfl, (show (0 : Int) < 8 by decide), _, _, rfl, rfl, ?_⟩
  refine ⟨_, rfl, _, _, rfl, rfl, ⟨by decide, by decide⟩, _, rfl, _, _, rfl, rfl, (show (0 : Int) < 1 + c % 8 by omega), ?_⟩
  obtain ⟨sz, hsz⟩ : ∃ sz : Nat, (sz : Int) = 1 + c % 8 := ⟨(1 + c % 8).toNat, by omega⟩
  have a0 := Int.emod_nonneg (c / 8) (show (1 + c % 8 : Int) ≠ 0 by omega)
  have a1 := Int.emod_lt_of_pos (c / 8) (show (0 : Int) < 1 + c % 8 by omega)
  obtain ⟨at', hat'⟩ : ∃ x, x = c / 8 % (1 + c % 8) := ⟨_, rfl⟩
  rw [← hat'] at a0 a1
  have z1 : 1 ≤ sz := by omega
  have z8 : sz ≤ 8 := by omega
  refine ⟨Nat.zero_le _, fun np hnp => ?_⟩
  have sg := same_upd hnp (.lst [])
  refine ⟨_, rfl, _, _, rfl, rfl, n + 1, rfl, by omega, by omega, for_range (lo := 0) (n := (n + 1).toNat) (fun i σ H5 => ∃ y1 y2 y3 : Option V, σ = [some (.ref a), some (.int n), some (.str abc), some (.int c), some (.int (1 + c % 8)), some (.int at'), some (.ref np), y1, y2, y3, none, none] ∧ Same H H5 ∧ H5 np = some (.lst (((List.range i).map (nmK c at' sz)).map V.str)))
    ⟨_, _, _, by rw [hat']; rfl, sg, upd_same⟩ (fun i σ H5 hi h => ?_) (fun σ H5 h => ?_)⟩
  · obtain ⟨y1, y2, y3, rfl, s5, hg5⟩ := h
    refine ⟨_, rfl, 1 + c % 8, rfl, by omega, by omega, for_range (lo := 0) (n := (1 + c % 8).toNat) (fun j σ H6 => ∃ y3 : Option V, σ = [some (.ref a), some (.int n), some (.str abc), some (.int c), some (.int (1 + c % 8)), some (.int at'), some (.ref np), some (.int (0 + ((i : Nat) : Int))), some (.str (wrd ((List.range j).map (ltK c at' (i : Nat))))), y3, none, none] ∧ H6 = H5)
      ⟨_, rfl, rfl⟩ (fun j σ H6 hj h => ?_) (fun σ H6 h => ?_)⟩
    · obtain ⟨y3, rfl, rfl⟩ := h
      have ek : (0 + ((i : Nat) : Int)) * (if decide (V.int (0 + ((j : Nat) : Int)) = V.int at') = true then 1 else 0) = (i : Int) * (if ((j : Nat) : Int) = at' then 1 else 0) := by
        rw [Int.zero_add, Int.zero_add]
        by_cases e : ((j : Nat) : Int) = at'
        · rw [if_pos e, if_pos (by rw [e]; simp)]
        · rw [if_neg e, if_neg (by simp [e])]
      refine ⟨_, rfl, _, rfl, _, rfl, _, rfl, _, _, rfl, rfl, _, _, rfl, rfl, ⟨by omega, by omega⟩, _, rfl, _, rfl, _, rfl, rfl, .inr ⟨_, rfl, _, _, rfl, rfl, .inl ⟨by omega, by omega⟩, _, _, rfl, rfl, ?_⟩⟩
      have lt := ltk_in c at' (i : Nat) j
      have et : (c / (0 + ((j : Nat) : Int) + 5) + (0 + ((i : Nat) : Int)) * (if decide (V.int (0 + ((j : Nat) : Int)) = V.int at') = true then 1 else 0)) % 26 = ltK c at' (i : Nat) j := by
        rw [ek, Int.zero_add]; rfl
      have wl : (wrd ((List.range j).map (ltK c at' (i : Nat)))).length = j := by rw [wrd_len]; simp
      refine ⟨_, _, rfl, rfl, (show (0 : Int) < 26 by decide), abc, _, lt1 (ltK c at' (i : Nat) j), rfl, rfl, (by decide +kernel), (by rw [et]; exact abc_at _ lt.1 lt.2), _, _, rfl, rfl, small (m := 100) (by rw [wl]; show j + 1 ≤ 100; omega), ?_⟩
      have ew : wrd ((List.range j).map (ltK c at' (i : Nat))) ++ ⟨#[lt1 (ltK c at' (i : Nat) j)]⟩ = wrd ((List.range (j + 1)).map (ltK c at' (i : Nat))) := by
        rw [wrd_snoc, List.range_succ, List.map_append]; rfl
      rw [ew]
      exact ⟨_, rfl, rfl⟩
    · obtain ⟨y3, rfl, rfl⟩ := h
      refine ⟨_, rfl, .inl ⟨rfl, _, SqL.of hg5⟩, _, rfl, np, _, _, rfl, rfl, hg5, smlt (m := 100) (by simp; omega), ?_⟩
      refine ⟨_, _, _, rfl, s5.put hnp _, ?_⟩
      rw [upd_same, List.range_succ, List.map_append, List.map_append, show (1 + c % 8).toNat = sz by omega]; rfl
  obtain ⟨y1, y2, y3, rfl, s5, hn5⟩ := h
  have nm_at : ∀ k : Int, 0 ≤ k → k < n → atI (((List.range (n + 1).toNat).map (nmK c at' sz)).map V.str) k = some (.str (nmK c at' sz k.toNat)) := fun k k0 k1 => atI_i k0 (by
    rw [List.getElem?_map, List.getElem?_map, List.getElem?_range (by omega)]; rfl)
  have nd : ∀ m : Nat, m ≤ 7 → ((List.range m).map (nmK c at' sz)).Nodup := fun m hm => map_nodup fun i j hi hj e => nmk_inj a0 (by omega) (by omega) (by omega) e
  refine ⟨Nat.zero_le _, fun g hg => ?_⟩
  have sg2 := same_upd hg (.lst [])
  refine ⟨_, rfl, n, rfl, by omega, by omega, for_range (lo := 0) (n := n.toNat) (fun i σ H6 => ∃ (as : List Addr) (ps : List PTy) (cc : Int) (y1 y2 y3 y4 : Option V), σ = [some (.ref a), some (.int n), some (.str abc), some (.int cc), some (.int (1 + c % 8)), some (.int at'), some (.ref np), y1, y2, y3, some (.ref g), y4] ∧ Same H5 H6 ∧ HW H6 g as (ps.map itP) ∧ (∀ x ∈ as, H5 x = none) ∧ nmsOf ps = (List.range i).map (nmK c at' sz) ∧ ∀ p ∈ ps, POk p ∧ p.2.2.1 ≤ 40 ∧ p.2.2.2 ≠ [] ∧ ∀ x ∈ p.2.2.2, x ∈ (List.range n.toNat).map (nmK c at' sz))
    ⟨[], [], _, _, _, _, _, rfl, sg2, ⟨upd_same, List.nodup_nil, (fun z => by cases z), rfl, (fun i x w e => by cases e)⟩, (fun _ z => by cases z), rfl, (fun _ z => by cases z)⟩ (fun i σ H6 hi h => ?_) (fun σ H6 h => ?_)⟩
  · obtain ⟨as, ps, cc, y1, y2, y3, y4, rfl, s6, hW, hfr, hnm, hps⟩ := h
    have pl : ps.length = i := by have := congrArg List.length hnm; unfold nmsOf at this; simpa using this
    refine ⟨_, rfl, _, rfl, _, _, rfl, rfl, a, ns, 4 + (0 + ((i : Nat) : Int)), rfl, (s5.trans s6).seq hS, h63, by omega, fun z => ?_⟩
    refine ⟨_, rfl, _, _, rfl, rfl, .inl ⟨by decide, by decide⟩, _, rfl, _, _, rfl, rfl, .inr ⟨by omega, by omega⟩, _, _, rfl, rfl, ?_⟩
    generalize hd : z + 7 * (0 + ((i : Nat) : Int)) * (0 + ((i : Nat) : Int)) = d
    replace hd : (fun i j : Int => V.int (i + j)) z (7 * (0 + ((i : Nat) : Int)) * (0 + ((i : Nat) : Int))) = V.int d := by rw [← hd]
    rw [hd]
    clear hd
    have b0 : 0 ≤ d * 48271 % 65521 % 2 ∧ d * 48271 % 65521 % 2 < 2 := ⟨Int.emod_nonneg _ (by decide), Int.emod_lt_of_pos _ (by decide)⟩
    have b1 : 0 ≤ d * 30011 % 10007 % 41 ∧ d * 30011 % 10007 % 41 < 41 := ⟨Int.emod_nonneg _ (by decide), Int.emod_lt_of_pos _ (by decide)⟩
    have b2 : 0 ≤ d * 16807 % 20011 % n ∧ d * 16807 % 20011 % n < n := ⟨Int.emod_nonneg _ (by omega), Int.emod_lt_of_pos _ (by omega)⟩
    have b3 : 0 ≤ d * 69621 % 50021 % n ∧ d * 69621 % 50021 % n < n := ⟨Int.emod_nonneg _ (by omega), Int.emod_lt_of_pos _ (by omega)⟩
    have hat : atI (("+-" : Str).cps.toList) (d * 48271 % 65521 % 2) = some (sgn (d * 48271 % 65521 % 2)) := by
      rcases (show d * 48271 % 65521 % 2 = 0 ∨ d * 48271 % 65521 % 2 = 1 by omega) with e | e <;> rw [e] <;> rfl
    have hn6 := s6 _ _ hn5
    have hk := nm_at (0 + ((i : Nat) : Int)) (by omega) (by omega)
    rw [show (0 + ((i : Nat) : Int)).toNat = i by omega] at hk
    refine ⟨_, rfl, _, rfl, np, _, _, _, rfl, rfl, SqL.of hn6, hk, _, rfl, _, _, rfl, rfl, .inr ⟨by decide, by decide⟩, _, _, rfl, rfl, (show (0 : Int) < 65521 by decide), _, _, rfl, rfl, (show (0 : Int) < 2 by decide), "+-", _, _, rfl, rfl, (by decide +kernel), hat, _, rfl, _, _, rfl, rfl, .inr ⟨by decide, by decide⟩, _, _, rfl, rfl, (show (0 : Int) < 10007 by decide), _, _, rfl, rfl, (show (0 : Int) < 41 by decide), _, rfl, log_s b1.1 (by omega), (by show 3 ≤ sizeLine; decide), fun p hp => ?_⟩
    have s7 := same_upd hp (.lst [V.str (nmK c at' sz i), .str (sgS (d * 48271 % 65521 % 2)), .str (intS (d * 30011 % 10007 % 41))])
    have k7 : upd H6 p (.lst [V.str (nmK c at' sz i), .str (sgS (d * 48271 % 65521 % 2)), .str (intS (d * 30011 % 10007 % 41))]) p = some (.lst [V.str (nmK c at' sz i), .str (sgS (d * 48271 % 65521 % 2)), .str (intS (d * 30011 % 10007 % 41))]) := upd_same
    generalize hH7 : upd H6 p (.lst [V.str (nmK c at' sz i), .str (sgS (d * 48271 % 65521 % 2)), .str (intS (d * 30011 % 10007 % 41))]) = H7 at s7 k7
    rw [show upd H6 p (.lst [V.str (nmK c at' sz i), V.str ⟨#[sgn (d * 48271 % 65521 % 2)]⟩, V.str (Str.ofString (toString (d * 30011 % 10007 % 41)))]) = H7 from hH7]
    have hn7 := s7 _ _ hn6
    obtain ⟨x1, hx1⟩ : ∃ x1, x1 = nmK c at' sz (d * 16807 % 20011 % n).toNat := ⟨_, rfl⟩
    obtain ⟨x2, hx2⟩ : ∃ x2, x2 = nmK c at' sz (d * 69621 % 50021 % n).toNat := ⟨_, rfl⟩
    have m1 : x1 ∈ (List.range n.toNat).map (nmK c at' sz) := List.mem_map.mpr ⟨_, List.mem_range.mpr (by omega), hx1.symm⟩
    have m2 : x2 ∈ (List.range n.toNat).map (nmK c at' sz) := List.mem_map.mpr ⟨_, List.mem_range.mpr (by omega), hx2.symm⟩
    refine ⟨_, rfl, .inl ⟨rfl, _, SqL.of k7⟩, _, rfl, _, rfl, _, _, rfl, rfl, .inr ⟨by decide, by decide⟩, _, _, rfl, rfl, (show (0 : Int) < 20011 by decide), _, rfl, _, _, rfl, rfl, (show (0 : Int) < n by omega), np, _, _, .str x1, rfl, rfl, SqL.of hn7, (by rw [hx1]; exact nm_at _ b2.1 b2.2), p, _, _, rfl, rfl, k7, (by show 4 ≤ sizeLine; decide), ?_⟩
    have pn : p ≠ np := fun e => by rw [e, hn6] at hp; cases hp
    have s8 := s7.put hp (.lst ([V.str (nmK c at' sz i), V.str (sgS (d * 48271 % 65521 % 2)), V.str (intS (d * 30011 % 10007 % 41))] ++ [V.str x1]))
    have k8 : upd H7 p (.lst ([V.str (nmK c at' sz i), V.str (sgS (d * 48271 % 65521 % 2)), V.str (intS (d * 30011 % 10007 % 41))] ++ [V.str x1])) p = some (.lst [V.str (nmK c at' sz i), V.str (sgS (d * 48271 % 65521 % 2)), V.str (intS (d * 30011 % 10007 % 41)), V.str x1]) := upd_same
    generalize upd H7 p (.lst ([V.str (nmK c at' sz i), V.str (sgS (d * 48271 % 65521 % 2)), V.str (intS (d * 30011 % 10007 % 41))] ++ [V.str x1])) = H8 at s8 k8 ⊢
    clear hH7 k7 s7 hn7
    refine ⟨fun σ' H9 => ∃ ws : List Str, σ' = [some (.ref a), some (.int n), some (.str abc), some (.int d), some (.int (1 + c % 8)), some (.int at'), some (.ref np), some (.int (0 + ((i : Nat) : Int))), y2, y3, some (.ref g), some (.ref p)] ∧ Same H6 H9 ∧ H9 p = some (.lst ((itP (nmK c at' sz i, d * 48271 % 65521 % 2, d * 30011 % 10007 % 41, ws)).map V.str)) ∧ ws ≠ [] ∧ ws.length ≤ 2 ∧ ∀ x ∈ ws, x ∈ (List.range n.toNat).map (nmK c at' sz), ?_, ?_⟩
    · refine ⟨_, rfl, _, _, rfl, rfl, .inr ⟨by decide, by decide⟩, _, _, rfl, rfl, (show (0 : Int) < 32749 by decide), _, _, rfl, rfl, (show (0 : Int) < 2 by decide), rfl, _, rfl, ?_⟩
      refine ite2 (fun _ => ?_) (fun _ => ?_)
      · refine ⟨_, rfl, .inl ⟨rfl, _, SqL.of k8⟩, _, rfl, _, rfl, _, _, rfl, rfl, .inr ⟨by decide, by decide⟩, _, _, rfl, rfl, (show (0 : Int) < 50021 by decide), _, rfl, _, _, rfl, rfl, (show (0 : Int) < n by omega), np, _, _, .str x2, rfl, rfl, SqL.of (s8 _ _ hn6), (by rw [hx2]; exact nm_at _ b3.1 b3.2), p, _, _, rfl, rfl, k8, (by show 5 ≤ sizeLine; decide), ?_⟩
        refine ⟨[x1, x2], rfl, s8.put hp _, upd_same, (fun z => by cases z), Nat.le_refl _, fun x hx => ?_⟩
        simp only [List.mem_cons, List.not_mem_nil, or_false] at hx
        rcases hx with rfl | rfl
        · exact m1
        · exact m2
      · refine ⟨[x1], rfl, s8, k8, (fun z => by cases z), (by show 1 ≤ 2; decide), fun x hx => ?_⟩
        rw [List.mem_singleton.mp hx]; exact m1
    rintro σ' H9 ⟨ws, rfl, s9, k9, wne, w2, win⟩
    have gl : (as.map V.ref).length = i := by rw [List.length_map, hW.len, List.length_map, pl]
    refine ⟨_, rfl, .inl ⟨rfl, _, SqL.of (s9 _ _ hW.hg)⟩, _, rfl, g, _, _, rfl, rfl, s9 _ _ hW.hg, smlt (m := 100) (by omega), ?_⟩
    have hW9 := hW.push s9 hp k9
    refine ⟨as ++ [p], ps ++ [_], _, _, _, _, _, rfl, (s6.trans s9).put hg _, by rw [List.map_append]; exact hW9, fun x hx => ?_, ?_, fun x hx => ?_⟩
    · rcases List.mem_append.mp hx with h | h
      · exact hfr x h
      · rw [List.mem_singleton.mp h]; exact s6.free hp
    · show (ps ++ [_]).map _ = _
      rw [List.map_append, List.range_succ, List.map_append]
      exact congrArg (· ++ _) hnm
    · rcases List.mem_append.mp hx with h | h
      · exact hps x h
      · rw [List.mem_singleton.mp h]
        refine ⟨⟨nmk_name z1 z8, by show d * 48271 % 65521 % 2 = 0 ∨ d * 48271 % 65521 % 2 = 1; omega, b1.1, by show d * 30011 % 10007 % 41 < _; omega, fun x hx => ?_, w2⟩, by show d * 30011 % 10007 % 41 ≤ 40; omega, wne, win⟩
        obtain ⟨k, _, rfl⟩ := List.mem_map.mp (win x hx)
        exact nmk_name z1 z8
  · obtain ⟨as, ps, cc, y1, y2, y3, y4, rfl, s6, hW, hfr, hnm, hps⟩ := h
    have pl : ps.length = n.toNat := by have := congrArg List.length hnm; unfold nmsOf at this; simpa using this
    refine ⟨_, rfl, q g as ps H6 (s5.trans s6) hW (s5.free hg) (fun x hx => s5.free (hfr x hx)) (by omega) ⟨fun p hp => (hps p hp).1, fun p hp => (hps p hp).2.1, fun p hp => (hps p hp).2.2.1, ?_, fun p hp x hx => ?_⟩⟩
    · rw [hnm]; exact nd _ (by omega)
    · rw [hnm]; exact (hps p hp).2.2.2 x hx
theorem cut_a3 (xs : List V) : cutV xs none (some 3) = xs.take 3 := by
  unfold cutV
  show List.take (HT.sIx xs.length xs.length (some ((3 : Nat) : Int)) - HT.sIx xs.length 0 none) (List.drop (HT.sIx xs.length 0 none) xs) = _
  rw [HT.sIx_nat, HT.sIx_none, List.drop_zero, Nat.sub_zero]
  rcases Nat.le_total 3 xs.length with h | h
  · rw [Nat.min_eq_left h]
  · rw [Nat.min_eq_right h, List.take_length, List.take_of_length_le h]
theorem cut_b3 (xs : List V) : cutV xs (some 3) none = xs.drop 3 := by
  unfold cutV
  show List.take (HT.sIx xs.length xs.length none - HT.sIx xs.length 0 (some ((3 : Nat) : Int))) (List.drop (HT.sIx xs.length 0 (some ((3 : Nat) : Int))) xs) = _
  rw [HT.sIx_nat, HT.sIx_none]
  rcases Nat.le_total 3 xs.length with h | h
  · rw [Nat.min_eq_left h, List.take_of_length_le (by rw [List.length_drop]; exact Nat.le_refl _)]
  · rw [Nat.min_eq_right h, List.drop_length, List.drop_eq_nil_of_le h]; simp
def spText (K : PySem.W.Frag) : Sp := fun vs H Q _ => ∃ (v : V) (W : List (List Str)), vs = [v] ∧ rWs H W v ∧ W.length ≤ 17 ∧ (∀ ws ∈ W, ws.length ≤ 5 ∧ ∀ w ∈ ws, w.length ≤ 20) ∧ ∀ H', Same H H' → (textP W).length ≤ 4000 → Q (.str (textP W)) H'
theorem ok_text (F : DefAt K mg "_law_text" s_law_text ["_law_parts_here"]) (T : Txt mg) : Dn P w K mg base "_law_text" 1 ["_law_parts_here"] (spText K) := by
  have sc := sc_law_text
  refine F.ok sc (fun vs H Q E h => ?_) (fun f cdv A outer s H vs Q E hr h => ?_)
  · obtain ⟨_, _, rfl, _⟩ := h; rfl
  obtain ⟨v, W, rfl, hv, h17, h5, q⟩ := h
  obtain ⟨g, us, rfl, hg, pr⟩ := hv
  have ul := pr_len pr
  have e1 : (" " : Str).length = 1 := by decide +kernel
  have e3 : ("" : Str).length = 0 := by decide +kernel
  have e4 : ("; " : Str).length = 2 := by decide +kernel
  have hl : ∀ ws ∈ W, (Txt.join "" (ws.take 3)).length ≤ 60 := fun ws hw => by
    obtain ⟨w1, w2⟩ := h5 ws hw
    have := join_few (y := "") (ps := ws.take 3) (B := 20) fun x hx => w2 x (List.mem_of_mem_take hx)
    rw [List.length_take, e3] at this
    omega
  have wl : ∀ ws ∈ W, (partS ws).length ≤ 183 := fun ws hw => by
    obtain ⟨w1, w2⟩ := h5 ws hw
    have := join_few (y := " ") (ps := Txt.join "" (ws.take 3) :: ws.drop 3) (B := 60) fun x hx => by
      rcases List.mem_cons.mp hx with rfl | hx
      · exact hl ws hw
      · have := w2 x (List.mem_of_mem_drop hx); omega
    rw [List.length_cons, List.length_drop, e1] at this
    unfold partS
    omega
  have bl : (textP W).length ≤ 17 * 185 := by
    have := join_few (y := "; ") (ps := W.map partS) (B := 183) fun x hx => by
      obtain ⟨ws, hw, rfl⟩ := List.mem_map.mp hx
      exact wl ws hw
    rw [List.length_map, e4] at this
    exact Nat.le_trans this (Nat.mul_le_mul h17 (Nat.le_refl _))
  refine ⟨_, (pss_one (ps_ret (pe_bm PySem.F.plainAttrs_str PySem.F.slot_str_join PySem.F.type_str_join mt_join pe_str (pa_cons (pe_lc (defScope s_law_text) ["_law_parts_here"] ["_law_part"] 1 [] (pi_list (pv 0)) (fun _ _ _ _ _ _ => (ptg_name (show List.Nodup (["_law_part"] : List Str) by decide +kernel) rfl rfl)) (fun _ _ _ _ _ _ => pts_nil) (fun _ _ _ _ _ _ => (pe_bmJ (K := K) rfl PySem.F.plainAttrs_str PySem.F.slot_str_join PySem.F.type_str_join (mtJoin (K := K) rfl) pe_str (pa_cons (pe_op op_cat (pe_lst (pa_cons (pe_bmJ (K := K) rfl PySem.F.plainAttrs_str PySem.F.slot_str_join PySem.F.type_str_join (mtJoin (K := K) rfl) pe_str (pa_cons (pe_slice (slL (K := K) rfl) (pv 0) po_none (po_some pe_int)) pa_nil)) pa_nil)) (pe_slice (slL (K := K) rfl) (pv 0) (po_some pe_int) po_none)) pa_nil)))) pa_nil)))), ?_⟩
  refine ⟨rfl, _, rfl, g, rfl, ⟨_, SqL.of hg⟩, comp_listD (K := K) (a := g) (xs := us) (fun i ys H3 => Same H H3 ∧ ys = ((W.take i).map partS).map V.str) ⟨Same.refl _, rfl⟩ (small (m := 1000) (by omega)) (fun i ys H3 hi h => ?_) (fun i u ys H3 hi h => ?_) (fun ys H3 h p hp => ?_)⟩
  · obtain ⟨s3, rfl⟩ := h
    exact ⟨SqL.of (s3 _ _ hg), by simp; omega⟩
  · obtain ⟨s3, rfl⟩ := h
    obtain ⟨ws, hw, a, vs, rfl, ha, pv⟩ := L2.Paired.ta pr hi
    rw [strs_paired pv] at ha
    have hwm := List.mem_of_getElem? hw
    obtain ⟨w1, w2⟩ := h5 ws hwm
    have ha3 := s3 _ _ ha
    refine comp_yes ?_
    refine ⟨rfl, rfl, _, rfl, 3, rfl, a, _, rfl, SqL.of ha3, fun sp hsp => ?_⟩
    rw [cut_a3, ← List.map_take]
    have s4 := s3.trans (same_upd hsp (.lst ((ws.take 3).map V.str)))
    have k4 : upd H3 sp (.lst ((ws.take 3).map V.str)) sp = some (.lst ((ws.take 3).map V.str)) := upd_same
    have ha4 := same_upd hsp (.lst ((ws.take 3).map V.str)) _ _ ha3
    generalize upd H3 sp (.lst ((ws.take 3).map V.str)) = H4 at s4 k4 ha4 ⊢
    refine ⟨"", sp, ws.take 3, rfl, rfl, SqL.of k4, (by rw [e3]; decide), ?_, (by show 1 ≤ sizeLine; decide), fun hp1 hhp1 => ?_⟩
    · have := sum_b 20 (ws.take 3) fun x hx => w2 x (List.mem_of_mem_take hx)
      have h3 : (ws.take 3).length ≤ 3 := by rw [List.length_take]; omega
      omega
    have s5 := s4.trans (same_upd hhp1 (.lst [V.str (Txt.join "" (ws.take 3))]))
    have k5 : upd H4 hp1 (.lst [V.str (Txt.join "" (ws.take 3))]) hp1 = some (.lst [V.str (Txt.join "" (ws.take 3))]) := upd_same
    have ha5 := same_upd hhp1 (.lst [V.str (Txt.join "" (ws.take 3))]) _ _ ha4
    generalize upd H4 hp1 (.lst [V.str (Txt.join "" (ws.take 3))]) = H5 at s5 k5 ha5 ⊢
    refine ⟨_, rfl, 3, rfl, a, _, rfl, SqL.of ha5, fun dp hdp => ?_⟩
    rw [cut_b3, ← List.map_drop]
    have s6 := s5.trans (same_upd hdp (.lst ((ws.drop 3).map V.str)))
    have k6 : upd H5 dp (.lst ((ws.drop 3).map V.str)) dp = some (.lst ((ws.drop 3).map V.str)) := upd_same
    have k5' := same_upd hdp (.lst ((ws.drop 3).map V.str)) _ _ k5
    generalize upd H5 dp (.lst ((ws.drop 3).map V.str)) = H6 at s6 k6 k5' ⊢
    refine ⟨hp1, dp, _, _, rfl, rfl, k5', k6, small (m := 1000) (by rw [List.length_map, List.length_drop]; simp; omega), fun cp hcp => ?_⟩
    refine ⟨" ", cp, Txt.join "" (ws.take 3) :: ws.drop 3, rfl, rfl, SqL.of upd_same, (by rw [e1]; decide), ?_, s6.trans (same_upd hcp _), ?_⟩
    · have := sum_b 60 (Txt.join "" (ws.take 3) :: ws.drop 3) fun x hx => by
        rcases List.mem_cons.mp hx with rfl | hx
        · exact hl ws hwm
        · have := w2 x (List.mem_of_mem_drop hx); omega
      rw [List.length_cons, List.length_drop] at this
      rw [List.length_cons, List.length_drop]
      omega
    · have e : W.take (i + 1) = W.take i ++ [ws] := by rw [List.take_add_one, hw]; rfl
      rw [e, List.map_append, List.map_append]; rfl
  obtain ⟨s3, rfl⟩ := h
  rw [← ul, List.take_length]
  have s4 := s3.trans (same_upd hp (.lst ((W.map partS).map V.str)))
  refine ⟨"; ", p, W.map partS, rfl, rfl, SqL.of upd_same, (by rw [e4]; decide), ?_, q _ s4 (by omega)⟩
  have := sum_b 183 (W.map partS) fun x hx => by
    obtain ⟨ws, hw, rfl⟩ := List.mem_map.mp hx
    exact wl ws hw
  rw [List.length_map] at this
  rw [List.length_map]
  omega
theorem nodup_subG {α : Type} [BEq α] [LawfulBEq α] : ∀ (l1 l2 : List α), l1.Nodup → (∀ x ∈ l1, x ∈ l2) → l1.length ≤ l2.length
  | [], _, _, _ => Nat.zero_le _
  | x :: l1, l2, hn, hs => by
    have hx : x ∈ l2 := hs x List.mem_cons_self
    have hxn := (List.nodup_cons.mp hn).1
    have := nodup_subG l1 (l2.erase x) (List.nodup_cons.mp hn).2 fun y hy => (List.mem_erase_of_ne (fun e => by subst e; exact hxn hy)).mpr (hs y (List.mem_cons_of_mem _ hy))
    rw [List.length_erase_of_mem hx] at this
    have hp : 0 < l2.length := List.length_pos_of_mem hx
    rw [List.length_cons]; omega
theorem letters_more {ns : List Str} (h : ns.length ≤ 17) (ha : ∀ (i : Nat) (c : Nat), abc.cps[i]? = some c → (⟨#[c]⟩ : Str) ∈ ns) : False := by
  have nd : abc.cps.toList.Nodup := by decide +kernel
  have sub : ∀ c ∈ abc.cps.toList, c ∈ ns.map fun x => x.cps.toList.headD 0 := fun c hc => by
    obtain ⟨i, hi⟩ := List.getElem?_of_mem hc
    exact List.mem_map.mpr ⟨_, ha i c (by rw [← Array.getElem?_toList]; exact hi), rfl⟩
  have := nodup_subG _ _ nd sub
  rw [List.length_map] at this
  have l : abc.cps.toList.length = 26 := by decide +kernel
  omega
def spFresh (K : PySem.W.Frag) : Sp := fun vs H Q _ => ∃ (g : Addr) (as : List Addr) (ps : List PTy), vs = [.ref g] ∧ HW H g as (ps.map itP) ∧ ps.length ≤ 17 ∧ ∀ (x : Str) (H' : Hp), Same H H' → isName x = true → x ∉ nmsOf ps → Q (.str x) H'
theorem ok_fresh (F : DefAt K mg "_law_fresh" s_law_fresh ["_law_parts_here"]) (T : Txt mg) : Dn P w K mg base "_law_fresh" 1 ["_law_parts_here"] (spFresh K) := by
  have sc := sc_law_fresh
  refine F.ok sc (fun vs H Q E h => ?_) (fun f cdv A outer s H vs Q E hr h => ?_)
  · obtain ⟨_, _, _, rfl, _⟩ := h; rfl
  obtain ⟨g, as, ps, rfl, hW, h17, q⟩ := h
  have al : as.length = ps.length := by rw [hW.len, List.length_map]
  have nl : (nmsOf ps).length = ps.length := List.length_map _
  refine ⟨_, (pss_cons (ps_set (i := 1) sc.nd rfl (Or.inl rfl) pe_str)
      (pss_cons (ps_lc (i := 2) (defScope s_law_fresh) ["_law_parts_here", "_law_letters", "_law_names", "_law_sign"] ["_law_part"] 1 [] sc.nd rfl rfl (pi_list (pv 0)) (fun _ _ _ _ _ _ => (ptg_name (show List.Nodup (["_law_part"] : List Str) by decide +kernel) rfl rfl)) (fun _ _ _ _ _ _ => pts_nil) (fun _ _ _ _ _ _ => (pe_ix (ixL (K := K) rfl) (pv 0) pe_int (fun _ _ => rfl))))
      (pss_cons (ps_for PassesOwn.never rfl (pi_str (pv 1)) (pg_name (i := 3) sc.nd rfl (Or.inl rfl))
      (pss_one (ps_if (pt_cmpR (notInS (K := K) rfl) (pv 3) (pv 2) rfl)
      (pss_one (ps_ret (pv 3)))
      pss_nil)))
      (pss_one (ps_ret pe_str))))), ?_⟩
  refine ⟨_, rfl, g, rfl, ⟨_, SqL.of hW.hg⟩, comp_listD (K := K) (a := g) (xs := as.map V.ref) (fun i ys H3 => H3 = H ∧ ys = ((nmsOf ps).take i).map V.str) ⟨rfl, rfl⟩ (small (m := 1000) (by rw [List.length_map]; omega)) (fun i ys H3 hi h => ?_) (fun i u ys H3 hi h => ?_) (fun ys H3 h np hnp => ?_)⟩
  · obtain ⟨rfl, rfl⟩ := h
    exact ⟨SqL.of hW.hg, by simp; omega⟩
  · obtain ⟨rfl, rfl⟩ := h
    rw [List.getElem?_map] at hi
    obtain ⟨x, hx, rfl⟩ : ∃ x, as[i]? = some x ∧ u = V.ref x := by
      cases e : as[i]? with
      | none => rw [e] at hi; cases hi
      | some z => rw [e] at hi; cases hi; exact ⟨z, rfl, rfl⟩
    obtain ⟨p, hp⟩ : ∃ p, ps[i]? = some p := ⟨_, List.getElem?_eq_getElem (by have := (List.getElem?_eq_some_iff.mp hx).1; omega)⟩
    have hc := hW.cell i x (itP p) hx (by rw [List.getElem?_map, hp]; rfl)
    refine comp_yes ⟨_, rfl, x, _, _, _, rfl, rfl, SqL.of hc, atI_nat (j := 0) rfl, rfl, ?_⟩
    have hn : (nmsOf ps)[i]? = some p.1 := by unfold nmsOf; rw [List.getElem?_map, hp]; rfl
    rw [List.take_add_one, hn, List.map_append]; rfl
  obtain ⟨rfl, rfl⟩ := h
  rw [List.length_map, al, ← nl, List.take_length]
  have s4 := same_upd hnp (.lst ((nmsOf ps).map V.str))
  have k4 : upd H3 np (.lst ((nmsOf ps).map V.str)) np = some (.lst ((nmsOf ps).map V.str)) := upd_same
  generalize upd H3 np (.lst ((nmsOf ps).map V.str)) = H4 at s4 k4 ⊢
  refine ⟨_, rfl, abc, rfl, for_str (z := abc) (fun i σ H5 => H5 = H4 ∧ (∃ y : Option V, σ = [some (.ref g), some (.str abc), some (.ref np), y]) ∧ ∀ (j : Nat) (c : Nat), j < i → abc.cps[j]? = some c → (⟨#[c]⟩ : Str) ∈ nmsOf ps) ⟨rfl, ⟨_, rfl⟩, fun j c z => absurd z (Nat.not_lt_zero j)⟩ (fun i c σ H5 hi h => ?_) (fun σ H5 h => ?_)⟩
  · obtain ⟨rfl, ⟨y, rfl⟩, hk⟩ := h
    refine ⟨_, rfl, _, rfl, np, _, rfl, .inl (SqL.of k4), rfl, (by rw [List.all_map]; exact List.all_eq_true.mpr fun _ _ => rfl), _, rfl, ?_⟩
    have ei : (if true = true then !inV (V.str ⟨#[c]⟩) ((nmsOf ps).map V.str) else inV (V.str ⟨#[c]⟩) ((nmsOf ps).map V.str)) = !decide ((⟨#[c]⟩ : Str) ∈ nmsOf ps) := by rw [inV_str]; rfl
    rw [ei]
    refine ite2 (fun d => ?_) (fun d => ?_)
    · have d' : ¬ (⟨#[c]⟩ : Str) ∈ nmsOf ps := by simpa using d
      refine ⟨_, rfl, q _ _ s4 (name_back (l := [c]) (Nat.le_refl _) (by show 1 ≤ 8; decide) fun x hx => ?_) d'⟩
      rw [List.mem_singleton.mp hx]
      have h4 : abc.cps.toList.all (fun c => decide (97 ≤ c ∧ c ≤ 122)) = true := by decide +kernel
      exact of_decide_eq_true (List.all_eq_true.mp h4 c (List.mem_of_getElem? (i := i) (by rw [Array.getElem?_toList]; exact hi)))
    · have d' : (⟨#[c]⟩ : Str) ∈ nmsOf ps := by simpa using d
      refine ⟨rfl, ⟨_, rfl⟩, fun j c' hj hc' => ?_⟩
      by_cases e : j < i
      · exact hk j c' e hc'
      · have : j = i := by omega
        subst this
        rw [hi] at hc'
        injection hc' with hc'
        rw [← hc']; exact d'
  · obtain ⟨_, _, hk⟩ := h
    exact (letters_more (ns := nmsOf ps) (by omega) fun j c hc => hk j c ((Array.getElem?_eq_some_iff.mp hc).1) hc).elim
def Keep (as : List Addr) (g : Addr) (H H' : Hp) : Prop := ∀ b o, b ≠ g → b ∉ as → H b = some o → H' b = some o
theorem Keep.refl {as : List Addr} {g : Addr} {H : Hp} : Keep as g H H := fun _ _ _ _ e => e
theorem Keep.same {as : List Addr} {g : Addr} {H H1 H2 : Hp} (k : Keep as g H H1) (s : Same H1 H2) : Keep as g H H2 := fun b o n m e => s _ _ (k b o n m e)
theorem Keep.put {as : List Addr} {g : Addr} {H H1 : Hp} (k : Keep as g H H1) {x : Addr} (hx : x ∈ as) (o' : HO) : Keep as g H (upd H1 x o') := fun b o n m e => by rw [upd_ne (fun z => m (by rw [z]; exact hx))]; exact k b o n m e
def BadV (K : PySem.W.Frag) (H : Hp) (v : V) : Prop := (∃ S, kindV H v S ∧ PySem.W.kitOne K (.type S) (.type "str") = some false) ∨ ∃ s, v = .str s ∧ s.length ≤ 20000 ∧ BadT s
structure BadP (p : List Str) : Prop where
  no : ∀ r, ahg r → runG r (partL p) = .dead ∨ runG r (partL p) = .bl
  l : p.length ≤ 5
  w : ∀ x ∈ p, x.length ≤ 20
theorem badp {a b c : Str} {ws : List Str} (ha : a.length ≤ 20) (hb : b.length ≤ 20) (hc : c.length ≤ 20) (hw : ∀ x ∈ ws, x.length ≤ 20) (hl : ws.length ≤ 2) (no : ∀ r, ahg r → runG r (partL (itX a b c ws)) = .dead ∨ runG r (partL (itX a b c ws)) = .bl) : BadP (itX a b c ws) := by
  refine ⟨no, by unfold itX; simp only [List.length_cons]; omega, fun x hx => ?_⟩
  rcases List.mem_cons.mp hx with rfl | hx
  · exact ha
  rcases List.mem_cons.mp hx with rfl | hx
  · exact hb
  rcases List.mem_cons.mp hx with rfl | hx
  · exact hc
  · exact hw x hx
def SdP (g : Addr) (as : List Addr) (ps : List PTy) (H : Hp) (n : Nat) (kind cell : Int) (r : PTy) (k : Int) : St → Hp → Prop := fun σ' H1 => ∃ (p : List Str) (y4 : Option V), σ' = [some (.ref g), some (.int kind), some (.int cell), some (.int (n : Nat)), y4, none] ∧ HW H1 g as ((ps.map itP).set n p) ∧ Keep as g H H1 ∧ (kind < k → BadP p) ∧ (k ≤ kind → p = itP r)
theorem qa_lits {X : Cx} {es : List Expr} {zs : List Str} (h : Lits es zs) : QA X es (tLits zs) := ⟨pa_lits h⟩
theorem sp_l0 : Lits (getL (stN s_law_spoiled_text 1)) bad0 := Lits.cons (Lits.cons (Lits.cons (Lits.cons (Lits.cons (Lits.cons (Lits.cons (Lits.cons (Lits.cons (Lits.cons Lits.nil)))))))))
theorem sp_l1 : Lits (getL (stN s_law_spoiled_text 2)) bad1 := Lits.cons (Lits.cons (Lits.cons (Lits.cons (Lits.cons (Lits.cons (Lits.cons (Lits.cons (Lits.cons (Lits.cons Lits.nil)))))))))
theorem sp_l2 : Lits (getL (stN s_law_spoiled_text 3)) bad2 := Lits.cons (Lits.cons (Lits.cons (Lits.cons (Lits.cons (Lits.cons (Lits.cons (Lits.cons (Lits.cons (Lits.cons Lits.nil)))))))))
theorem sp_l3 : Lits (getL (stN s_law_spoiled_text 4)) bad3 := Lits.cons (Lits.cons (Lits.cons (Lits.cons (Lits.cons (Lits.cons (Lits.cons (Lits.cons (Lits.cons (Lits.cons (Lits.cons (Lits.cons Lits.nil)))))))))))
theorem sp_body : ∃ L0 L1 L2 L3 : List Expr, defBody s_law_spoiled_text = stN s_law_spoiled_text 0 :: putL (stN s_law_spoiled_text 1) L0 :: putL (stN s_law_spoiled_text 2) L1 :: putL (stN s_law_spoiled_text 3) L2 :: putL (stN s_law_spoiled_text 4) L3 :: (defBody s_law_spoiled_text).drop 5 ∧ (∀ X, QA X L0 (tLits bad0)) ∧ (∀ X, QA X L1 (tLits bad1)) ∧ (∀ X, QA X L2 (tLits bad2)) ∧ ∀ X, QA X L3 (tLits bad3) :=
  ⟨_, _, _, _, rfl, fun _ => qa_lits sp_l0, fun _ => qa_lits sp_l1, fun _ => qa_lits sp_l2, fun _ => qa_lits sp_l3⟩
def spSpT (K : PySem.W.Frag) : Sp := fun vs H Q _ => ∃ (g : Addr) (as : List Addr) (kind cell : Int) (ps : List PTy), vs = [.ref g, .int kind, .int cell] ∧ HW H g as (ps.map itP) ∧ GP ps ∧ 2 ≤ ps.length ∧ ps.length ≤ 6 ∧ 0 ≤ kind ∧ kind < 7 ∧ 0 ≤ cell ∧ cell < 65521 ∧ ∀ v H', BadV K H' v → Keep as g H H' → Q v H'
theorem ok_spT (F : DefAt K mg "_law_spoiled_text" s_law_spoiled_text ["_law_parts_here", "_law_kind", "_law_cell"]) (T : Txt mg) (D_law_text : Dn P w K mg base "_law_text" 1 ["_law_parts_here"] (spText K)) : Dn P w K mg base "_law_spoiled_text" 2 ["_law_parts_here", "_law_kind", "_law_cell"] (spSpT K) := by
  have sc := sc_law_spoiled_text
  refine F.ok sc (fun vs H Q E h => ?_) (fun f cdv A outer s H vs Q E hr h => ?_)
  · obtain ⟨_, _, _, _, _, rfl, _⟩ := h; rfl
  obtain ⟨g, as, kind, cell, ps, rfl, hW, gp, p2, p6, k0, k6, c0, c6, q⟩ := h
  have al : as.length = ps.length := by rw [hW.len, List.length_map]
  obtain ⟨L0, L1, L2, L3, hb, hL_138, hL_140, hL_142, hL_144⟩ := sp_body
  rw [hb]
  refine ⟨_, (pss_cons (ps_set (i := 3) sc.nd rfl (Or.inl rfl) (pe_op op_mod (pv 2) (pe_callB (clLen (K := K) rfl) rfl T.b_len PySem.boot_len (pa_cons (pv 0) pa_nil))))
      (pss_cut (ps_if (pt_cmpR op_eq (pv 1) pe_int (nomark _))
      (pss_one (ps_asg (pe_ix (ixL (K := K) rfl) (pe_lstQ (hL_138 _)) (pe_op op_mod (pe_op op_fdiv (pv 2) pe_int) pe_int) (fun _ _ => rfl)) (pg_sub (pe_ix (ixL (K := K) rfl) (pv 0) (pv 3) (fun _ _ => rfl)) pe_int set_list)))
      pss_nil)
      (pss_cut (ps_if (pt_cmpR op_eq (pv 1) pe_int (nomark _))
      (pss_one (ps_asg (pe_ix (ixL (K := K) rfl) (pe_lstQ (hL_140 _)) (pe_op op_mod (pe_op op_fdiv (pv 2) pe_int) pe_int) (fun _ _ => rfl)) (pg_sub (pe_ix (ixL (K := K) rfl) (pv 0) (pv 3) (fun _ _ => rfl)) pe_int set_list)))
      pss_nil)
      (pss_cut (ps_if (pt_cmpR op_eq (pv 1) pe_int (nomark _))
      (pss_one (ps_asg (pe_ix (ixL (K := K) rfl) (pe_lstQ (hL_142 _)) (pe_op op_mod (pe_op op_fdiv (pv 2) pe_int) pe_int) (fun _ _ => rfl)) (pg_sub (pe_ix (ixL (K := K) rfl) (pv 0) (pv 3) (fun _ _ => rfl)) pe_int set_list)))
      pss_nil)
      (pss_cut (ps_if (pt_cmpR op_eq (pv 1) pe_int (nomark _))
      (pss_cons (ps_set (i := 4) sc.nd rfl (Or.inl rfl) (pe_lstQ (hL_144 _)))
      (pss_one (ps_asg (pe_ix (ixL (K := K) rfl) (pv 4) (pe_op op_mod (pe_op op_fdiv (pv 2) pe_int) pe_int) (fun _ _ => rfl)) (pg_sub (pe_ix (ixL (K := K) rfl) (pv 0) (pv 3) (fun _ _ => rfl)) pe_int set_list))))
      pss_nil)
      (pss_cons (ps_set (i := 5) sc.nd rfl (Or.inl rfl) (pe_dn D_law_text hr (pa_cons (pv 0) pa_nil)))
      (pss_cons (ps_if (pt_cmpR op_eq (pv 1) pe_int (nomark _))
      (pss_one (ps_ret (pe_ix (ixL (K := K) rfl) (pe_lstQ (qa_cons (pe_op op_add_str (pv 5) pe_str) (qa_cons (pe_op op_add_str pe_str (pv 5)) (qa_cons (pe_op op_add_str (pv 5) pe_str) (qa_cons (pe_op op_add_str (pv 5) pe_str) (qa_cons (pe_op op_add_str (pv 5) pe_str) (qa_cons (pe_op op_add_str pe_str (pv 5)) qa_nil))))))) (pe_op op_mod (pe_op op_fdiv (pv 2) pe_int) pe_int) (fun _ _ => rfl))))
      pss_nil)
      (pss_cons (ps_ifRep (i := 1) (o := 5) rfl (Or.inl rfl) rfl (Or.inl rfl) (pcs_lits (Lits.cons (Lits.cons (Lits.cons (Lits.cons (Lits.cons Lits.nil)))))) (pe_op op_mod (pe_op op_fdiv (pv 2) pe_int) pe_int) (fun _ _ => rfl) (by decide))
      (pss_cons (ps_if (pt_cmpR op_eq (pv 1) pe_int (nomark _))
      (pss_one (ps_ret (pe_ix (ixL (K := K) rfl) (pe_lstQ (qa_cons pe_non (qa_cons pe_int (qa_cons pe_bl (qa_cons (pe_tup (pa_cons (pv 5) pa_nil)) (qa_cons (pe_lst (pa_cons (pv 5) pa_nil)) qa_nil)))))) (pe_op op_mod (pe_op op_fdiv (pv 2) pe_int) pe_int) (fun _ _ => rfl))))
      pss_nil)
      (pss_one (ps_ret (pv 5)))))))))))), ?_⟩
  have m0 := Int.emod_nonneg cell (show ((as.map V.ref).length : Int) ≠ 0 by rw [List.length_map]; omega)
  have m1 := Int.emod_lt_of_pos cell (show (0 : Int) < ((as.map V.ref).length : Int) by rw [List.length_map]; omega)
  obtain ⟨n, hn⟩ := Int.eq_ofNat_of_zero_le m0
  rw [hn, List.length_map] at m1
  have nl : n < as.length := by omega
  have nw : n < ps.length := by omega
  obtain ⟨wa, hwa⟩ : ∃ wa, as[n]? = some wa := ⟨_, List.getElem?_eq_getElem nl⟩
  obtain ⟨r, hr0⟩ : ∃ r, ps[n]? = some r := ⟨_, List.getElem?_eq_getElem nw⟩
  have rm := List.mem_of_getElem? hr0
  have wam := List.mem_of_getElem? hwa
  have rok := gp.ok r rm
  obtain ⟨w0, ms, ews⟩ := List.exists_cons_of_ne_nil (gp.ne r rm)
  have f5 := itp_few rok
  have fnm := f5.2 r.1 List.mem_cons_self
  have fsg := f5.2 (sgS r.2.1) (List.mem_cons_of_mem _ List.mem_cons_self)
  have fnu := f5.2 (intS r.2.2.1) (List.mem_cons_of_mem _ (List.mem_cons_of_mem _ List.mem_cons_self))
  have fws : ∀ x ∈ r.2.2.2, x.length ≤ 20 := fun x hx => f5.2 x (List.mem_cons_of_mem _ (List.mem_cons_of_mem _ (List.mem_cons_of_mem _ hx)))
  have hat : atI (as.map V.ref) ((n : Nat) : Int) = some (.ref wa) := atI_nat (j := n) (by rw [List.getElem?_map, hwa]; rfl)
  have il : ((itP r).map V.str).length = 3 + r.2.2.2.length := by unfold itP; simp only [List.length_map, List.length_cons]; omega
  have wl : 1 ≤ r.2.2.2.length := by rw [ews, List.length_cons]; omega
  refine ⟨_, rfl, _, rfl, g, _, rfl, .inl (SqL.of hW.hg), _, _, rfl, rfl, (by rw [List.length_map]; omega), ?_⟩
  have hmod : (fun i j : Int => V.int (i % j)) cell ((as.map V.ref).length : Int) = V.int (n : Nat) := by show V.int (cell % _) = _; rw [hn]
  rw [hmod]
  clear hmod
  have self : (ps.map itP).set n (itP r) = ps.map itP := by
    refine List.ext_getElem? fun i => ?_
    by_cases e : i = n
    · subst e
      rw [List.getElem?_set_self (by rw [List.length_map]; exact nw), List.getElem?_map, hr0]; rfl
    · rw [List.getElem?_set_ne (Ne.symm e)]
  have hW0 : HW H g as ((ps.map itP).set n (itP r)) := by rw [self]; exact hW
  have key : ∀ {H1 H2 : Hp} (x : V) (j : Nat) (w : List Str), HW H1 g as ((ps.map itP).set n (itP r)) → Same H1 H2 → ((itP r).map V.str).set j x = w.map V.str → HW (upd H2 wa (.lst (((itP r).map V.str).set j x))) g as ((ps.map itP).set n w) := fun {H1 H2} x j w h s e => by
    have := (h.up s).set (w := w) hwa (H' := upd H2 wa (.lst (((itP r).map V.str).set j x))) (fun b o nb e => by rw [upd_ne nb]; exact e) (by rw [upd_same, e])
    rw [List.set_set] at this
    exact this
  have cellr : ∀ {H1 : Hp}, HW H1 g as ((ps.map itP).set n (itP r)) → H1 wa = some (.lst ((itP r).map V.str)) := fun {H1} h => h.cell n wa (itP r) hwa (by rw [List.getElem?_set_self (by rw [List.length_map]; exact nw)])
  have i10 : 0 ≤ cell / 7 % 10 ∧ cell / 7 % 10 < 10 := ⟨Int.emod_nonneg _ (by decide), Int.emod_lt_of_pos _ (by decide)⟩
  have i12 : 0 ≤ cell / 7 % 12 ∧ cell / 7 % 12 < 12 := ⟨Int.emod_nonneg _ (by decide), Int.emod_lt_of_pos _ (by decide)⟩
  refine ⟨SdP g as ps H n kind cell r 1, ?_, ?_⟩
  · refine ⟨_, rfl, rfl, _, rfl, ?_⟩
    rw [de]
    refine ite2 (fun cc => ?_) (fun cc => ?_)
    rotate_left
    · have c' : ¬ kind = 0 := fun z => cc (decide_eq_true z)
      exact ⟨_, _, rfl, hW0, Keep.refl, fun z => by omega, fun _ => rfl⟩
    have c' := of_decide_eq_true cc
    refine ⟨(by show 10 ≤ sizeLine; decide), fun wp hwp => ?_⟩
    have s1 := same_upd hwp (.lst (bad0.map V.str))
    have k1 : upd H wp (.lst (bad0.map V.str)) wp = some (.lst (bad0.map V.str)) := upd_same
    generalize upd H wp (.lst (bad0.map V.str)) = H1 at s1 k1 ⊢
    obtain ⟨x, hx, hm, _⟩ := pick (l := bad0) (n := cell / 7 % 10) i10.1 i10.2
    refine ⟨_, rfl, _, _, rfl, rfl, ⟨by decide, by decide⟩, _, _, rfl, rfl, (show (0 : Int) < 10 by decide), wp, _, _, .str x, rfl, rfl, SqL.of k1, hx, ?_⟩
    refine ⟨_, rfl, _, rfl, g, _, _, .ref wa, rfl, rfl, SqL.of (s1 _ _ hW.hg), hat, wa, _, 0, 0, rfl, rfl, s1 _ _ (cellr hW0), (by unfold ixN; rw [if_pos (by decide), if_pos (by omega)]; rfl), ?_⟩
    refine ⟨_, _, rfl, key (.str x) 0 (itX x (sgS r.2.1) (intS r.2.2.1) r.2.2.2) hW0 s1 rfl, (Keep.refl.same s1).put wam _, fun _ => badp (bad0_ok x hm).2 fsg fnu fws rok.l fun q hq => .inl (bad_nm rok hm hq), fun z => by omega⟩
  rintro σ' H1 ⟨p, y4, rfl, hW1, kp, A1, B1⟩
  refine ⟨SdP g as ps H n kind cell r 2, ?_, ?_⟩
  · refine ⟨_, rfl, rfl, _, rfl, ?_⟩
    rw [de]
    refine ite2 (fun cc => ?_) (fun cc => ?_)
    rotate_left
    · have c' : ¬ kind = 1 := fun z => cc (decide_eq_true z)
      exact ⟨_, _, rfl, hW1, kp, fun z => A1 (by omega), fun z => B1 (by omega)⟩
    have c' := of_decide_eq_true cc
    have e := B1 (by omega)
    subst e
    refine ⟨(by show 10 ≤ sizeLine; decide), fun wp hwp => ?_⟩
    have s1 := same_upd hwp (.lst (bad1.map V.str))
    have k1 : upd H1 wp (.lst (bad1.map V.str)) wp = some (.lst (bad1.map V.str)) := upd_same
    generalize upd H1 wp (.lst (bad1.map V.str)) = H2 at s1 k1 ⊢
    obtain ⟨x, hx, hm, _⟩ := pick (l := bad1) (n := cell / 7 % 10) i10.1 i10.2
    refine ⟨_, rfl, _, _, rfl, rfl, ⟨by decide, by decide⟩, _, _, rfl, rfl, (show (0 : Int) < 10 by decide), wp, _, _, .str x, rfl, rfl, SqL.of k1, hx, ?_⟩
    refine ⟨_, rfl, _, rfl, g, _, _, .ref wa, rfl, rfl, SqL.of (s1 _ _ hW1.hg), hat, wa, _, 3, 3, rfl, rfl, s1 _ _ (cellr hW1), (by unfold ixN; rw [if_pos (by decide), if_pos (by omega)]; rfl), ?_⟩
    refine ⟨_, _, rfl, key (.str x) 3 (itX r.1 (sgS r.2.1) (intS r.2.2.1) (x :: ms)) hW1 s1 (by unfold itP; rw [ews]; rfl), (kp.same s1).put wam _, fun _ => badp fnm fsg fnu (fun y hy => ?_) (by have := rok.l; rw [ews] at this; exact this) fun q hq => bad_way rok hm hq, fun z => by omega⟩
    rcases List.mem_cons.mp hy with rfl | hy
    · exact (bad1_ok _ hm).2
    · exact fws y (by rw [ews]; exact List.mem_cons_of_mem _ hy)
  clear hW1 kp A1 B1
  rintro σ' H1 ⟨p, y4, rfl, hW1, kp, A1, B1⟩
  refine ⟨SdP g as ps H n kind cell r 3, ?_, ?_⟩
  · refine ⟨_, rfl, rfl, _, rfl, ?_⟩
    rw [de]
    refine ite2 (fun cc => ?_) (fun cc => ?_)
    rotate_left
    · have c' : ¬ kind = 2 := fun z => cc (decide_eq_true z)
      exact ⟨_, _, rfl, hW1, kp, fun z => A1 (by omega), fun z => B1 (by omega)⟩
    have c' := of_decide_eq_true cc
    have e := B1 (by omega)
    subst e
    refine ⟨(by show 10 ≤ sizeLine; decide), fun wp hwp => ?_⟩
    have s1 := same_upd hwp (.lst (bad2.map V.str))
    have k1 : upd H1 wp (.lst (bad2.map V.str)) wp = some (.lst (bad2.map V.str)) := upd_same
    generalize upd H1 wp (.lst (bad2.map V.str)) = H2 at s1 k1 ⊢
    obtain ⟨x, hx, hm, _⟩ := pick (l := bad2) (n := cell / 7 % 10) i10.1 i10.2
    refine ⟨_, rfl, _, _, rfl, rfl, ⟨by decide, by decide⟩, _, _, rfl, rfl, (show (0 : Int) < 10 by decide), wp, _, _, .str x, rfl, rfl, SqL.of k1, hx, ?_⟩
    refine ⟨_, rfl, _, rfl, g, _, _, .ref wa, rfl, rfl, SqL.of (s1 _ _ hW1.hg), hat, wa, _, 1, 1, rfl, rfl, s1 _ _ (cellr hW1), (by unfold ixN; rw [if_pos (by decide), if_pos (by omega)]; rfl), ?_⟩
    exact ⟨_, _, rfl, key (.str x) 1 (itX r.1 x (intS r.2.2.1) r.2.2.2) hW1 s1 rfl, (kp.same s1).put wam _, fun _ => badp fnm (bad2_ok x hm).2 fnu fws rok.l fun q hq => .inl (bad_sg rok hm hq), fun z => by omega⟩
  clear hW1 kp A1 B1
  rintro σ' H1 ⟨p, y4, rfl, hW1, kp, A1, B1⟩
  refine ⟨SdP g as ps H n kind cell r 4, ?_, ?_⟩
  · refine ⟨_, rfl, rfl, _, rfl, ?_⟩
    rw [de]
    refine ite2 (fun cc => ?_) (fun cc => ?_)
    rotate_left
    · have c' : ¬ kind = 3 := fun z => cc (decide_eq_true z)
      exact ⟨_, _, rfl, hW1, kp, fun z => A1 (by omega), fun z => B1 (by omega)⟩
    have c' := of_decide_eq_true cc
    have e := B1 (by omega)
    subst e
    refine ⟨(by show 12 ≤ sizeLine; decide), fun wp hwp => ?_⟩
    have s1 := same_upd hwp (.lst (bad3.map V.str))
    have k1 : upd H1 wp (.lst (bad3.map V.str)) wp = some (.lst (bad3.map V.str)) := upd_same
    generalize upd H1 wp (.lst (bad3.map V.str)) = H2 at s1 k1 ⊢
    obtain ⟨x, hx, hm, _⟩ := pick (l := bad3) (n := cell / 7 % 12) i12.1 i12.2
    refine ⟨_, rfl, _, rfl, _, _, rfl, rfl, ⟨by decide, by decide⟩, _, _, rfl, rfl, (show (0 : Int) < 12 by decide), wp, _, _, .str x, rfl, rfl, SqL.of k1, hx, ?_⟩
    refine ⟨_, rfl, _, rfl, g, _, _, .ref wa, rfl, rfl, SqL.of (s1 _ _ hW1.hg), hat, wa, _, 2, 2, rfl, rfl, s1 _ _ (cellr hW1), (by unfold ixN; rw [if_pos (by decide), if_pos (by omega)]; rfl), ?_⟩
    exact ⟨_, _, rfl, key (.str x) 2 (itX r.1 (sgS r.2.1) x r.2.2.2) hW1 s1 rfl, (kp.same s1).put wam _, fun _ => badp fnm fsg (bad3_ok x hm).2 fws rok.l fun q hq => .inl (bad_num rok (gp.ne r rm) hm hq), fun z => by omega⟩
  clear hW1 kp A1 B1
  rintro σ' H3 ⟨p3, y4, rfl, hW3, kp, A3, B3⟩
  have pl : p3.length ≤ 5 ∧ ∀ w ∈ p3, w.length ≤ 20 := by
    by_cases z : kind < 4
    · exact ⟨(A3 z).l, (A3 z).w⟩
    · rw [B3 (by omega)]; exact f5
  have split3 : (ps.map itP).set n p3 = (ps.take n).map itP ++ p3 :: (ps.drop (n + 1)).map itP := by
    rw [List.set_eq_take_append_cons_drop, if_pos (by rw [List.length_map]; exact nw), List.map_take, List.map_drop]
  refine ⟨_, rfl, _, _, rfl, hW3.rel, by rw [List.length_set, List.length_map]; omega, fun w hw => ?_, fun H4 s4 tl => ?_⟩
  · rcases List.mem_or_eq_of_mem_set hw with h' | h'
    · obtain ⟨z, hz, rfl⟩ := List.mem_map.mp h'
      exact itp_few (gp.ok z hz)
    · rw [h']; exact pl
  have kp4 := kp.same s4
  have pne : ps ≠ [] := fun e => by rw [e] at p2; simp at p2
  have e1 : (" " : Str).length = 1 := by decide +kernel
  have e2 : (";" : Str).length = 1 := by decide +kernel
  have e3 : ("; " : Str).length = 2 := by decide +kernel
  have e4 : ("\n" : Str).length = 1 := by decide +kernel
  have good : 4 ≤ kind → textP ((ps.map itP).set n p3) = textP (ps.map itP) := fun z => by rw [B3 z, self]
  generalize hline : textP ((ps.map itP).set n p3) = line at tl good ⊢
  have i6 : 0 ≤ cell / 7 % 6 ∧ cell / 7 % 6 < 6 := ⟨Int.emod_nonneg _ (by decide), Int.emod_lt_of_pos _ (by decide)⟩
  have i5 : 0 ≤ cell / 7 % 5 ∧ cell / 7 % 5 < 5 := ⟨Int.emod_nonneg _ (by decide), Int.emod_lt_of_pos _ (by decide)⟩
  refine ⟨_, rfl, rfl, _, rfl, ?_⟩
  rw [de]
  refine ite2 (fun cc => ?_) (fun cc => ?_)
  · have c' := of_decide_eq_true cc
    have gl := good (by omega)
    subst gl
    refine ⟨_, rfl, _, _, rfl, rfl, small (m := 10000) (by rw [e1]; omega), _, rfl, _, _, rfl, rfl, small (m := 10000) (by rw [e1]; omega), _, rfl, _, _, rfl, rfl, small (m := 10000) (by rw [e2]; omega), _, rfl, _, _, rfl, rfl, small (m := 10000) (by rw [e3]; omega), _, rfl, _, _, rfl, rfl, small (m := 10000) (by rw [e4]; omega), _, rfl, _, _, rfl, rfl, small (m := 10000) (by rw [e3]; omega), (by show 6 ≤ sizeLine; decide), fun lp hlp => ?_⟩
    obtain ⟨x, hx, hm, _⟩ := pick (l := [textP (ps.map itP) ++ " ", " " ++ textP (ps.map itP), textP (ps.map itP) ++ ";", textP (ps.map itP) ++ "; ", textP (ps.map itP) ++ "\n", "; " ++ textP (ps.map itP)]) (n := cell / 7 % 6) i6.1 i6.2
    refine ⟨_, rfl, _, _, rfl, rfl, ⟨by decide, by decide⟩, _, _, rfl, rfl, (show (0 : Int) < 6 by decide), lp, _, _, .str x, rfl, rfl, SqL.of upd_same, hx, q _ _ (.inr ⟨x, rfl, ?_⟩) (kp4.same (same_upd hlp _))⟩
    simp only [List.mem_cons, List.not_mem_nil, or_false] at hm
    rcases hm with rfl | rfl | rfl | rfl | rfl | rfl
    · exact ⟨by rw [app_len, e1]; omega, badT_suf pne gp.ok fun z hz => by show stopG (runG z [32]); rw [rung_cons, midG_32 hz]; exact .inr (.inl rfl)⟩
    · exact ⟨by rw [app_len, e1]; omega, badT_pre rfl⟩
    · exact ⟨by rw [app_len, e2]; omega, badT_suf pne gp.ok fun z hz => by show stopG (runG z [59]); rw [rung_cons, midG_59 hz]; exact .inr (.inr (.inl rfl))⟩
    · exact ⟨by rw [app_len, e3]; omega, badT_suf pne gp.ok fun z hz => by show stopG (runG z [59, 32]); rw [rung_cons, midG_59 hz]; exact .inr (.inr (.inr rfl))⟩
    · exact ⟨by rw [app_len, e4]; omega, badT_suf pne gp.ok fun z hz => by show stopG (runG z [10]); rw [rung_cons, midG_10 hz]; exact .inl rfl⟩
    · exact ⟨by rw [app_len, e3]; omega, badT_pre rfl⟩
  have n4 : ¬ kind = 4 := fun z => cc (decide_eq_true z)
  refine ⟨kind, rfl, fun c' => ?_, fun c' => ?_⟩
  · have gl := good (by omega)
    subst gl
    obtain ⟨zz, _, hm, hz⟩ := pick (l := bad5) (n := cell / 7 % 5) i5.1 i5.2
    have z3 : (("; " : Str) == zz) = false ∧ zz.length ≤ 100 := by
      have h : bad5.all (fun x => !(("; " : Str) == x) && decide (x.length ≤ 100)) = true := by decide +kernel
      have := List.all_eq_true.mp h zz hm
      rw [Bool.and_eq_true] at this
      exact ⟨by simpa using this.1, of_decide_eq_true this.2⟩
    obtain ⟨a1, a2, rest, eps⟩ : ∃ a1 a2 rest, ps = a1 :: a2 :: rest := by
      match ps, p2 with
      | a1 :: a2 :: rest, _ => exact ⟨a1, a2, rest, rfl⟩
    have hb := rep_bad (ps := rest) (gp.ok a1 (by rw [eps]; exact List.mem_cons_self)) (gp.ok a2 (by rw [eps]; exact List.mem_cons_of_mem _ List.mem_cons_self)) hm
    rw [← eps] at hb
    refine ⟨_, rfl, _, rfl, _, _, rfl, rfl, ⟨by decide, by decide⟩, _, _, rfl, rfl, (show (0 : Int) < 5 by decide), (cell / 7 % 5).toNat, zz, ?_, hz, z3.1, by omega, z3.2, small (m := 10000) (by have := hb.2; omega), q _ _ (.inr ⟨_, rfl, by have := hb.2; omega, hb.1⟩) kp4⟩
    show V.int (cell / 7 % 5) = V.int _
    congr 1
    omega
  refine ⟨_, rfl, rfl, _, rfl, ?_⟩
  rw [de]
  refine ite2 (fun cc => ?_) (fun cc => ?_)
  · refine ⟨_, rfl, (by show 1 ≤ sizeLine; decide), fun tp htp => ?_⟩
    have s5 := same_upd htp (.tup [V.str line])
    have k5 : upd H4 tp (.tup [V.str line]) tp = some (.tup [V.str line]) := upd_same
    generalize upd H4 tp (.tup [V.str line]) = H5 at s5 k5 ⊢
    refine ⟨_, rfl, (by show 1 ≤ sizeLine; decide), fun lp hlp => ?_⟩
    have s6 := same_upd hlp (.lst [V.str line])
    have k6' : upd H5 lp (.lst [V.str line]) lp = some (.lst [V.str line]) := upd_same
    have k5' := s6 _ _ k5
    generalize upd H5 lp (.lst [V.str line]) = H6 at s6 k6' k5' ⊢
    refine ⟨(by show 5 ≤ sizeLine; decide), fun op hop => ?_⟩
    have s7 := same_upd hop (.lst [V.non, .int 7, .bl true, .ref tp, .ref lp])
    have k7 : upd H6 op (.lst [V.non, .int 7, .bl true, .ref tp, .ref lp]) op = some (.lst [V.non, .int 7, .bl true, .ref tp, .ref lp]) := upd_same
    replace k5' := s7 _ _ k5'
    replace k6' := s7 _ _ k6'
    generalize upd H6 op (.lst [V.non, .int 7, .bl true, .ref tp, .ref lp]) = H7 at s7 k7 k5' k6' ⊢
    obtain ⟨v, hv, bv⟩ : ∃ v, atI [V.non, .int 7, .bl true, .ref tp, .ref lp] (cell / 7 % 5) = some v ∧ BadV K H7 v := by
      generalize cell / 7 % 5 = j at i5
      obtain rfl | rfl | rfl | rfl | rfl : j = 0 ∨ j = 1 ∨ j = 2 ∨ j = 3 ∨ j = 4 := by omega
      · exact ⟨_, atI_nat (j := 0) rfl, .inl ⟨"NoneType", rfl, rfl⟩⟩
      · exact ⟨_, atI_nat (j := 1) rfl, .inl ⟨"int", rfl, rfl⟩⟩
      · exact ⟨_, atI_nat (j := 2) rfl, .inl ⟨"bool", rfl, rfl⟩⟩
      · exact ⟨_, atI_nat (j := 3) rfl, .inl ⟨"tuple", .inr (.inl ⟨rfl, _, k5'⟩), rfl⟩⟩
      · exact ⟨_, atI_nat (j := 4) rfl, .inl ⟨"list", .inl ⟨rfl, .inl ⟨_, k6'⟩⟩, rfl⟩⟩
    exact ⟨_, rfl, _, _, rfl, rfl, ⟨by decide, by decide⟩, _, _, rfl, rfl, (show (0 : Int) < 5 by decide), op, _, _, v, rfl, rfl, SqL.of k7, hv, q _ _ bv (kp4.same (s5.trans (s6.trans s7)))⟩
  have n6 : ¬ kind = 6 := fun z => cc (decide_eq_true z)
  refine ⟨_, rfl, q _ _ (.inr ⟨line, rfl, by omega, ?_⟩) kp4⟩
  rw [← hline, split3]
  refine badT_part (fun z hz => ?_) (A3 (by omega)).no
  obtain ⟨y, hy, rfl⟩ := List.mem_map.mp hz
  exact pok_l (gp.ok y (List.mem_of_mem_take hy))
theorem set_self {α : Type} {l : List α} {n : Nat} {x : α} (h : l[n]? = some x) : l.set n x = l := by
  refine List.ext_getElem? fun i => ?_
  by_cases e : i = n
  · subst e
    rw [List.getElem?_set_self (List.getElem?_eq_some_iff.mp h).1, h]
  · rw [List.getElem?_set_ne (Ne.symm e)]
def P2 {α : Type} (l : List α) (n m : Nat) (a b : α) : List α := (l.set n a).set m b
theorem p2_a {α : Type} {l : List α} {n m : Nat} {a b : α} (h : n ≠ m) (a' : α) : (P2 l n m a b).set n a' = P2 l n m a' b := by
  unfold P2
  rw [List.set_comm _ _ (Ne.symm h), List.set_set]
theorem p2_b {α : Type} {l : List α} {n m : Nat} {a b : α} (b' : α) : (P2 l n m a b).set m b' = P2 l n m a b' := by unfold P2; rw [List.set_set]
theorem p2_n {α : Type} {l : List α} {n m : Nat} {a b : α} (h : n ≠ m) (hn : n < l.length) : (P2 l n m a b)[n]? = some a := by
  unfold P2
  rw [List.getElem?_set_ne (Ne.symm h), List.getElem?_set_self hn]
theorem p2_m {α : Type} {l : List α} {n m : Nat} {a b : α} (hm : m < l.length) : (P2 l n m a b)[m]? = some b := by
  unfold P2
  rw [List.getElem?_set_self (by rw [List.length_set]; exact hm)]
theorem p2_o {α : Type} {l : List α} {n m i : Nat} {a b : α} (h1 : i ≠ n) (h2 : i ≠ m) : (P2 l n m a b)[i]? = l[i]? := by
  unfold P2
  rw [List.getElem?_set_ne (Ne.symm h2), List.getElem?_set_ne (Ne.symm h1)]
theorem p2_len {α : Type} {l : List α} {n m : Nat} {a b : α} : (P2 l n m a b).length = l.length := by unfold P2; rw [List.length_set, List.length_set]
theorem p2_map {α β : Type} (f : α → β) {l : List α} {n m : Nat} {a b : α} : (P2 l n m a b).map f = P2 (l.map f) n m (f a) (f b) := by unfold P2; rw [List.map_set, List.map_set]
theorem p2_self {α : Type} {l : List α} {n m : Nat} {a b : α} (ha : l[n]? = some a) (hb : l[m]? = some b) : P2 l n m a b = l := by unfold P2; rw [set_self ha, set_self hb]
theorem p2_mem {α : Type} {l : List α} {n m : Nat} {a b x : α} (h : x ∈ P2 l n m a b) : x = a ∨ x = b ∨ x ∈ l := by
  unfold P2 at h
  rcases List.mem_or_eq_of_mem_set h with h | h
  · rcases List.mem_or_eq_of_mem_set h with h | h
    · exact .inr (.inr h)
    · exact .inl h
  · exact .inr (.inl h)
theorem row_good {ns : List Str} {p : PTy} (h : p.2.1 = 0 ∨ p.2.1 = 1) (r0 : 0 ≤ p.2.2.1) (r1 : p.2.2.1 ≤ 40) (ne : p.2.2.2 ≠ []) (inn : ∀ x ∈ p.2.2.2, x ∈ ns) : RowGood ns.length (rowOf ns p) := by
  refine ⟨h, ⟨r0, r1⟩, fun e => ne (List.map_eq_nil_iff.mp e), fun x hx => ?_⟩
  obtain ⟨y, hy, rfl⟩ := List.mem_map.mp hx
  have := List.idxOf_lt_length_iff.mpr (inn y hy)
  exact ⟨by omega, by omega⟩
theorem nms_len (ps : List PTy) : (nmsOf ps).length = ps.length := List.length_map _
theorem rows_len (ps : List PTy) : (rowsOf ps).length = ps.length := List.length_map _
theorem bad_at {ps : List PTy} {i : Nat} {p : PTy} {x : Str} (hl : ps.length ≤ 160) (hi : ps[i]? = some p) (hb : RowBad (nmsOf ps).length (rowOf (nmsOf ps) p) x) (hg : ∀ (j : Nat) p', j < i → ps[j]? = some p' → RowGood (nmsOf ps).length (rowOf (nmsOf ps) p')) : GBad (rowsOf ps) x := by
  rw [nms_len] at hb hg
  refine .inr (.inl ⟨by rw [rows_len]; exact hl, i, rowOf (nmsOf ps) p, by unfold rowsOf; rw [List.getElem?_map, hi]; rfl, by rw [rows_len]; exact hb, fun j r' hj hr' => ?_⟩)
  unfold rowsOf at hr'
  rw [List.getElem?_map] at hr'
  cases e : ps[j]? with
  | none => rw [e] at hr'; cases hr'
  | some p' =>
    rw [e] at hr'
    injection hr' with hr'
    rw [← hr', rows_len]
    exact hg j p' hj e
def PDue (ps : List PTy) (x : Str) : Prop := (x = "NoName" ∧ (¬ (nmsOf ps).Nodup ∨ ∃ p ∈ ps, ∃ y ∈ p.2.2.2, y ∉ nmsOf ps)) ∨ ((nmsOf ps).Nodup ∧ (∀ p ∈ ps, ∀ y ∈ p.2.2.2, y ∈ nmsOf ps) ∧ GBad (rowsOf ps) x)
theorem itp_pop (a : Str) (h r : Int) {ws : List Str} (hw : ws ≠ []) : ((itP (a, h, r, ws)).map V.str).dropLast = (itP (a, h, r, ws.dropLast)).map V.str := by
  obtain ⟨zs, z, rfl⟩ : ∃ zs z, ws = zs ++ [z] := ⟨ws.dropLast, ws.getLast hw, (List.dropLast_concat_getLast hw).symm⟩
  rw [List.dropLast_concat]
  have : (itP (a, h, r, zs ++ [z])).map V.str = (itP (a, h, r, zs)).map V.str ++ [V.str z] := by
    show _ :: _ :: _ :: (zs ++ [z]).map V.str = _
    rw [List.map_append]; rfl
  rw [this, List.dropLast_concat]
theorem itp_len (p : PTy) : ((itP p).map V.str).length = 3 + p.2.2.2.length := by unfold itP; simp only [List.length_map, List.length_cons]; omega
theorem log_9 {z : Int} (h0 : 0 ≤ z) (h1 : z < 1000000000) : z.natAbs.log2 < 1920 := by
  by_cases e : z.natAbs = 0
  · rw [e]; decide
  · exact Nat.lt_trans ((Nat.log2_lt e).mpr (Nat.lt_of_lt_of_le (show z.natAbs < 1000000000 by omega) (by decide : 1000000000 ≤ 2 ^ 30))) (by decide)
structure Sp2 (kind : Int) (ps : List PTy) (rA rB : PTy) (nm : Str) (rk : Int) (ws wb : List Str) : Prop where
  n1 : kind = 7 ∨ kind = 11 → nm = rB.1
  n2 : ¬ (kind = 7 ∨ kind = 11) → nm = rA.1
  w1 : kind = 8 ∨ kind = 12 → ∃ f ms, ws = f :: ms ∧ isName f = true ∧ f ∉ nmsOf ps ∧ ms.length ≤ 1 ∧ ∀ x ∈ ms, x ∈ rA.2.2.2
  w2 : kind = 13 → ws = []
  w3 : ¬ (kind = 8 ∨ kind = 12 ∨ kind = 13) → ws = rA.2.2.2
  k1 : kind = 9 ∨ kind = 11 ∨ kind = 13 ∨ kind = 14 → 41 ≤ rk ∧ rk < 1000000000
  k2 : ¬ (kind = 9 ∨ kind = 11 ∨ kind = 13 ∨ kind = 14) → rk = rA.2.2.1
  b1 : kind = 10 ∨ kind = 12 ∨ kind = 14 → wb = []
  b2 : ¬ (kind = 10 ∨ kind = 12 ∨ kind = 14) → wb = rB.2.2.2
theorem sp2_ok {kind : Int} {ps : List PTy} {rA rB : PTy} {nm : Str} {rk : Int} {ws wb : List Str} {n m : Nat} (gp : GP ps) (hA : ps[n]? = some rA) (hB : ps[m]? = some rB) (z : Sp2 kind ps rA rB nm rk ws wb) :
    ∀ p ∈ P2 ps n m (nm, rA.2.1, rk, ws) (rB.1, rB.2.1, rB.2.2.1, wb), POk p := by
  have oA := gp.ok rA (List.mem_of_getElem? hA)
  have oB := gp.ok rB (List.mem_of_getElem? hB)
  intro p hp
  rcases p2_mem hp with rfl | rfl | hp
  · refine ⟨?_, oA.h, ?_, ?_, ?_, ?_⟩
    · by_cases k : kind = 7 ∨ kind = 11
      · show isName nm = true; rw [z.n1 k]; exact oB.nm
      · show isName nm = true; rw [z.n2 k]; exact oA.nm
    · by_cases k : kind = 9 ∨ kind = 11 ∨ kind = 13 ∨ kind = 14
      · have := z.k1 k; show 0 ≤ rk; omega
      · show 0 ≤ rk; rw [z.k2 k]; exact oA.r0
    · by_cases k : kind = 9 ∨ kind = 11 ∨ kind = 13 ∨ kind = 14
      · have := z.k1 k; show rk < _; omega
      · show rk < _; rw [z.k2 k]; exact oA.r1
    · show ∀ x ∈ ws, _
      by_cases k : kind = 8 ∨ kind = 12
      · obtain ⟨f, ms, e, h1, _, _, h2⟩ := z.w1 k
        intro x hx
        rw [e] at hx
        rcases List.mem_cons.mp hx with rfl | hx
        · exact h1
        · exact oA.ws x (h2 x hx)
      · by_cases k2 : kind = 13
        · rw [z.w2 k2]; intro x hx; cases hx
        · rw [z.w3 (by omega)]; exact oA.ws
    · show ws.length ≤ 2
      by_cases k : kind = 8 ∨ kind = 12
      · obtain ⟨f, ms, e, _, _, h1, _⟩ := z.w1 k
        rw [e, List.length_cons]; omega
      · by_cases k2 : kind = 13
        · rw [z.w2 k2]; exact Nat.zero_le _
        · rw [z.w3 (by omega)]; exact oA.l
  · refine ⟨oB.nm, oB.h, oB.r0, oB.r1, ?_, ?_⟩
    · show ∀ x ∈ wb, _
      by_cases k : kind = 10 ∨ kind = 12 ∨ kind = 14
      · rw [z.b1 k]; intro x hx; cases hx
      · rw [z.b2 k]; exact oB.ws
    · show wb.length ≤ 2
      by_cases k : kind = 10 ∨ kind = 12 ∨ kind = 14
      · rw [z.b1 k]; exact Nat.zero_le _
      · rw [z.b2 k]; exact oB.l
  · exact gp.ok p hp
theorem sp2_due {kind : Int} {ps : List PTy} {rA rB : PTy} {nm : Str} {rk : Int} {ws wb : List Str} {n m : Nat} {x : Str} (gp : GP ps) (h6 : ps.length ≤ 6) (nm_ne : n ≠ m) (hA : ps[n]? = some rA) (hB : ps[m]? = some rB) (z : Sp2 kind ps rA rB nm rk ws wb) (k0 : 7 ≤ kind) (k1 : kind < 15)
    (hx : (x = "NoName" ∧ (kind = 7 ∨ kind = 8 ∨ kind = 11 ∨ kind = 12)) ∨ (x = "NoWay" ∧ (kind = 10 ∨ (kind = 14 ∧ m < n))) ∨ (x = "NoRank" ∧ (kind = 9 ∨ kind = 13 ∨ (kind = 14 ∧ ¬ m < n)))) : PDue (P2 ps n m (nm, rA.2.1, rk, ws) (rB.1, rB.2.1, rB.2.2.1, wb)) x := by
  have nl := (List.getElem?_eq_some_iff.mp hA).1
  have ml := (List.getElem?_eq_some_iff.mp hB).1
  have mA := List.mem_of_getElem? hA
  have mB := List.mem_of_getElem? hB
  have hnA : (nmsOf ps)[n]? = some rA.1 := by unfold nmsOf; rw [List.getElem?_map, hA]; rfl
  have hnB : (nmsOf ps)[m]? = some rB.1 := by unfold nmsOf; rw [List.getElem?_map, hB]; rfl
  have names : nmsOf (P2 ps n m (nm, rA.2.1, rk, ws) (rB.1, rB.2.1, rB.2.2.1, wb)) = P2 (nmsOf ps) n m nm rB.1 := p2_map _
  have same : nm = rA.1 → nmsOf (P2 ps n m (nm, rA.2.1, rk, ws) (rB.1, rB.2.1, rB.2.2.1, wb)) = nmsOf ps := fun e => by rw [names, e]; exact p2_self hnA hnB
  have pa : (nm, rA.2.1, rk, ws) ∈ P2 ps n m (nm, rA.2.1, rk, ws) (rB.1, rB.2.1, rB.2.2.1, wb) := List.mem_of_getElem? (p2_n nm_ne nl)
  by_cases k7 : kind = 7 ∨ kind = 11
  · rcases hx with ⟨rfl, _⟩ | ⟨_, h⟩ | ⟨_, h⟩
    · refine .inl ⟨rfl, .inl fun nd => nm_ne ?_⟩
      rw [names, z.n1 k7] at nd
      exact (List.getElem?_inj (by rw [p2_len, nms_len]; exact nl) nd).mp ((p2_n nm_ne (by rw [nms_len]; exact nl)).trans (p2_m (by rw [nms_len]; exact ml)).symm)
    · omega
    · omega
  have en := same (z.n2 k7)
  by_cases k8 : kind = 8 ∨ kind = 12
  · rcases hx with ⟨rfl, _⟩ | ⟨_, h⟩ | ⟨_, h⟩
    · obtain ⟨f, ms, e, _, hf, _⟩ := z.w1 k8
      exact .inl ⟨rfl, .inr ⟨_, pa, f, by show f ∈ ws; rw [e]; exact List.mem_cons_self, by rw [en]; exact hf⟩⟩
    · omega
    · omega
  have sub : ∀ y ∈ ws, y ∈ rA.2.2.2 := fun y hy => by
    by_cases k : kind = 13
    · rw [z.w2 k] at hy; cases hy
    · rw [z.w3 (by omega)] at hy; exact hy
  have subb : ∀ y ∈ wb, y ∈ rB.2.2.2 := fun y hy => by
    by_cases k : kind = 10 ∨ kind = 12 ∨ kind = 14
    · rw [z.b1 k] at hy; cases hy
    · rw [z.b2 k] at hy; exact hy
  have oA := gp.ok rA mA
  have oB := gp.ok rB mB
  have goodO : ∀ (j : Nat) p', j ≠ n → j ≠ m → (P2 ps n m (nm, rA.2.1, rk, ws) (rB.1, rB.2.1, rB.2.2.1, wb))[j]? = some p' → RowGood (nmsOf ps).length (rowOf (nmsOf ps) p') := fun j p' h1 h2 hp => by
    rw [p2_o h1 h2] at hp
    have hm := List.mem_of_getElem? hp
    exact row_good (gp.ok p' hm).h (gp.ok p' hm).r0 (gp.rk p' hm) (gp.ne p' hm) (gp.inn p' hm)
  have goodB : ¬ (kind = 10 ∨ kind = 12 ∨ kind = 14) → RowGood (nmsOf ps).length (rowOf (nmsOf ps) (rB.1, rB.2.1, rB.2.2.1, wb)) := fun k => by
    rw [z.b2 k]; exact row_good (p := rB) oB.h oB.r0 (gp.rk rB mB) (gp.ne rB mB) (gp.inn rB mB)
  have goodA : ¬ (kind = 9 ∨ kind = 11 ∨ kind = 13 ∨ kind = 14) → RowGood (nmsOf ps).length (rowOf (nmsOf ps) (nm, rA.2.1, rk, ws)) := fun k => by
    rw [z.k2 k, z.w3 (by omega)]; exact row_good (p := (nm, rA.2)) oA.h oA.r0 (gp.rk rA mA) (gp.ne rA mA) (gp.inn rA mA)
  have badA : (kind = 9 ∨ kind = 11 ∨ kind = 13 ∨ kind = 14) → RowBad (nmsOf ps).length (rowOf (nmsOf ps) (nm, rA.2.1, rk, ws)) "NoRank" := fun k => .inr (.inl ⟨rfl, oA.h, fun h => by
    have := z.k1 k
    have h2 : rk ≤ 40 := h.2
    omega⟩)
  have badB : (kind = 10 ∨ kind = 12 ∨ kind = 14) → RowBad (nmsOf ps).length (rowOf (nmsOf ps) (rB.1, rB.2.1, rB.2.2.1, wb)) "NoWay" := fun k => .inr (.inr ⟨rfl, oB.h, ⟨oB.r0, gp.rk rB mB⟩, fun h => by
    rw [z.b1 k] at h
    exact h.1 rfl⟩)
  refine .inr ⟨by rw [en]; exact gp.nd, fun p hp y hy => ?_, ?_⟩
  · rw [en]
    rcases p2_mem hp with rfl | rfl | hp
    · exact gp.inn rA mA y (sub y hy)
    · exact gp.inn rB mB y (subb y hy)
    · exact gp.inn p hp y hy
  have atA : ∀ x, RowBad (nmsOf ps).length (rowOf (nmsOf ps) (nm, rA.2.1, rk, ws)) x → (m < n → ¬ (kind = 10 ∨ kind = 12 ∨ kind = 14)) → GBad (rowsOf (P2 ps n m (nm, rA.2.1, rk, ws) (rB.1, rB.2.1, rB.2.2.1, wb))) x := fun x hb hk =>
    bad_at (i := n) (by rw [p2_len]; omega) (p2_n nm_ne nl) (by rw [en]; exact hb) fun j p' hj hp => by
      rw [en]
      by_cases e : j = m
      · subst e
        rw [p2_m ml] at hp
        injection hp with hp
        subst hp
        exact goodB (hk hj)
      · exact goodO j p' (by omega) e hp
  have atB : ∀ x, RowBad (nmsOf ps).length (rowOf (nmsOf ps) (rB.1, rB.2.1, rB.2.2.1, wb)) x → (n < m → ¬ (kind = 9 ∨ kind = 11 ∨ kind = 13 ∨ kind = 14)) → GBad (rowsOf (P2 ps n m (nm, rA.2.1, rk, ws) (rB.1, rB.2.1, rB.2.2.1, wb))) x := fun x hb hk =>
    bad_at (i := m) (by rw [p2_len]; omega) (p2_m ml) (by rw [en]; exact hb) fun j p' hj hp => by
      rw [en]
      by_cases e : j = n
      · subst e
        rw [p2_n nm_ne nl] at hp
        injection hp with hp
        subst hp
        exact goodA (hk hj)
      · exact goodO j p' e (by omega) hp
  rcases hx with ⟨_, h⟩ | ⟨rfl, h⟩ | ⟨rfl, h⟩
  · omega
  · exact atB _ (badB (by omega)) (by omega)
  · exact atA _ (badA (by omega)) (by omega)
abbrev x5 : List Str := ["NoText", "NoName", "NoRank", "NoWay", "TooMany"]
theorem x5_in {x : Str} (h : x ∈ x5) : x ∈ xRs ∧ x ≠ "NoHand" := by
  simp only [List.mem_cons, List.not_mem_nil, or_false] at h
  rcases h with rfl | rfl | rfl | rfl | rfl <;> exact ⟨by decide, by decide⟩
def SrP (g : Addr) (as : List Addr) (ps : List PTy) (H : Hp) (n m : Nat) (kind cell : Int) (rA rB : PTy) (A : Str → Int → List Str → List Str → Prop) : St → Hp → Prop := fun σ' H1 => ∃ (nm : Str) (rk : Int) (ws wb : List Str), σ' = [some (.ref g), some (.int kind), some (.int cell), some (.int (n : Nat)), some (.int (m : Nat))] ∧ HW H1 g as ((P2 ps n m (nm, rA.2.1, rk, ws) (rB.1, rB.2.1, rB.2.2.1, wb)).map itP) ∧ Keep as g H H1 ∧ A nm rk ws wb
def spSpR (K : PySem.W.Frag) : Sp := fun vs H Q _ => ∃ (g : Addr) (as : List Addr) (kind cell : Int) (ps : List PTy), vs = [.ref g, .int kind, .int cell] ∧ HW H g as (ps.map itP) ∧ GP ps ∧ 2 ≤ ps.length ∧ ps.length ≤ 6 ∧ 7 ≤ kind ∧ kind < 15 ∧ 0 ≤ cell ∧ cell < 65521 ∧ ∀ (ps' : List PTy) (x : Str) H', HW H' g as (ps'.map itP) → ps'.length = ps.length → (∀ p ∈ ps', POk p) → PDue ps' x → x ∈ x5 → Keep as g H H' → Q (.str x) H'
theorem ok_spR (F : DefAt K mg "_law_spoiled_rows" s_law_spoiled_rows ["_law_parts_here", "_law_kind", "_law_cell"]) (T : Txt mg) (D_law_fresh : Dn P w K mg base "_law_fresh" 1 ["_law_parts_here"] (spFresh K)) : Dn P w K mg base "_law_spoiled_rows" 2 ["_law_parts_here", "_law_kind", "_law_cell"] (spSpR K) := by
  have sc := sc_law_spoiled_rows
  refine F.ok sc (fun vs H Q E h => ?_) (fun f cdv A outer s H vs Q E hr h => ?_)
  · obtain ⟨_, _, _, _, _, rfl, _⟩ := h; rfl
  obtain ⟨g, as, kind, cell, ps, rfl, hW, gp, p2, p6, k0, k1, c0, c6, q⟩ := h
  have al : as.length = ps.length := by rw [hW.len, List.length_map]
  refine ⟨_, (pss_cons (ps_set (i := 3) sc.nd rfl (Or.inl rfl) (pe_op op_mod (pv 2) (pe_callB (clLen (K := K) rfl) rfl T.b_len PySem.boot_len (pa_cons (pv 0) pa_nil))))
      (pss_cons (ps_set (i := 4) sc.nd rfl (Or.inl rfl) (pe_op op_mod (pe_op op_add (pe_op op_add (pv 3) pe_int) (pe_op op_mod (pe_op op_fdiv (pv 2) pe_int) (pe_op op_sub (pe_callB (clLen (K := K) rfl) rfl T.b_len PySem.boot_len (pa_cons (pv 0) pa_nil)) pe_int))) (pe_callB (clLen (K := K) rfl) rfl T.b_len PySem.boot_len (pa_cons (pv 0) pa_nil))))
      (pss_cut (ps_if (PW.pt (pw_or (pt_cmpR op_eq (pv 1) pe_int (nomark _)) (pw_or1 (pt_cmpR op_eq (pv 1) pe_int (nomark _)))))
      (pss_one (ps_asg (pe_ix (ixL (K := K) rfl) (pe_ix (ixL (K := K) rfl) (pv 0) (pv 4) (fun _ _ => rfl)) pe_int (fun _ _ => rfl)) (pg_sub (pe_ix (ixL (K := K) rfl) (pv 0) (pv 3) (fun _ _ => rfl)) pe_int set_list)))
      pss_nil)
      (pss_cut (ps_if (PW.pt (pw_or (pt_cmpR op_eq (pv 1) pe_int (nomark _)) (pw_or1 (pt_cmpR op_eq (pv 1) pe_int (nomark _)))))
      (pss_one (ps_asg (pe_dn D_law_fresh hr (pa_cons (pv 0) pa_nil)) (pg_sub (pe_ix (ixL (K := K) rfl) (pv 0) (pv 3) (fun _ _ => rfl)) pe_int set_list)))
      pss_nil)
      (pss_cut (ps_if (PW.pt (pw_or (pt_cmpR op_eq (pv 1) pe_int (nomark _)) (pw_or (pt_cmpR op_eq (pv 1) pe_int (nomark _)) (pw_or (pt_cmpR op_eq (pv 1) pe_int (nomark _)) (pw_or1 (pt_cmpR op_eq (pv 1) pe_int (nomark _)))))))
      (pss_one (ps_asg (pe_callTy call_str_int rfl T.b_str PyProof.Rows.boot_str (pa_cons (pe_op op_add pe_int (pe_op op_mul (pe_op op_mul (pe_op op_mod (pe_op op_fdiv (pv 2) pe_int) pe_int) (pe_op op_fdiv (pv 2) pe_int)) (pe_ix (ixL (K := K) rfl) (pe_lst (pa_cons pe_int (pa_cons pe_int pa_nil))) (pe_op op_mod (pe_op op_fdiv (pv 2) pe_int) pe_int) (fun _ _ => rfl)))) pa_nil)) (pg_sub (pe_ix (ixL (K := K) rfl) (pv 0) (pv 3) (fun _ _ => rfl)) pe_int set_list)))
      pss_nil)
      (pss_cut (ps_if (PW.pt (pw_or (pt_cmpR op_eq (pv 1) pe_int (nomark _)) (pw_or (pt_cmpR op_eq (pv 1) pe_int (nomark _)) (pw_or1 (pt_cmpR op_eq (pv 1) pe_int (nomark _))))))
      (pss_one (ps_while PassesOwn.never (pt_cmpR op_gt (pe_callB (clLen (K := K) rfl) rfl T.b_len PySem.boot_len (pa_cons (pe_ix (ixL (K := K) rfl) (pv 0) (pv 4) (fun _ _ => rfl)) pa_nil)) pe_int (nomark _))
      (pss_one (ps_expr (pe_bm0 PySem.F.plainAttrs_list PySem.F.slot_list_pop PySem.F.type_list_pop mt_pop (pe_ix (ixL (K := K) rfl) (pv 0) (pv 4) (fun _ _ => rfl)))))))
      pss_nil)
      (pss_cut (ps_if (pt_cmpR op_eq (pv 1) pe_int (nomark _))
      (pss_one (ps_while PassesOwn.never (pt_cmpR op_gt (pe_callB (clLen (K := K) rfl) rfl T.b_len PySem.boot_len (pa_cons (pe_ix (ixL (K := K) rfl) (pv 0) (pv 3) (fun _ _ => rfl)) pa_nil)) pe_int (nomark _))
      (pss_one (ps_expr (pe_bm0 PySem.F.plainAttrs_list PySem.F.slot_list_pop PySem.F.type_list_pop mt_pop (pe_ix (ixL (K := K) rfl) (pv 0) (pv 3) (fun _ _ => rfl)))))))
      pss_nil)
      (pss_cons (ps_if (pt_cmpR (inS (K := K) rfl) (pv 1) (pe_tup (pa_cons pe_int (pa_cons pe_int (pa_cons pe_int (pa_cons pe_int pa_nil))))) rfl)
      (pss_one (ps_ret pe_str))
      pss_nil)
      (pss_cons (ps_if (PW.pt (pw_or (pt_cmpR op_eq (pv 1) pe_int (nomark _)) (pw_or1 (PW.pt (pw_and (pt_cmpR op_eq (pv 1) pe_int (nomark _)) (pw_and1 (pt_cmpR op_lt (pv 4) (pv 3) (nomark _))))))))
      (pss_one (ps_ret pe_str))
      pss_nil)
      (pss_one (ps_ret pe_str))))))))))), ?_⟩
  have m0 := Int.emod_nonneg cell (show ((as.map V.ref).length : Int) ≠ 0 by rw [List.length_map]; omega)
  have m1 := Int.emod_lt_of_pos cell (show (0 : Int) < ((as.map V.ref).length : Int) by rw [List.length_map]; omega)
  obtain ⟨n, hn⟩ := Int.eq_ofNat_of_zero_le m0
  rw [hn] at m1
  have o0 := Int.emod_nonneg (cell / 7) (show ((as.map V.ref).length : Int) - 1 ≠ 0 by rw [List.length_map]; omega)
  have o1 := Int.emod_lt_of_pos (cell / 7) (show (0 : Int) < ((as.map V.ref).length : Int) - 1 by rw [List.length_map]; omega)
  obtain ⟨d, hd⟩ := Int.eq_ofNat_of_zero_le o0
  rw [hd] at o1
  have q0 := Int.emod_nonneg ((n : Int) + 1 + d) (show ((as.map V.ref).length : Int) ≠ 0 by rw [List.length_map]; omega)
  have q1 := Int.emod_lt_of_pos ((n : Int) + 1 + d) (show (0 : Int) < ((as.map V.ref).length : Int) by rw [List.length_map]; omega)
  obtain ⟨m, hm⟩ := Int.eq_ofNat_of_zero_le q0
  rw [hm] at q1
  have nm_ne : n ≠ m := fun e => by
    subst e
    rw [List.length_map] at hm m1 o1
    by_cases h : (n : Int) + 1 + d < (as.length : Nat)
    · rw [Int.emod_eq_of_lt (by omega) h] at hm; omega
    · have : ((n : Int) + 1 + d) % (as.length : Nat) = (n : Int) + 1 + d - (as.length : Nat) := by
        rw [← Int.sub_emod_right, Int.emod_eq_of_lt (by omega) (by omega)]
      omega
  rw [List.length_map] at m1 q1
  have nl : n < ps.length := by omega
  have ml : m < ps.length := by omega
  obtain ⟨wa, hwa⟩ : ∃ wa, as[n]? = some wa := ⟨_, List.getElem?_eq_getElem (by omega)⟩
  obtain ⟨wb, hwb⟩ : ∃ wb, as[m]? = some wb := ⟨_, List.getElem?_eq_getElem (by omega)⟩
  obtain ⟨rA, hA⟩ : ∃ r, ps[n]? = some r := ⟨_, List.getElem?_eq_getElem nl⟩
  obtain ⟨rB, hB⟩ : ∃ r, ps[m]? = some r := ⟨_, List.getElem?_eq_getElem ml⟩
  have wam := List.mem_of_getElem? hwa
  have wbm := List.mem_of_getElem? hwb
  have hata : atI (as.map V.ref) ((n : Nat) : Int) = some (.ref wa) := atI_nat (j := n) (by rw [List.getElem?_map, hwa]; rfl)
  have hatb : atI (as.map V.ref) ((m : Nat) : Int) = some (.ref wb) := atI_nat (j := m) (by rw [List.getElem?_map, hwb]; rfl)
  have oA := gp.ok rA (List.mem_of_getElem? hA)
  have oB := gp.ok rB (List.mem_of_getElem? hB)
  obtain ⟨w0, ms, ews⟩ := List.exists_cons_of_ne_nil (gp.ne rA (List.mem_of_getElem? hA))
  have lA : ∀ {l : List (List Str)} {n m : Nat} {a b : List Str}, (P2 l n m a b).length = l.length := p2_len
  have hmap : ∀ (a b : PTy), (P2 ps n m a b).map itP = P2 (ps.map itP) n m (itP a) (itP b) := fun a b => p2_map itP
  have mlen : (ps.map itP).length = ps.length := List.length_map _
  have keyA : ∀ {H1 : Hp} {a b : PTy} (a' : PTy) (o : List V), HW H1 g as ((P2 ps n m a b).map itP) → o = (itP a').map V.str → HW (upd H1 wa (.lst o)) g as ((P2 ps n m a' b).map itP) := fun {H1 a b} a' o h e => by
    have := h.set (w := itP a') hwa (H' := upd H1 wa (.lst o)) (fun b o nb e => by rw [upd_ne nb]; exact e) (by rw [upd_same, e])
    rw [hmap, p2_a nm_ne, ← hmap] at this
    exact this
  have keyB : ∀ {H1 : Hp} {a b : PTy} (b' : PTy) (o : List V), HW H1 g as ((P2 ps n m a b).map itP) → o = (itP b').map V.str → HW (upd H1 wb (.lst o)) g as ((P2 ps n m a b').map itP) := fun {H1 a b} b' o h e => by
    have := h.set (w := itP b') hwb (H' := upd H1 wb (.lst o)) (fun b o nb e => by rw [upd_ne nb]; exact e) (by rw [upd_same, e])
    rw [hmap, p2_b, ← hmap] at this
    exact this
  have cellA : ∀ {H1 : Hp} {a b : PTy}, HW H1 g as ((P2 ps n m a b).map itP) → H1 wa = some (.lst ((itP a).map V.str)) := fun {H1 a b} h => h.cell n wa (itP a) hwa (by rw [hmap]; exact p2_n nm_ne (by omega))
  have cellB : ∀ {H1 : Hp} {a b : PTy}, HW H1 g as ((P2 ps n m a b).map itP) → H1 wb = some (.lst ((itP b).map V.str)) := fun {H1 a b} h => h.cell m wb (itP b) hwb (by rw [hmap]; exact p2_m (by omega))
  refine ⟨_, rfl, _, rfl, g, _, rfl, .inl (SqL.of hW.hg), _, _, rfl, rfl, (by rw [List.length_map]; omega), ?_⟩
  have hmod : (fun i j : Int => V.int (i % j)) cell ((as.map V.ref).length : Int) = V.int (n : Nat) := by show V.int (cell % _) = _; rw [hn]
  rw [hmod]
  clear hmod
  refine ⟨_, rfl, _, _, rfl, rfl, _, rfl, _, _, rfl, rfl, ⟨by decide, by decide⟩, _, rfl, g, _, rfl, .inl (SqL.of hW.hg), _, _, rfl, rfl, _, _, rfl, rfl, (by rw [List.length_map]; omega), _, _, rfl, rfl, _, rfl, g, _, rfl, .inl (SqL.of hW.hg), _, _, rfl, rfl, (by rw [List.length_map]; omega), ?_⟩
  have hmod : (fun i j : Int => V.int (i % j)) ((n : Nat) + 1 + cell / 7 % (((as.map V.ref).length : Int) - 1)) ((as.map V.ref).length : Int) = V.int (m : Nat) := by show V.int ((_ + 1 + _) % _) = _; rw [hd, hm]
  rw [hmod]
  clear hmod
  have hW0 : HW H g as ((P2 ps n m (rA.1, rA.2.1, rA.2.2.1, rA.2.2.2) (rB.1, rB.2.1, rB.2.2.1, rB.2.2.2)).map itP) := by rw [p2_self hA hB]; exact hW
  refine ⟨SrP g as ps H n m kind cell rA rB fun nm rk ws wb => (kind = 7 ∨ kind = 11 → nm = rB.1) ∧ (¬ (kind = 7 ∨ kind = 11) → nm = rA.1) ∧ rk = rA.2.2.1 ∧ ws = rA.2.2.2 ∧ wb = rB.2.2.2, ?_, ?_⟩
  · by_cases kk : kind = 7 ∨ kind = 11
    rotate_left
    · refine ⟨_, rfl, rfl, _, rfl, ?_⟩
      rw [de, decide_eq_false (fun z => kk (.inl z))]
      refine iteF ?_
      refine ⟨_, rfl, rfl, _, rfl, ?_⟩
      rw [de, decide_eq_false (fun z => kk (.inr z))]
      refine iteF ?_
      exact ⟨_, _, _, _, rfl, hW0, Keep.refl, fun z => absurd z kk, fun _ => rfl, rfl, rfl, rfl⟩
    have fin := keyA (rB.1, rA.2.1, rA.2.2.1, rA.2.2.2) (((itP rA).map V.str).set 0 (.str rB.1)) hW0 rfl
    have kf := (Keep.refl (as := as) (g := g) (H := H)).put wam (.lst (((itP rA).map V.str).set 0 (.str rB.1)))
    have il := itp_len rA
    rcases kk with kk | kk
    · refine ⟨_, rfl, rfl, _, rfl, ?_⟩
      rw [de, decide_eq_true kk]
      refine iteT ?_
      refine ⟨_, rfl, _, rfl, g, _, _, .ref wb, rfl, rfl, SqL.of hW.hg, hatb, wb, _, _, .str rB.1, rfl, rfl, SqL.of (cellB hW0), atI_nat (j := 0) rfl, _, rfl, _, rfl, g, _, _, .ref wa, rfl, rfl, SqL.of hW.hg, hata, wa, _, 0, 0, rfl, rfl, cellA hW0, (by unfold ixN; rw [if_pos (by decide), if_pos (by rw [itp_len]; omega)]; rfl), ?_⟩
      exact ⟨_, _, _, _, rfl, fin, kf, fun _ => rfl, fun z => absurd (.inl kk) z, rfl, rfl, rfl⟩
    · refine ⟨_, rfl, rfl, _, rfl, ?_⟩
      rw [de, decide_eq_false (by omega)]
      refine iteF ?_
      refine ⟨_, rfl, rfl, _, rfl, ?_⟩
      rw [de, decide_eq_true kk]
      refine iteT ?_
      refine ⟨_, rfl, _, rfl, g, _, _, .ref wb, rfl, rfl, SqL.of hW.hg, hatb, wb, _, _, .str rB.1, rfl, rfl, SqL.of (cellB hW0), atI_nat (j := 0) rfl, _, rfl, _, rfl, g, _, _, .ref wa, rfl, rfl, SqL.of hW.hg, hata, wa, _, 0, 0, rfl, rfl, cellA hW0, (by unfold ixN; rw [if_pos (by decide), if_pos (by rw [itp_len]; omega)]; rfl), ?_⟩
      exact ⟨_, _, _, _, rfl, fin, kf, fun _ => rfl, fun z => absurd (.inr kk) z, rfl, rfl, rfl⟩
  rintro σ' H1 ⟨nm, rk, ws, wbs, rfl, hW1, kp1, n1, n2, rfl, rfl, rfl⟩
  refine ⟨SrP g as ps H n m kind cell rA rB fun nm rk ws wb => (kind = 7 ∨ kind = 11 → nm = rB.1) ∧ (¬ (kind = 7 ∨ kind = 11) → nm = rA.1) ∧ rk = rA.2.2.1 ∧ (kind = 8 ∨ kind = 12 → ∃ f ms, ws = f :: ms ∧ isName f = true ∧ f ∉ nmsOf ps ∧ ms.length ≤ 1 ∧ ∀ x ∈ ms, x ∈ rA.2.2.2) ∧ (¬ (kind = 8 ∨ kind = 12) → ws = rA.2.2.2) ∧ wb = rB.2.2.2, ?_, ?_⟩
  · by_cases kk : kind = 8 ∨ kind = 12
    rotate_left
    · refine ⟨_, rfl, rfl, _, rfl, ?_⟩
      rw [de, decide_eq_false (fun z => kk (.inl z))]
      refine iteF ?_
      refine ⟨_, rfl, rfl, _, rfl, ?_⟩
      rw [de, decide_eq_false (fun z => kk (.inr z))]
      refine iteF ?_
      exact ⟨_, _, _, _, rfl, hW1, kp1, n1, n2, rfl, fun z => absurd z kk, fun _ => rfl, rfl⟩
    have e := n2 (by omega)
    subst e
    have same : nmsOf (P2 ps n m (rA.1, rA.2.1, rA.2.2.1, rA.2.2.2) (rB.1, rB.2.1, rB.2.2.1, rB.2.2.2)) = nmsOf ps := by rw [p2_self hA hB]
    have fin : ∀ (x : Str) (H2 : Hp), Same H1 H2 → isName x = true → x ∉ nmsOf (P2 ps n m (rA.1, rA.2.1, rA.2.2.1, rA.2.2.2) (rB.1, rB.2.1, rB.2.2.1, rB.2.2.2)) → SrP g as ps H n m kind cell rA rB (fun nm rk ws wb => (kind = 7 ∨ kind = 11 → nm = rB.1) ∧ (¬ (kind = 7 ∨ kind = 11) → nm = rA.1) ∧ rk = rA.2.2.1 ∧ (kind = 8 ∨ kind = 12 → ∃ f ms, ws = f :: ms ∧ isName f = true ∧ f ∉ nmsOf ps ∧ ms.length ≤ 1 ∧ ∀ x ∈ ms, x ∈ rA.2.2.2) ∧ (¬ (kind = 8 ∨ kind = 12) → ws = rA.2.2.2) ∧ wb = rB.2.2.2)
        [some (.ref g), some (.int kind), some (.int cell), some (.int (n : Nat)), some (.int (m : Nat))] (upd H2 wa (.lst (((itP (rA.1, rA.2.1, rA.2.2.1, rA.2.2.2)).map V.str).set 3 (.str x)))) := fun x H2 s2 hx1 hx2 => by
      rw [same] at hx2
      refine ⟨rA.1, rA.2.2.1, x :: ms, rB.2.2.2, rfl, keyA (rA.1, rA.2.1, rA.2.2.1, x :: ms) _ (hW1.up s2) (by unfold itP; rw [ews]; rfl), (kp1.same s2).put wam _, n1, fun _ => rfl, rfl, fun _ => ⟨x, ms, rfl, hx1, hx2, ?_, fun y hy => by rw [ews]; exact List.mem_cons_of_mem _ hy⟩, fun z => absurd kk z, rfl⟩
      have := oA.l
      rw [ews, List.length_cons] at this
      omega
    have ix3 : ∀ {x : List V}, x.length = 3 + rA.2.2.2.length → ixN x.length 3 = some 3 := fun {x} e => by
      have : 1 ≤ rA.2.2.2.length := by rw [ews, List.length_cons]; omega
      unfold ixN; rw [if_pos (by decide), if_pos (by omega)]; rfl
    rcases kk with kk | kk
    · refine ⟨_, rfl, rfl, _, rfl, ?_⟩
      rw [de, decide_eq_true kk]
      refine iteT ?_
      refine ⟨_, rfl, g, as, _, rfl, hW1, by rw [p2_len]; omega, fun x H2 s2 hx1 hx2 => ?_⟩
      exact ⟨_, rfl, _, rfl, g, _, _, .ref wa, rfl, rfl, SqL.of (s2 _ _ hW1.hg), hata, wa, _, 3, 3, rfl, rfl, s2 _ _ (cellA hW1), ix3 (itp_len _), fin x H2 s2 hx1 hx2⟩
    · refine ⟨_, rfl, rfl, _, rfl, ?_⟩
      rw [de, decide_eq_false (by omega)]
      refine iteF ?_
      refine ⟨_, rfl, rfl, _, rfl, ?_⟩
      rw [de, decide_eq_true kk]
      refine iteT ?_
      refine ⟨_, rfl, g, as, _, rfl, hW1, by rw [p2_len]; omega, fun x H2 s2 hx1 hx2 => ?_⟩
      exact ⟨_, rfl, _, rfl, g, _, _, .ref wa, rfl, rfl, SqL.of (s2 _ _ hW1.hg), hata, wa, _, 3, 3, rfl, rfl, s2 _ _ (cellA hW1), ix3 (itp_len _), fin x H2 s2 hx1 hx2⟩
  clear hW1 kp1 n1 n2
  rintro σ' H1 ⟨nm, rk, ws, wbs, rfl, hW1, kp1, n1, n2, rfl, w1, w2, rfl⟩
  refine ⟨SrP g as ps H n m kind cell rA rB fun nm rk ws wb => (kind = 7 ∨ kind = 11 → nm = rB.1) ∧ (¬ (kind = 7 ∨ kind = 11) → nm = rA.1) ∧ (kind = 9 ∨ kind = 11 ∨ kind = 13 ∨ kind = 14 → 41 ≤ rk ∧ rk < 1000000000) ∧ (¬ (kind = 9 ∨ kind = 11 ∨ kind = 13 ∨ kind = 14) → rk = rA.2.2.1) ∧ (kind = 8 ∨ kind = 12 → ∃ f ms, ws = f :: ms ∧ isName f = true ∧ f ∉ nmsOf ps ∧ ms.length ≤ 1 ∧ ∀ x ∈ ms, x ∈ rA.2.2.2) ∧ (¬ (kind = 8 ∨ kind = 12) → ws = rA.2.2.2) ∧ wb = rB.2.2.2, ?_, ?_⟩
  · by_cases kk : kind = 9 ∨ kind = 11 ∨ kind = 13 ∨ kind = 14
    rotate_left
    · refine ⟨_, rfl, rfl, _, rfl, ?_⟩
      rw [de, decide_eq_false (by omega)]
      refine iteF ?_
      refine ⟨_, rfl, rfl, _, rfl, ?_⟩
      rw [de, decide_eq_false (by omega)]
      refine iteF ?_
      refine ⟨_, rfl, rfl, _, rfl, ?_⟩
      rw [de, decide_eq_false (by omega)]
      refine iteF ?_
      refine ⟨_, rfl, rfl, _, rfl, ?_⟩
      rw [de, decide_eq_false (by omega)]
      refine iteF ?_
      exact ⟨_, _, _, _, rfl, hW1, kp1, n1, n2, fun z => absurd z kk, fun _ => rfl, w1, w2, rfl⟩
    have u3 : 0 ≤ cell / 7 % 3 ∧ cell / 7 % 3 < 3 := ⟨Int.emod_nonneg _ (by decide), Int.emod_lt_of_pos _ (by decide)⟩
    have u2 : 0 ≤ cell / 2 % 2 ∧ cell / 2 % 2 < 2 := ⟨Int.emod_nonneg _ (by decide), Int.emod_lt_of_pos _ (by decide)⟩
    have y0 : 0 ≤ cell / 21 ∧ cell / 21 ≤ 3120 := by omega
    obtain ⟨fv, hfv, fv2⟩ : ∃ fv : Int, atI [V.int 1, V.int 40000] (cell / 2 % 2) = some (.int fv) ∧ (fv = 1 ∨ fv = 40000) := by
      rcases (show cell / 2 % 2 = 0 ∨ cell / 2 % 2 = 1 by omega) with e | e <;> rw [e]
      · exact ⟨1, rfl, .inl rfl⟩
      · exact ⟨40000, rfl, .inr rfl⟩
    have rb : 41 ≤ 41 + cell / 7 % 3 * (cell / 21) * fv ∧ 41 + cell / 7 % 3 * (cell / 21) * fv < 1000000000 := by
      rcases (show cell / 7 % 3 = 0 ∨ cell / 7 % 3 = 1 ∨ cell / 7 % 3 = 2 by omega) with e | e | e <;> rcases fv2 with e2 | e2 <;> rw [e, e2] <;> omega
    have bb : -1000000 ≤ fv ∧ fv ≤ 1000000 := by omega
    have fin : ∀ (H2 : Hp), Same H1 H2 → SrP g as ps H n m kind cell rA rB (fun nm rk ws wb => (kind = 7 ∨ kind = 11 → nm = rB.1) ∧ (¬ (kind = 7 ∨ kind = 11) → nm = rA.1) ∧ (kind = 9 ∨ kind = 11 ∨ kind = 13 ∨ kind = 14 → 41 ≤ rk ∧ rk < 1000000000) ∧ (¬ (kind = 9 ∨ kind = 11 ∨ kind = 13 ∨ kind = 14) → rk = rA.2.2.1) ∧ (kind = 8 ∨ kind = 12 → ∃ f ms, ws = f :: ms ∧ isName f = true ∧ f ∉ nmsOf ps ∧ ms.length ≤ 1 ∧ ∀ x ∈ ms, x ∈ rA.2.2.2) ∧ (¬ (kind = 8 ∨ kind = 12) → ws = rA.2.2.2) ∧ wb = rB.2.2.2)
        [some (.ref g), some (.int kind), some (.int cell), some (.int (n : Nat)), some (.int (m : Nat))] (upd H2 wa (.lst (((itP (nm, rA.2.1, rA.2.2.1, ws)).map V.str).set 2 (.str (Str.ofString (toString (41 + cell / 7 % 3 * (cell / 21) * fv))))))) := fun H2 s2 =>
      ⟨nm, 41 + cell / 7 % 3 * (cell / 21) * fv, ws, rB.2.2.2, rfl, keyA (nm, rA.2.1, 41 + cell / 7 % 3 * (cell / 21) * fv, ws) _ (hW1.up s2) rfl, (kp1.same s2).put wam _, n1, n2, fun _ => rb, fun z => absurd kk z, w1, w2, rfl⟩
    have ix2 : ∀ {x : List V}, x.length = 3 + ws.length → ixN x.length 2 = some 2 := fun {x} e => by
      unfold ixN; rw [if_pos (by decide), if_pos (by omega)]; rfl
    by_cases k9 : kind = 9
    · refine ⟨_, rfl, rfl, _, rfl, ?_⟩
      rw [de, decide_eq_true k9]
      refine iteT ?_
      refine ⟨_, rfl, _, _, rfl, rfl, ⟨by decide, by decide⟩, _, _, rfl, rfl, (show (0 : Int) < 3 by decide), _, rfl, _, _, rfl, rfl, ⟨by decide, by decide⟩, _, _, rfl, rfl, .inl ⟨by omega, by omega⟩, (by show 2 ≤ sizeLine; decide), fun lp hlp => ⟨_, rfl, _, _, rfl, rfl, ⟨by decide, by decide⟩, _, _, rfl, rfl, (show (0 : Int) < 2 by decide), lp, _, _, .int fv, rfl, rfl, SqL.of upd_same, hfv, _, _, rfl, rfl, .inr ⟨by omega, by omega⟩, _, _, rfl, rfl, _, rfl, log_9 (by omega) rb.2, ?_⟩⟩
      have s2 := same_upd hlp (.lst [V.int 1, V.int 40000])
      exact ⟨_, rfl, _, rfl, g, _, _, .ref wa, rfl, rfl, SqL.of (s2 _ _ hW1.hg), hata, wa, _, 2, 2, rfl, rfl, s2 _ _ (cellA hW1), ix2 (itp_len _), fin _ s2⟩
    refine ⟨_, rfl, rfl, _, rfl, ?_⟩
    rw [de, decide_eq_false k9]
    refine iteF ?_
    by_cases k11 : kind = 11
    · refine ⟨_, rfl, rfl, _, rfl, ?_⟩
      rw [de, decide_eq_true k11]
      refine iteT ?_
      refine ⟨_, rfl, _, _, rfl, rfl, ⟨by decide, by decide⟩, _, _, rfl, rfl, (show (0 : Int) < 3 by decide), _, rfl, _, _, rfl, rfl, ⟨by decide, by decide⟩, _, _, rfl, rfl, .inl ⟨by omega, by omega⟩, (by show 2 ≤ sizeLine; decide), fun lp hlp => ⟨_, rfl, _, _, rfl, rfl, ⟨by decide, by decide⟩, _, _, rfl, rfl, (show (0 : Int) < 2 by decide), lp, _, _, .int fv, rfl, rfl, SqL.of upd_same, hfv, _, _, rfl, rfl, .inr ⟨by omega, by omega⟩, _, _, rfl, rfl, _, rfl, log_9 (by omega) rb.2, ?_⟩⟩
      have s2 := same_upd hlp (.lst [V.int 1, V.int 40000])
      exact ⟨_, rfl, _, rfl, g, _, _, .ref wa, rfl, rfl, SqL.of (s2 _ _ hW1.hg), hata, wa, _, 2, 2, rfl, rfl, s2 _ _ (cellA hW1), ix2 (itp_len _), fin _ s2⟩
    refine ⟨_, rfl, rfl, _, rfl, ?_⟩
    rw [de, decide_eq_false k11]
    refine iteF ?_
    by_cases k13 : kind = 13
    · refine ⟨_, rfl, rfl, _, rfl, ?_⟩
      rw [de, decide_eq_true k13]
      refine iteT ?_
      refine ⟨_, rfl, _, _, rfl, rfl, ⟨by decide, by decide⟩, _, _, rfl, rfl, (show (0 : Int) < 3 by decide), _, rfl, _, _, rfl, rfl, ⟨by decide, by decide⟩, _, _, rfl, rfl, .inl ⟨by omega, by omega⟩, (by show 2 ≤ sizeLine; decide), fun lp hlp => ⟨_, rfl, _, _, rfl, rfl, ⟨by decide, by decide⟩, _, _, rfl, rfl, (show (0 : Int) < 2 by decide), lp, _, _, .int fv, rfl, rfl, SqL.of upd_same, hfv, _, _, rfl, rfl, .inr ⟨by omega, by omega⟩, _, _, rfl, rfl, _, rfl, log_9 (by omega) rb.2, ?_⟩⟩
      have s2 := same_upd hlp (.lst [V.int 1, V.int 40000])
      exact ⟨_, rfl, _, rfl, g, _, _, .ref wa, rfl, rfl, SqL.of (s2 _ _ hW1.hg), hata, wa, _, 2, 2, rfl, rfl, s2 _ _ (cellA hW1), ix2 (itp_len _), fin _ s2⟩
    refine ⟨_, rfl, rfl, _, rfl, ?_⟩
    rw [de, decide_eq_false k13]
    refine iteF ?_
    refine ⟨_, rfl, rfl, _, rfl, ?_⟩
    rw [de, decide_eq_true (show kind = 14 by omega)]
    refine iteT ?_
    refine ⟨_, rfl, _, _, rfl, rfl, ⟨by decide, by decide⟩, _, _, rfl, rfl, (show (0 : Int) < 3 by decide), _, rfl, _, _, rfl, rfl, ⟨by decide, by decide⟩, _, _, rfl, rfl, .inl ⟨by omega, by omega⟩, (by show 2 ≤ sizeLine; decide), fun lp hlp => ⟨_, rfl, _, _, rfl, rfl, ⟨by decide, by decide⟩, _, _, rfl, rfl, (show (0 : Int) < 2 by decide), lp, _, _, .int fv, rfl, rfl, SqL.of upd_same, hfv, _, _, rfl, rfl, .inr ⟨by omega, by omega⟩, _, _, rfl, rfl, _, rfl, log_9 (by omega) rb.2, ?_⟩⟩
    have s2 := same_upd hlp (.lst [V.int 1, V.int 40000])
    exact ⟨_, rfl, _, rfl, g, _, _, .ref wa, rfl, rfl, SqL.of (s2 _ _ hW1.hg), hata, wa, _, 2, 2, rfl, rfl, s2 _ _ (cellA hW1), ix2 (itp_len _), fin _ s2⟩
  clear hW1 kp1 n1 n2 w1 w2
  rintro σ' H1 ⟨nm, rk, ws, wbs, rfl, hW1, kp1, n1, n2, r1, r2, w1, w2, rfl⟩
  refine ⟨SrP g as ps H n m kind cell rA rB fun nm rk ws wb => (kind = 7 ∨ kind = 11 → nm = rB.1) ∧ (¬ (kind = 7 ∨ kind = 11) → nm = rA.1) ∧ (kind = 9 ∨ kind = 11 ∨ kind = 13 ∨ kind = 14 → 41 ≤ rk ∧ rk < 1000000000) ∧ (¬ (kind = 9 ∨ kind = 11 ∨ kind = 13 ∨ kind = 14) → rk = rA.2.2.1) ∧ (kind = 8 ∨ kind = 12 → ∃ f ms, ws = f :: ms ∧ isName f = true ∧ f ∉ nmsOf ps ∧ ms.length ≤ 1 ∧ ∀ x ∈ ms, x ∈ rA.2.2.2) ∧ (¬ (kind = 8 ∨ kind = 12) → ws = rA.2.2.2) ∧ (kind = 10 ∨ kind = 12 ∨ kind = 14 → wb = []) ∧ (¬ (kind = 10 ∨ kind = 12 ∨ kind = 14) → wb = rB.2.2.2), ?_, ?_⟩
  · by_cases kk : kind = 10 ∨ kind = 12 ∨ kind = 14
    rotate_left
    · refine ⟨_, rfl, rfl, _, rfl, ?_⟩
      rw [de, decide_eq_false (by omega)]
      refine iteF ?_
      refine ⟨_, rfl, rfl, _, rfl, ?_⟩
      rw [de, decide_eq_false (by omega)]
      refine iteF ?_
      refine ⟨_, rfl, rfl, _, rfl, ?_⟩
      rw [de, decide_eq_false (by omega)]
      refine iteF ?_
      exact ⟨_, _, _, _, rfl, hW1, kp1, n1, n2, r1, r2, w1, w2, fun z => absurd z kk, fun _ => rfl⟩
    by_cases k10 : kind = 10
    · refine ⟨_, rfl, rfl, _, rfl, ?_⟩
      rw [de, decide_eq_true k10]
      refine iteT ?_
      refine ⟨fun μ σ H2 => ∃ wb' : List Str, σ = [some (.ref g), some (.int kind), some (.int cell), some (.int (n : Nat)), some (.int (m : Nat))] ∧ HW H2 g as ((P2 ps n m (nm, rA.2.1, rk, ws) (rB.1, rB.2.1, rB.2.2.1, wb')).map itP) ∧ Keep as g H H2 ∧ μ = wb'.length, ⟨_, rB.2.2.2, rfl, hW1, kp1, rfl⟩, fun μ σ H2 h => ?_⟩
      obtain ⟨wb', rfl, hW2, kp2, rfl⟩ := h
      have il := itp_len (rB.1, rB.2.1, rB.2.2.1, wb')
      refine ⟨_, rfl, _, rfl, g, _, _, .ref wb, rfl, rfl, SqL.of hW2.hg, hatb, wb, _, rfl, .inl (SqL.of (cellB hW2)), _, _, rfl, rfl, _, rfl, ?_⟩
      rw [il]
      refine ite2 (fun cc => ?_) (fun cc => ?_)
      · have c1 : (3 : Int) < ((3 + wb'.length : Nat) : Int) := of_decide_eq_true cc
        have wne : wb' ≠ [] := fun e => by rw [e] at c1; simp at c1
        refine ⟨fun σ' H' => ∃ μ', μ' < wb'.length ∧ ∃ wb'' : List Str, σ' = [some (.ref g), some (.int kind), some (.int cell), some (.int (n : Nat)), some (.int (m : Nat))] ∧ HW H' g as ((P2 ps n m (nm, rA.2.1, rk, ws) (rB.1, rB.2.1, rB.2.2.1, wb'')).map itP) ∧ Keep as g H H' ∧ μ' = wb''.length, fun σ' H' z => z, ?_⟩
        refine ⟨_, rfl, _, rfl, g, _, _, .ref wb, rfl, rfl, SqL.of hW2.hg, hatb, .inl ⟨rfl, _, SqL.of (cellB hW2)⟩, wb, _, _, rfl, rfl, cellB hW2, List.getElem?_eq_getElem (by rw [il]; omega), ?_⟩
        refine ⟨_, ?_, wb'.dropLast, rfl, keyB (rB.1, rB.2.1, rB.2.2.1, wb'.dropLast) _ hW2 (itp_pop _ _ _ wne), kp2.put wbm _, rfl⟩
        rw [List.length_dropLast]; omega
      · have c1 : ¬ (3 : Int) < ((3 + wb'.length : Nat) : Int) := fun z => cc (decide_eq_true z)
        have e : wb' = [] := List.length_eq_zero_iff.mp (by omega)
        subst e
        exact ⟨_, _, _, _, rfl, hW2, kp2, n1, n2, r1, r2, w1, w2, fun _ => rfl, fun z => absurd kk z⟩
    refine ⟨_, rfl, rfl, _, rfl, ?_⟩
    rw [de, decide_eq_false k10]
    refine iteF ?_
    by_cases k12 : kind = 12
    · refine ⟨_, rfl, rfl, _, rfl, ?_⟩
      rw [de, decide_eq_true k12]
      refine iteT ?_
      refine ⟨fun μ σ H2 => ∃ wb' : List Str, σ = [some (.ref g), some (.int kind), some (.int cell), some (.int (n : Nat)), some (.int (m : Nat))] ∧ HW H2 g as ((P2 ps n m (nm, rA.2.1, rk, ws) (rB.1, rB.2.1, rB.2.2.1, wb')).map itP) ∧ Keep as g H H2 ∧ μ = wb'.length, ⟨_, rB.2.2.2, rfl, hW1, kp1, rfl⟩, fun μ σ H2 h => ?_⟩
      obtain ⟨wb', rfl, hW2, kp2, rfl⟩ := h
      have il := itp_len (rB.1, rB.2.1, rB.2.2.1, wb')
      refine ⟨_, rfl, _, rfl, g, _, _, .ref wb, rfl, rfl, SqL.of hW2.hg, hatb, wb, _, rfl, .inl (SqL.of (cellB hW2)), _, _, rfl, rfl, _, rfl, ?_⟩
      rw [il]
      refine ite2 (fun cc => ?_) (fun cc => ?_)
      · have c1 : (3 : Int) < ((3 + wb'.length : Nat) : Int) := of_decide_eq_true cc
        have wne : wb' ≠ [] := fun e => by rw [e] at c1; simp at c1
        refine ⟨fun σ' H' => ∃ μ', μ' < wb'.length ∧ ∃ wb'' : List Str, σ' = [some (.ref g), some (.int kind), some (.int cell), some (.int (n : Nat)), some (.int (m : Nat))] ∧ HW H' g as ((P2 ps n m (nm, rA.2.1, rk, ws) (rB.1, rB.2.1, rB.2.2.1, wb'')).map itP) ∧ Keep as g H H' ∧ μ' = wb''.length, fun σ' H' z => z, ?_⟩
        refine ⟨_, rfl, _, rfl, g, _, _, .ref wb, rfl, rfl, SqL.of hW2.hg, hatb, .inl ⟨rfl, _, SqL.of (cellB hW2)⟩, wb, _, _, rfl, rfl, cellB hW2, List.getElem?_eq_getElem (by rw [il]; omega), ?_⟩
        refine ⟨_, ?_, wb'.dropLast, rfl, keyB (rB.1, rB.2.1, rB.2.2.1, wb'.dropLast) _ hW2 (itp_pop _ _ _ wne), kp2.put wbm _, rfl⟩
        rw [List.length_dropLast]; omega
      · have c1 : ¬ (3 : Int) < ((3 + wb'.length : Nat) : Int) := fun z => cc (decide_eq_true z)
        have e : wb' = [] := List.length_eq_zero_iff.mp (by omega)
        subst e
        exact ⟨_, _, _, _, rfl, hW2, kp2, n1, n2, r1, r2, w1, w2, fun _ => rfl, fun z => absurd kk z⟩
    · refine ⟨_, rfl, rfl, _, rfl, ?_⟩
      rw [de, decide_eq_false k12]
      refine iteF ?_
      refine ⟨_, rfl, rfl, _, rfl, ?_⟩
      rw [de, decide_eq_true (show kind = 14 by omega)]
      refine iteT ?_
      refine ⟨fun μ σ H2 => ∃ wb' : List Str, σ = [some (.ref g), some (.int kind), some (.int cell), some (.int (n : Nat)), some (.int (m : Nat))] ∧ HW H2 g as ((P2 ps n m (nm, rA.2.1, rk, ws) (rB.1, rB.2.1, rB.2.2.1, wb')).map itP) ∧ Keep as g H H2 ∧ μ = wb'.length, ⟨_, rB.2.2.2, rfl, hW1, kp1, rfl⟩, fun μ σ H2 h => ?_⟩
      obtain ⟨wb', rfl, hW2, kp2, rfl⟩ := h
      have il := itp_len (rB.1, rB.2.1, rB.2.2.1, wb')
      refine ⟨_, rfl, _, rfl, g, _, _, .ref wb, rfl, rfl, SqL.of hW2.hg, hatb, wb, _, rfl, .inl (SqL.of (cellB hW2)), _, _, rfl, rfl, _, rfl, ?_⟩
      rw [il]
      refine ite2 (fun cc => ?_) (fun cc => ?_)
      · have c1 : (3 : Int) < ((3 + wb'.length : Nat) : Int) := of_decide_eq_true cc
        have wne : wb' ≠ [] := fun e => by rw [e] at c1; simp at c1
        refine ⟨fun σ' H' => ∃ μ', μ' < wb'.length ∧ ∃ wb'' : List Str, σ' = [some (.ref g), some (.int kind), some (.int cell), some (.int (n : Nat)), some (.int (m : Nat))] ∧ HW H' g as ((P2 ps n m (nm, rA.2.1, rk, ws) (rB.1, rB.2.1, rB.2.2.1, wb'')).map itP) ∧ Keep as g H H' ∧ μ' = wb''.length, fun σ' H' z => z, ?_⟩
        refine ⟨_, rfl, _, rfl, g, _, _, .ref wb, rfl, rfl, SqL.of hW2.hg, hatb, .inl ⟨rfl, _, SqL.of (cellB hW2)⟩, wb, _, _, rfl, rfl, cellB hW2, List.getElem?_eq_getElem (by rw [il]; omega), ?_⟩
        refine ⟨_, ?_, wb'.dropLast, rfl, keyB (rB.1, rB.2.1, rB.2.2.1, wb'.dropLast) _ hW2 (itp_pop _ _ _ wne), kp2.put wbm _, rfl⟩
        rw [List.length_dropLast]; omega
      · have c1 : ¬ (3 : Int) < ((3 + wb'.length : Nat) : Int) := fun z => cc (decide_eq_true z)
        have e : wb' = [] := List.length_eq_zero_iff.mp (by omega)
        subst e
        exact ⟨_, _, _, _, rfl, hW2, kp2, n1, n2, r1, r2, w1, w2, fun _ => rfl, fun z => absurd kk z⟩
  clear hW1 kp1 n1 n2 r1 r2 w1 w2
  rintro σ' H1 ⟨nm, rk, ws, wbs, rfl, hW1, kp1, n1, n2, r1, r2, w1, w2, b1, b2⟩
  refine ⟨SrP g as ps H n m kind cell rA rB fun nm rk ws wb => Sp2 kind ps rA rB nm rk ws wb, ?_, ?_⟩
  · refine ⟨_, rfl, rfl, _, rfl, ?_⟩
    rw [de]
    refine ite2 (fun cc => ?_) (fun cc => ?_)
    rotate_left
    · have c' : ¬ kind = 13 := fun z => cc (decide_eq_true z)
      exact ⟨_, _, _, _, rfl, hW1, kp1, n1, n2, w1, fun z => absurd z c', fun z => w2 (by omega), r1, r2, b1, b2⟩
    have c' := of_decide_eq_true cc
    have wl0 := w2 (by omega)
    refine ⟨fun μ σ H2 => ∃ ws' : List Str, σ = [some (.ref g), some (.int kind), some (.int cell), some (.int (n : Nat)), some (.int (m : Nat))] ∧ HW H2 g as ((P2 ps n m (nm, rA.2.1, rk, ws') (rB.1, rB.2.1, rB.2.2.1, wbs)).map itP) ∧ Keep as g H H2 ∧ μ = ws'.length, ⟨_, ws, rfl, hW1, kp1, rfl⟩, fun μ σ H2 h => ?_⟩
    obtain ⟨ws', rfl, hW2, kp2, rfl⟩ := h
    have il := itp_len (nm, rA.2.1, rk, ws')
    refine ⟨_, rfl, _, rfl, g, _, _, .ref wa, rfl, rfl, SqL.of hW2.hg, hata, wa, _, rfl, .inl (SqL.of (cellA hW2)), _, _, rfl, rfl, _, rfl, ?_⟩
    rw [il]
    refine ite2 (fun cc => ?_) (fun cc => ?_)
    · have c1 : (3 : Int) < ((3 + ws'.length : Nat) : Int) := of_decide_eq_true cc
      have wne : ws' ≠ [] := fun e => by rw [e] at c1; simp at c1
      refine ⟨fun σ' H' => ∃ μ', μ' < ws'.length ∧ ∃ ws'' : List Str, σ' = [some (.ref g), some (.int kind), some (.int cell), some (.int (n : Nat)), some (.int (m : Nat))] ∧ HW H' g as ((P2 ps n m (nm, rA.2.1, rk, ws'') (rB.1, rB.2.1, rB.2.2.1, wbs)).map itP) ∧ Keep as g H H' ∧ μ' = ws''.length, fun σ' H' z => z, ?_⟩
      refine ⟨_, rfl, _, rfl, g, _, _, .ref wa, rfl, rfl, SqL.of hW2.hg, hata, .inl ⟨rfl, _, SqL.of (cellA hW2)⟩, wa, _, _, rfl, rfl, cellA hW2, List.getElem?_eq_getElem (by rw [il]; omega), ?_⟩
      refine ⟨_, ?_, ws'.dropLast, rfl, keyA (nm, rA.2.1, rk, ws'.dropLast) _ hW2 (itp_pop _ _ _ wne), kp2.put wam _, rfl⟩
      rw [List.length_dropLast]; omega
    · have c1 : ¬ (3 : Int) < ((3 + ws'.length : Nat) : Int) := fun z => cc (decide_eq_true z)
      have e : ws' = [] := List.length_eq_zero_iff.mp (by omega)
      subst e
      exact ⟨_, _, _, _, rfl, hW2, kp2, n1, n2, fun z => by omega, fun _ => rfl, fun z => by omega, r1, r2, b1, b2⟩
  clear hW1 kp1 n1 n2 r1 r2 w1 w2 b1 b2
  rintro σ' H1 ⟨nm, rk, ws, wbs, rfl, hW1, kp1, sp⟩
  have fin : ∀ (x : Str) (H2 : Hp), Same H1 H2 → x ∈ x5 → ((x = "NoName" ∧ (kind = 7 ∨ kind = 8 ∨ kind = 11 ∨ kind = 12)) ∨ (x = "NoWay" ∧ (kind = 10 ∨ (kind = 14 ∧ m < n))) ∨ (x = "NoRank" ∧ (kind = 9 ∨ kind = 13 ∨ (kind = 14 ∧ ¬ m < n)))) → Q (.str x) H2 := fun x H2 s2 hx h =>
    q _ x H2 (hW1.up s2) p2_len (sp2_ok gp hA hB sp) (sp2_due gp p6 nm_ne hA hB sp k0 k1 h) hx (kp1.same s2)
  refine ⟨_, rfl, (by show 4 ≤ sizeLine; decide), fun tp htp => ⟨tp, _, rfl, .inr (SqT.of upd_same), rfl, rfl, _, rfl, ?_⟩⟩
  have s2 := same_upd htp (.tup [V.int 7, .int 8, .int 11, .int 12])
  generalize upd H1 tp (.tup [V.int 7, .int 8, .int 11, .int 12]) = H2 at s2 ⊢
  have ei : (if false = true then !inV (V.int kind) [V.int 7, V.int 8, V.int 11, V.int 12] else inV (V.int kind) [V.int 7, V.int 8, V.int 11, V.int 12]) = decide (kind ∈ ([7, 8, 11, 12] : List Int)) := inV_ints kind [7, 8, 11, 12]
  rw [ei]
  refine ite2 (fun cc => ?_) (fun cc => ?_)
  · have c' := of_decide_eq_true cc
    simp only [List.mem_cons, List.not_mem_nil, or_false] at c'
    exact fin _ _ s2 (by decide) (.inl ⟨rfl, c'⟩)
  have n4 : ¬ (kind = 7 ∨ kind = 8 ∨ kind = 11 ∨ kind = 12) := fun z => cc (decide_eq_true (by simp only [List.mem_cons, List.not_mem_nil, or_false]; exact z))
  refine ⟨_, rfl, rfl, _, rfl, ?_⟩
  rw [de]
  by_cases k10 : kind = 10
  · rw [decide_eq_true k10]
    refine iteT ?_
    exact fin _ _ s2 (by decide) (.inr (.inl ⟨rfl, .inl k10⟩))
  rw [decide_eq_false k10]
  refine iteF ?_
  refine ⟨_, rfl, rfl, _, rfl, ?_⟩
  rw [de]
  by_cases k14 : kind = 14
  · rw [decide_eq_true k14]
    refine iteT ?_
    refine ⟨_, rfl, _, rfl, _, _, rfl, rfl, _, rfl, ?_⟩
    by_cases k : m < n
    · rw [decide_eq_true (show ((m : Nat) : Int) < ((n : Nat) : Int) by omega)]
      refine iteT ?_
      exact fin _ _ s2 (by decide) (.inr (.inl ⟨rfl, .inr ⟨k14, k⟩⟩))
    · rw [decide_eq_false (show ¬ ((m : Nat) : Int) < ((n : Nat) : Int) by omega)]
      refine iteF ?_
      exact fin _ _ s2 (by decide) (.inr (.inr ⟨rfl, .inr (.inr ⟨k14, k⟩)⟩))
  · rw [decide_eq_false k14]
    refine iteF ?_
    exact fin _ _ s2 (by decide) (.inr (.inr ⟨rfl, by omega⟩))
def nmC (cell : Int) (k : Nat) : Str := wrd [((k : Int) + cell) % 26]
structure M17 (cell : Int) (ps : List PTy) : Prop where
  nm : nmsOf ps = (List.range 17).map (nmC cell)
  all : ∀ p ∈ ps, p.2.1 = 0 ∧ p.2.2.2 = [wrd [cell % 26]] ∧ 0 ≤ p.2.2.1 ∧ p.2.2.1 ≤ 41
theorem nmc_name (cell : Int) (k : Nat) : isName (nmC cell k) = true := wrd_name (Nat.le_refl _) (by show 1 ≤ 8; decide) fun t ht => by
  rw [List.mem_singleton.mp ht]
  exact ⟨Int.emod_nonneg _ (by decide), Int.emod_lt_of_pos _ (by decide)⟩
theorem nmc_nd (cell : Int) : ((List.range 17).map (nmC cell)).Nodup := map_nodup fun i j hi hj e => by
  have h := wrd_inj (fun t ht => by rw [List.mem_singleton.mp ht]; exact Int.emod_nonneg _ (by decide)) (fun t ht => by rw [List.mem_singleton.mp ht]; exact Int.emod_nonneg _ (by decide)) e
  injection h with h _
  omega
theorem nmc_way (cell : Int) : wrd [cell % 26] ∈ (List.range 17).map (nmC cell) := List.mem_map.mpr ⟨0, List.mem_range.mpr (by decide), by unfold nmC; rw [show (((0 : Nat) : Int) + cell) = cell by omega]⟩
theorem M17.len {cell : Int} {ps : List PTy} (h : M17 cell ps) : ps.length = 17 := by
  have := congrArg List.length h.nm
  rw [nms_len, List.length_map, List.length_range] at this
  exact this
theorem M17.ok {cell : Int} {ps : List PTy} (h : M17 cell ps) : ∀ p ∈ ps, POk p := fun p hp => by
  obtain ⟨a1, a2, a3, a4⟩ := h.all p hp
  refine ⟨?_, .inl a1, a3, by omega, fun x hx => ?_, by rw [a2]; show 1 ≤ 2; decide⟩
  · have : p.1 ∈ nmsOf ps := List.mem_map.mpr ⟨p, hp, rfl⟩
    rw [h.nm] at this
    obtain ⟨k, _, e⟩ := List.mem_map.mp this
    rw [← e]; exact nmc_name _ _
  · rw [a2] at hx
    rw [List.mem_singleton.mp hx]
    obtain ⟨k, _, e⟩ := List.mem_map.mp (nmc_way cell)
    rw [← e]; exact nmc_name _ _
theorem M17.set {cell : Int} {ps : List PTy} (h : M17 cell ps) {i : Nat} {p : PTy} (hi : ps[i]? = some p) {r : Int} (r0 : 0 ≤ r) (r1 : r ≤ 41) : M17 cell (ps.set i (p.1, p.2.1, r, p.2.2.2)) := by
  obtain ⟨a1, a2, _⟩ := h.all p (List.mem_of_getElem? hi)
  refine ⟨?_, fun x hx => ?_⟩
  · have : nmsOf (ps.set i (p.1, p.2.1, r, p.2.2.2)) = nmsOf ps := by
      unfold nmsOf
      rw [List.map_set]
      exact set_self (by rw [List.getElem?_map, hi]; rfl)
    rw [this]; exact h.nm
  · rcases List.mem_or_eq_of_mem_set hx with hx | rfl
    · exact h.all x hx
    · exact ⟨a1, a2, r0, r1⟩
theorem m17_good {cell : Int} {ps : List PTy} (h : M17 cell ps) {p : PTy} (hp : p ∈ ps) (hr : p.2.2.1 ≤ 40) : RowGood (nmsOf ps).length (rowOf (nmsOf ps) p) := by
  obtain ⟨a1, a2, a3, _⟩ := h.all p hp
  refine row_good (.inl a1) a3 hr (by rw [a2]; exact fun z => by cases z) fun x hx => ?_
  rw [a2] at hx
  rw [List.mem_singleton.mp hx, h.nm]
  exact nmc_way cell
theorem m17_in {cell : Int} {ps : List PTy} (h : M17 cell ps) : (nmsOf ps).Nodup ∧ ∀ p ∈ ps, ∀ y ∈ p.2.2.2, y ∈ nmsOf ps := by
  refine ⟨by rw [h.nm]; exact nmc_nd cell, fun p hp y hy => ?_⟩
  rw [(h.all p hp).2.1] at hy
  rw [List.mem_singleton.mp hy, h.nm]
  exact nmc_way cell
theorem m17_many {cell : Int} {ps : List PTy} (h : M17 cell ps) (hr : ∀ p ∈ ps, p.2.2.1 ≤ 40) {p : PTy} (hp : p ∈ ps) (h3 : 3 ≤ p.2.2.1) : PDue ps "TooMany" := by
  obtain ⟨i1, i2⟩ := m17_in h
  have l := h.len
  refine .inr ⟨i1, i2, .inr (.inr ⟨rfl, by rw [rows_len, l]; decide, fun r hr' => ?_, by rw [rows_len, l]; decide, rowOf (nmsOf ps) p, List.mem_map.mpr ⟨p, hp, rfl⟩, by show 2 < p.2.2.1; omega⟩)⟩
  obtain ⟨x, hx, rfl⟩ := List.mem_map.mp hr'
  rw [rows_len, ← nms_len]
  exact m17_good h hx (hr x hx)
theorem m17_rank {cell : Int} {ps : List PTy} (h : M17 cell ps) {i : Nat} {p : PTy} (hi : ps[i]? = some p) (h41 : p.2.2.1 = 41) (hr : ∀ (j : Nat) p', j ≠ i → ps[j]? = some p' → p'.2.2.1 ≤ 40) : PDue ps "NoRank" := by
  obtain ⟨i1, i2⟩ := m17_in h
  refine .inr ⟨i1, i2, bad_at (i := i) (by rw [h.len]; decide) hi (.inr (.inl ⟨rfl, .inl (h.all p (List.mem_of_getElem? hi)).1, fun z => ?_⟩)) fun j p' hj hp => m17_good h (List.mem_of_getElem? hp) (hr j p' (by omega) hp)⟩
  have : p.2.2.1 ≤ 40 := z.2
  omega
def spMany (K : PySem.W.Frag) : Sp := fun vs H Q _ => ∃ (g : Addr) (us : List V) (kind cell : Int), vs = [.ref g, .int kind, .int cell] ∧ H g = some (.lst us) ∧ (kind = 15 ∨ kind = 16) ∧ 0 ≤ cell ∧ cell < 65521 ∧ ∀ (as : List Addr) (ps : List PTy) (x : Str) H', HW H' g as (ps.map itP) → ps.length = 17 → (∀ p ∈ ps, POk p) → PDue ps x → x ∈ x5 → Keep [] g H H' → Q (.str x) H'
theorem ok_many (F : DefAt K mg "_law_many" s_law_many ["_law_parts_here", "_law_kind", "_law_cell"]) (T : Txt mg) : Dn P w K mg base "_law_many" 1 ["_law_parts_here", "_law_kind", "_law_cell"] (spMany K) := by
  have sc := sc_law_many
  refine F.ok sc (fun vs H Q E h => ?_) (fun f cdv A outer s H vs Q E hr h => ?_)
  · obtain ⟨_, _, _, _, rfl, _⟩ := h; rfl
  obtain ⟨g, us, kind, cell, rfl, hg, kk, c0, c6, q⟩ := h
  refine ⟨_, (pss_cons (ps_set (i := 3) sc.nd rfl (Or.inl rfl) pe_str)
      (pss_cons (ps_expr (pe_bm0 PySem.F.plainAttrs_list PySem.F.slot_list_clear PySem.F.type_list_clear mt_clear (pv 0)))
      (pss_cons (ps_for PassesOwn.never rfl (pi_range1 rfl T.b_range (pa_cons pe_int pa_nil)) (pg_name (i := 4) sc.nd rfl (Or.inl rfl))
      (pss_one (ps_expr (pe_bm PySem.F.plainAttrs_list PySem.F.slot_list_append PySem.F.type_list_append mt_append (pv 0) (pa_cons (pe_lst (pa_cons (pe_ix ix_str (pv 3) (pe_op op_mod (pe_op op_add (pv 4) (pv 2)) pe_int) (fun _ _ => rfl)) (pa_cons pe_str (pa_cons (pe_callTy call_str_int rfl T.b_str PyProof.Rows.boot_str (pa_cons (pe_op op_mod (pe_op op_fdiv (pv 2) pe_int) pe_int) pa_nil)) (pa_cons (pe_ix ix_str (pv 3) (pe_op op_mod (pv 2) pe_int) (fun _ _ => rfl)) pa_nil))))) pa_nil)))))
      (pss_cons (ps_asg (pe_callTy call_str_int rfl T.b_str PyProof.Rows.boot_str (pa_cons (pe_op op_add pe_int (pe_op op_mod (pe_op op_fdiv (pv 2) pe_int) pe_int)) pa_nil)) (pg_sub (pe_ix (ixL (K := K) rfl) (pv 0) (pe_op op_mod (pe_op op_fdiv (pv 2) pe_int) pe_int) (fun _ _ => rfl)) pe_int set_list))
      (pss_cons (ps_if (pt_cmpR op_eq (pv 1) pe_int (nomark _))
      (pss_cons (ps_asg pe_str (pg_sub (pe_ix (ixL (K := K) rfl) (pv 0) (pe_op op_mod (pe_op op_add (pe_op op_fdiv (pv 2) pe_int) pe_int) pe_int) (fun _ _ => rfl)) pe_int set_list))
      (pss_one (ps_ret pe_str)))
      pss_nil)
      (pss_one (ps_ret pe_str))))))), ?_⟩
  refine ⟨_, rfl, .inl ⟨rfl, _, SqL.of hg⟩, g, _, rfl, rfl, hg, ?_⟩
  have kp0 : Keep [] g H (upd H g (.lst [])) := fun b o nb _ e => by rw [upd_ne nb]; exact e
  have hg0 : upd H g (.lst []) g = some (.lst []) := upd_same
  generalize upd H g (.lst []) = H0 at kp0 hg0 ⊢
  have m3 : 0 ≤ cell / 26 % 3 ∧ cell / 26 % 3 < 3 := ⟨Int.emod_nonneg _ (by decide), Int.emod_lt_of_pos _ (by decide)⟩
  have m26 : 0 ≤ cell % 26 ∧ cell % 26 < 26 := ⟨Int.emod_nonneg _ (by decide), Int.emod_lt_of_pos _ (by decide)⟩
  refine ⟨17, rfl, by decide, by decide, for_range (lo := 0) (n := (17 : Int).toNat) (fun i σ H1 => ∃ (as : List Addr) (y : Option V), σ = [some (.ref g), some (.int kind), some (.int cell), some (.str abc), y] ∧ HW H1 g as (((List.range i).map fun (k : Nat) => (((nmC cell k, 0, cell / 26 % 3, [wrd [cell % 26]]) : PTy))).map itP) ∧ Keep [] g H H1 ∧ ∀ x ∈ as, H x = none)
    ⟨[], _, rfl, ⟨hg0, List.nodup_nil, (fun z => by cases z), rfl, (fun i x w e => by cases e)⟩, kp0, (fun _ z => by cases z)⟩ (fun i σ H1 hi h => ?_) (fun σ H1 h => ?_)⟩
  · obtain ⟨as, y, rfl, hW, kp, fr⟩ := h
    have al : as.length = i := by rw [hW.len, List.length_map, List.length_map, List.length_range]
    have i17 : i < 17 := hi
    have mk26 : 0 ≤ (0 + ((i : Nat) : Int) + cell) % 26 ∧ (0 + ((i : Nat) : Int) + cell) % 26 < 26 := ⟨Int.emod_nonneg _ (by decide), Int.emod_lt_of_pos _ (by decide)⟩
    refine ⟨_, rfl, .inl ⟨rfl, _, SqL.of hW.hg⟩, _, rfl, _, rfl, _, rfl, _, _, rfl, rfl, _, _, rfl, rfl, (show (0 : Int) < 26 by decide), abc, _, _, rfl, rfl, (by decide +kernel), abc_at _ mk26.1 mk26.2, _, rfl, _, _, rfl, rfl, ⟨by decide, by decide⟩, _, _, rfl, rfl, (show (0 : Int) < 3 by decide), _, rfl, log_s m3.1 (by omega), _, rfl, _, rfl, _, _, rfl, rfl, (show (0 : Int) < 26 by decide), abc, _, _, rfl, rfl, (by decide +kernel), abc_at _ m26.1 m26.2, (by show 4 ≤ sizeLine; decide), fun p hp => ?_⟩
    have s2 := same_upd hp (.lst ((itP (nmC cell i, 0, cell / 26 % 3, [wrd [cell % 26]])).map V.str))
    have k2 : upd H1 p (.lst ((itP (nmC cell i, 0, cell / 26 % 3, [wrd [cell % 26]])).map V.str)) p = some (.lst ((itP (nmC cell i, 0, cell / 26 % 3, [wrd [cell % 26]])).map V.str)) := upd_same
    have hW2 := hW.push s2 hp k2
    have e2 : [V.str ⟨#[lt1 ((0 + ((i : Nat) : Int) + cell) % 26)]⟩, V.str "+", V.str (Str.ofString (toString (cell / 26 % 3))), V.str ⟨#[lt1 (cell % 26)]⟩] = (itP (nmC cell i, 0, cell / 26 % 3, [wrd [cell % 26]])).map V.str := by
      rw [Int.zero_add]; rfl
    rw [e2]
    refine ⟨g, _, _, rfl, rfl, s2 _ _ hW.hg, smlt (m := 100) (by rw [List.length_map]; omega), ?_⟩
    refine ⟨as ++ [p], _, rfl, ?_, fun b o nb hb e => ?_, fun x hx => ?_⟩
    · rw [List.range_succ, List.map_append, List.map_append]; exact hW2
    · rw [upd_ne nb]; exact s2 _ _ (kp b o nb hb e)
    · rcases List.mem_append.mp hx with hx | hx
      · exact fr x hx
      · rw [List.mem_singleton.mp hx]
        have pg : p ≠ g := fun e => by rw [e, hW.hg] at hp; cases hp
        cases e : H p with
        | none => rfl
        | some o => rw [kp p o pg (fun z => by cases z) e] at hp; cases hp
  obtain ⟨as, y, rfl, hW, kp, fr⟩ := h
  generalize hps : ((List.range (17 : Int).toNat).map fun (k : Nat) => (((nmC cell k, 0, cell / 26 % 3, [wrd [cell % 26]]) : PTy))) = ps at hW
  have M : M17 cell ps := by
    refine ⟨?_, fun p hp => ?_⟩
    · rw [← hps]; unfold nmsOf; rw [List.map_map]; rfl
    · rw [← hps] at hp
      obtain ⟨k, _, rfl⟩ := List.mem_map.mp hp
      exact ⟨rfl, rfl, m3.1, by show cell / 26 % 3 ≤ 41; omega⟩
  have low : ∀ p ∈ ps, p.2.2.1 ≤ 40 := fun p hp => by
    rw [← hps] at hp
    obtain ⟨k, _, rfl⟩ := List.mem_map.mp hp
    show cell / 26 % 3 ≤ 40; omega
  have pl := M.len
  clear hps
  have al : as.length = 17 := by rw [hW.len, List.length_map, pl]
  have keyS : ∀ {H1 : Hp} {qs : List PTy} {n : Nat} {wa : Addr} {r : PTy} (v : V) (rk : Int), HW H1 g as (qs.map itP) → as[n]? = some wa → qs[n]? = some r → v = .str (intS rk) → HW (upd H1 wa (.lst (((itP r).map V.str).set 2 v))) g as ((qs.set n (r.1, r.2.1, rk, r.2.2.2)).map itP) := fun {H1 qs n wa r} v rk h hw hr e => by
    have := h.set (w := itP (r.1, r.2.1, rk, r.2.2.2)) hw (H' := upd H1 wa (.lst (((itP r).map V.str).set 2 v))) (fun b o nb e => by rw [upd_ne nb]; exact e) (by rw [upd_same, e]; rfl)
    rw [List.map_set]; exact this
  have ix2 : ∀ {x : List V} {k : Nat}, x.length = 3 + k → ixN x.length 2 = some 2 := fun {x k} e => by
    unfold ixN; rw [if_pos (by decide), if_pos (by omega)]; rfl
  have m38 : 0 ≤ cell / 7 % 38 ∧ cell / 7 % 38 < 38 := ⟨Int.emod_nonneg _ (by decide), Int.emod_lt_of_pos _ (by decide)⟩
  have a17 : 0 ≤ cell / 78 % 17 ∧ cell / 78 % 17 < 17 := ⟨Int.emod_nonneg _ (by decide), Int.emod_lt_of_pos _ (by decide)⟩
  have b17 : 0 ≤ (cell / 78 + 5) % 17 ∧ (cell / 78 + 5) % 17 < 17 := ⟨Int.emod_nonneg _ (by decide), Int.emod_lt_of_pos _ (by decide)⟩
  obtain ⟨n1, hn1⟩ := Int.eq_ofNat_of_zero_le a17.1
  obtain ⟨n2, hn2⟩ := Int.eq_ofNat_of_zero_le b17.1
  obtain ⟨w1, hw1⟩ : ∃ wa, as[n1]? = some wa := ⟨_, List.getElem?_eq_getElem (by omega)⟩
  obtain ⟨w2, hw2⟩ : ∃ wa, as[n2]? = some wa := ⟨_, List.getElem?_eq_getElem (by omega)⟩
  obtain ⟨r1, hr1⟩ : ∃ r, ps[n1]? = some r := ⟨_, List.getElem?_eq_getElem (by omega)⟩
  have ge : ∀ {x : Addr}, x ∈ as → g ≠ x := fun hx e => hW.ng (e ▸ hx)
  have c1 := hW.cell n1 w1 (itP r1) hw1 (by rw [List.getElem?_map, hr1]; rfl)
  refine ⟨_, rfl, _, _, rfl, rfl, ⟨by decide, by decide⟩, _, _, rfl, rfl, (show (0 : Int) < 38 by decide), _, _, rfl, rfl, _, rfl, log_s (by omega) (by omega), _, rfl, _, rfl, _, _, rfl, rfl, ⟨by decide, by decide⟩, _, _, rfl, rfl, (show (0 : Int) < 17 by decide), g, _, _, .ref w1, rfl, rfl, SqL.of hW.hg, (by rw [hn1]; exact atI_nat (j := n1) (by rw [List.getElem?_map, hw1]; rfl)), w1, _, 2, 2, rfl, rfl, c1, ix2 (itp_len _), ?_⟩
  have m1 := List.mem_of_getElem? hw1
  have m2 := List.mem_of_getElem? hw2
  have e1 : V.str (Str.ofString (toString (3 + cell / 7 % 38))) = V.str (intS (3 + cell / 7 % 38)) := rfl
  have hW1 := keyS (V.str (Str.ofString (toString (3 + cell / 7 % 38)))) (3 + cell / 7 % 38) hW hw1 hr1 e1
  have M1 := M.set hr1 (r := 3 + cell / 7 % 38) (by omega) (by omega)
  have kp1 : Keep [] g H (upd H1 w1 (.lst (((itP r1).map V.str).set 2 (V.str (Str.ofString (toString (3 + cell / 7 % 38))))))) := fun b o nb hb e => by
    rw [upd_ne (fun z => by rw [z, fr w1 m1] at e; cases e)]; exact kp b o nb hb e
  generalize upd H1 w1 (.lst (((itP r1).map V.str).set 2 (V.str (Str.ofString (toString (3 + cell / 7 % 38)))))) = H2 at hW1 kp1 ⊢
  have l1 : ∀ p ∈ ps.set n1 (r1.1, r1.2.1, 3 + cell / 7 % 38, r1.2.2.2), p.2.2.1 ≤ 40 := fun p hp => by
    rcases List.mem_or_eq_of_mem_set hp with hp | rfl
    · exact low p hp
    · show 3 + cell / 7 % 38 ≤ 40; omega
  have at1 : (ps.set n1 (r1.1, r1.2.1, 3 + cell / 7 % 38, r1.2.2.2))[n1]? = some (r1.1, r1.2.1, 3 + cell / 7 % 38, r1.2.2.2) := List.getElem?_set_self (by omega)
  refine ⟨_, rfl, rfl, _, rfl, ?_⟩
  rw [de]
  refine ite2 (fun cc => ?_) (fun cc => ?_)
  rotate_left
  · exact q as _ "TooMany" H2 hW1 M1.len M1.ok (m17_many M1 l1 (List.mem_of_getElem? at1) (by show 3 ≤ 3 + cell / 7 % 38; omega)) (by decide) kp1
  generalize ps.set n1 (r1.1, r1.2.1, 3 + cell / 7 % 38, r1.2.2.2) = qs at hW1 M1 l1 at1
  have ql := M1.len
  obtain ⟨r2, hr2⟩ : ∃ r, qs[n2]? = some r := ⟨_, List.getElem?_eq_getElem (by omega)⟩
  have c2 := hW1.cell n2 w2 (itP r2) hw2 (by rw [List.getElem?_map, hr2]; rfl)
  refine ⟨_, rfl, _, rfl, _, _, rfl, rfl, ⟨by decide, by decide⟩, _, _, rfl, rfl, _, _, rfl, rfl, (show (0 : Int) < 17 by decide), g, _, _, .ref w2, rfl, rfl, SqL.of hW1.hg, (by rw [hn2]; exact atI_nat (j := n2) (by rw [List.getElem?_map, hw2]; rfl)), w2, _, 2, 2, rfl, rfl, c2, ix2 (itp_len _), ?_⟩
  have hW2 := keyS (V.str "41") 41 hW1 hw2 hr2 (by decide +kernel)
  have M2 := M1.set hr2 (r := 41) (by decide) (by decide)
  refine q as _ "NoRank" _ hW2 M2.len M2.ok (m17_rank (i := n2) M2 (List.getElem?_set_self (by omega)) rfl fun j p' hj hp => ?_) (by decide) fun b o nb hb e => ?_
  · rw [List.getElem?_set_ne (Ne.symm hj)] at hp
    exact l1 p' (List.mem_of_getElem? hp)
  · rw [upd_ne (fun z => by rw [z, fr w2 m2] at e; cases e)]; exact kp1 b o nb hb e
theorem rowbad_one {n : Int} {r : Row} {x y : Str} (a : RowBad n r x) (b : RowBad n r y) : x = y := by
  rcases a with ⟨rfl, a⟩ | ⟨rfl, a1, a2⟩ | ⟨rfl, a1, a2, a3⟩ <;> rcases b with ⟨rfl, b⟩ | ⟨rfl, b1, b2⟩ | ⟨rfl, b1, b2, b3⟩
  · rfl
  · exact absurd b1 a
  · exact absurd b1 a
  · exact absurd a1 b
  · rfl
  · exact absurd b2 a2
  · exact absurd a1 b
  · exact absurd a2 b2
  · rfl
theorem rowbad_good {n : Int} {r : Row} {x : Str} (a : RowBad n r x) (g : RowGood n r) : False := by
  rcases a with ⟨_, a⟩ | ⟨_, _, a⟩ | ⟨_, _, _, a⟩
  · exact a g.1
  · exact a g.2.1
  · exact a g.2.2
theorem gbad_one {G : List Row} {x y : Str} (a : GBad G x) (b : GBad G y) : x = y := by
  rcases a with ⟨rfl, a⟩ | ⟨al, i, r, hi, hb, hg⟩ | ⟨rfl, al, ag, _⟩ <;> rcases b with ⟨rfl, b⟩ | ⟨bl, j, r', hj, hb', hg'⟩ | ⟨rfl, bl, bg, _⟩
  · rfl
  · omega
  · rfl
  · omega
  · rcases Nat.lt_trichotomy i j with h | h | h
    · exact (rowbad_good hb (hg' i r h hi)).elim
    · subst h
      rw [hi] at hj
      injection hj with hj
      subst hj
      exact rowbad_one hb hb'
    · exact (rowbad_good hb' (hg j r' h hj)).elim
  · exact (rowbad_good hb (bg r (List.mem_of_getElem? hi))).elim
  · rfl
  · exact (rowbad_good hb' (ag r' (List.mem_of_getElem? hj))).elim
  · rfl
def Due (K : PySem.W.Frag) (H : Hp) (v : V) (x : Str) : Prop := ((∃ S, kindV H v S ∧ PySem.W.kitOne K (.type S) (.type "str") = some false) ∧ x = "NoText") ∨ ∃ s, v = .str s ∧ s.length ≤ 50000 ∧ ((x = "NoText" ∧ ∀ ps, ¬ FormG s ps) ∨ ∃ ps, FormG s ps ∧ ps.length ≤ 17 ∧ (∀ p ∈ ps, POk p) ∧ PDue ps x)
theorem due_sp {H : Hp} {v : V} {x : Str} {Q : VK} {E : XK} (h : Due K H v x) (q : ∀ H', Same H H' → E (.ref (clK K x)) none H') : spReadX K [v] H Q E := by
  rcases h with ⟨⟨S, hk, kt⟩, rfl⟩ | ⟨s, rfl, hs, ⟨rfl, no⟩ | ⟨ps, f, l17, ok, due⟩⟩
  · exact ⟨v, rfl, .inl ⟨S, hk, kt, q⟩⟩
  · exact ⟨_, rfl, .inr ⟨s, rfl, hs, fun _ => q, fun ps f => absurd f (no ps)⟩⟩
  · refine ⟨_, rfl, .inr ⟨s, rfl, hs, fun no => absurd f (no ps), fun ps' f' => ?_⟩⟩
    have e := form_one f f'
    subst e
    refine ⟨by omega, fun p hp => by have := (ok p hp).l; omega, ?_⟩
    rcases due with ⟨rfl, nn | ⟨p, hp, y, hy, no⟩⟩ | ⟨nd, inn, hb⟩
    · exact ⟨fun _ => q, fun nd => absurd nd nn, fun nd => absurd nd nn⟩
    · exact ⟨fun _ => q, fun _ _ => q, fun _ z => absurd (z p hp y hy) no⟩
    · exact ⟨fun nn => absurd nd nn, fun _ ⟨p, hp, y, hy, no⟩ => absurd (inn p hp y hy) no, fun _ _ => ⟨fun gd => absurd hb (good_not gd), fun x' hb' => by rw [gbad_one hb' hb]; exact q⟩⟩
theorem good_sp {H : Hp} {ps : List PTy} {Q : VK} {E : XK} (gp : GP ps) (hne : ps ≠ []) (h6 : ps.length ≤ 6) (hl : (textP (ps.map itP)).length ≤ 50000) (q : ∀ (p : Addr) (xs : List V) (H' : Hp), Same H H' → H' p = some (.tup xs) → Q (.ref p) H') : spReadX K [.str (textP (ps.map itP))] H Q E := by
  have f := form_is hne gp.ok
  refine ⟨_, rfl, .inr ⟨_, rfl, hl, fun no => absurd f (no ps), fun ps' f' => ?_⟩⟩
  have e := form_one f f'
  subst e
  have gd : GGood (rowsOf ps') := by
    refine ⟨by rw [rows_len]; omega, fun r hr => ?_, fun z => by have := z.1; rw [rows_len] at this; omega⟩
    obtain ⟨p, hp, rfl⟩ := List.mem_map.mp hr
    rw [rows_len, ← nms_len]
    exact row_good (gp.ok p hp).h (gp.ok p hp).r0 (gp.rk p hp) (gp.ne p hp) (gp.inn p hp)
  exact ⟨by omega, fun p hp => by have := (gp.ok p hp).l; omega, fun nn => absurd gp.nd nn, fun _ ⟨p, hp, y, hy, no⟩ => absurd (gp.inn p hp y hy) no, fun _ _ => ⟨fun _ => q, fun x hb => absurd hb (good_not gd)⟩⟩
theorem kind_up {H H' : Hp} {v : V} {S : String} (s0 : Same H H') (hk : kindV H v S) : kindV H' v S := by
  cases v with
  | ref a =>
    rcases hk with ⟨e1, ⟨xs, hk⟩ | ⟨o, xs, hk⟩⟩ | ⟨e1, xs, hk⟩ | ⟨e1, kvs, hk⟩
    · exact .inl ⟨e1, .inl ⟨xs, s0 _ _ hk⟩⟩
    · exact .inl ⟨e1, .inr ⟨o, xs, s0 _ _ hk⟩⟩
    · exact .inr (.inl ⟨e1, xs, s0 _ _ hk⟩)
    · exact .inr (.inr ⟨e1, kvs, s0 _ _ hk⟩)
  | non => exact hk
  | bl b => exact hk
  | int i => exact hk
  | str z => exact hk
  | byt b => exact hk
  | flt b => exact hk
  | ty n => exact hk
theorem Due.up {H H' : Hp} {v : V} {x : Str} (due : Due K H v x) (s0 : Same H H') : Due K H' v x := by
  rcases due with ⟨⟨S, hk, kt⟩, e⟩ | z
  · exact .inl ⟨⟨S, kind_up s0 hk, kt⟩, e⟩
  · exact .inr z
def mk7 (x : Str) : List Bool := [true, decide (x = "NoText"), decide (x = "NoName"), decide (x = "NoRank"), decide (x = "NoWay"), decide (x = "TooMany"), decide (x = "NoHand")]
def spMarks (K : PySem.W.Frag) : Sp := fun vs H Q _ => ∃ (v : V) (x : Str), vs = [v] ∧ Due K H v x ∧ x ∈ xRs ∧ ∀ (p : Addr) (H' : Hp), Same H H' → H' p = some (.lst ((mk7 x).map V.bl)) → Q (.ref p) H'
theorem ok_marks (F : DefAt K mg "_law_marks" s_law_marks ["_law_line"]) (T : Txt mg) (XC : XT K mg "GarthError" xRs xNs) (D_read_game : DnX P w K mg base "read_game" 7 ["text"] (spReadX K)) : Dn P w K mg base "_law_marks" 8 ["_law_line"] (spMarks K) := by
  have sc := sc_law_marks
  refine F.ok sc (fun vs H Q E h => ?_) (fun f cdv A outer s H vs Q E hr h => ?_)
  · obtain ⟨_, _, rfl, _⟩ := h; rfl
  obtain ⟨v, x, rfl, due, hx, q⟩ := h
  refine ⟨_, (pss_cons (ps_set (i := 1) sc.nd rfl (Or.inl rfl) (pe_lst pa_nil))
      (pss_cons (ps_tryE (i := 2) D_read_game hr (pa_cons (pv 0) pa_nil) (XC.m "GarthError" (by decide)) (fun _ => (pss_cons (ps_set (i := 1) sc.nd rfl (Or.inl rfl) (pe_lst (pa_cons (pe_callB (call_isiVK (T := "ValueError") (K := K) rfl) rfl T.b_isinstance PyProof.Rows.boot_isinstance (pa_cons (pv 2) (pa_cons (pe_bltn (v := .ty "ValueError") rfl T.b_ValueError boot_VE rfl) pa_nil))) (pa_cons (pe_callB (call_isiEK (K := K) rfl) rfl T.b_isinstance PyProof.Rows.boot_isinstance (pa_cons (pv 2) (pa_cons (pe_glob (v := .ref (clK K "NoText")) rfl (XC.m "NoText" (by decide)) rfl) pa_nil))) (pa_cons (pe_callB (call_isiEK (K := K) rfl) rfl T.b_isinstance PyProof.Rows.boot_isinstance (pa_cons (pv 2) (pa_cons (pe_glob (v := .ref (clK K "NoName")) rfl (XC.m "NoName" (by decide)) rfl) pa_nil))) (pa_cons (pe_callB (call_isiEK (K := K) rfl) rfl T.b_isinstance PyProof.Rows.boot_isinstance (pa_cons (pv 2) (pa_cons (pe_glob (v := .ref (clK K "NoRank")) rfl (XC.m "NoRank" (by decide)) rfl) pa_nil))) pa_nil))))))
      (pss_one (ps_set (i := 1) sc.nd rfl (Or.inl rfl) (pe_op op_cat (pv 1) (pe_lst (pa_cons (pe_callB (call_isiEK (K := K) rfl) rfl T.b_isinstance PyProof.Rows.boot_isinstance (pa_cons (pv 2) (pa_cons (pe_glob (v := .ref (clK K "NoWay")) rfl (XC.m "NoWay" (by decide)) rfl) pa_nil))) (pa_cons (pe_callB (call_isiEK (K := K) rfl) rfl T.b_isinstance PyProof.Rows.boot_isinstance (pa_cons (pv 2) (pa_cons (pe_glob (v := .ref (clK K "TooMany")) rfl (XC.m "TooMany" (by decide)) rfl) pa_nil))) (pa_cons (pe_callB (call_isiEK (K := K) rfl) rfl T.b_isinstance PyProof.Rows.boot_isinstance (pa_cons (pv 2) (pa_cons (pe_glob (v := .ref (clK K "NoHand")) rfl (XC.m "NoHand" (by decide)) rfl) pa_nil))) pa_nil))))))))) sc.nd rfl rfl)
      (pss_one (ps_ret (pv 1))))), ?_⟩
  refine ⟨Nat.zero_le _, fun p0 h0 => ?_⟩
  have s0 := same_upd h0 (.lst [])
  have due' := due.up s0
  generalize upd H p0 (.lst []) = H0 at s0 due' ⊢
  refine ⟨_, rfl, ?_⟩
  unfold tNil
  refine due_sp due' fun H1 s1 => ?_
  refine ⟨_, rfl, XC.hit x hx, fun ea hea => ?_⟩
  have he : upd H1 ea (xcO ea (clK K x)) ea = some (xcO ea (clK K x)) := upd_same
  have s2 := s0.trans (s1.trans (same_upd hea (xcO ea (clK K x))))
  generalize upd H1 ea (xcO ea (clK K x)) = H2 at he s2 ⊢
  have k := XC.k x hx
  refine ⟨_, rfl, ea, _, _, rfl, he, k, XC.val x hx, _, rfl, ea, _, _, _, rfl, he, k, XC.one x hx "NoText" (by decide), _, rfl, ea, _, _, _, rfl, he, k, XC.one x hx "NoName" (by decide), _, rfl, ea, _, _, _, rfl, he, k, XC.one x hx "NoRank" (by decide), (by show 4 ≤ sizeLine; decide), fun p1 h1 => ?_⟩
  have s3 := same_upd h1 (.lst [V.bl true, .bl (decide (x = "NoText")), .bl (decide (x = "NoName")), .bl (decide (x = "NoRank"))])
  have k3 : upd H2 p1 (.lst [V.bl true, .bl (decide (x = "NoText")), .bl (decide (x = "NoName")), .bl (decide (x = "NoRank"))]) p1 = some (.lst [V.bl true, .bl (decide (x = "NoText")), .bl (decide (x = "NoName")), .bl (decide (x = "NoRank"))]) := upd_same
  replace he := s3 _ _ he
  replace s3 := s2.trans s3
  generalize upd H2 p1 (.lst [V.bl true, .bl (decide (x = "NoText")), .bl (decide (x = "NoName")), .bl (decide (x = "NoRank"))]) = H3 at s3 k3 he ⊢
  refine ⟨_, rfl, _, rfl, ea, _, _, _, rfl, he, k, XC.one x hx "NoWay" (by decide), _, rfl, ea, _, _, _, rfl, he, k, XC.one x hx "TooMany" (by decide), _, rfl, ea, _, _, _, rfl, he, k, XC.one x hx "NoHand" (by decide), (by show 3 ≤ sizeLine; decide), fun p2 h2 => ?_⟩
  refine ⟨p1, p2, _, _, rfl, rfl, same_upd h2 _ _ _ k3, upd_same, (by show 7 ≤ sizeLine; decide), fun p3 h3 => ?_⟩
  exact ⟨_, rfl, q p3 _ (s3.trans ((same_upd h2 _).trans (same_upd h3 _))) upd_same⟩
def PreDue (K : PySem.W.Frag) (H : Hp) (v : V) (x : Str) : Prop := ((∃ S, kindV H v S ∧ PySem.W.kitOne K (.type S) (.type "str") = some false) ∧ x = "NoText") ∨ ∃ s, v = .str s ∧ s.length ≤ 20000 ∧ ((x = "NoText" ∧ BadT s) ∨ ∃ ps, s = textP (ps.map itP) ∧ ps ≠ [] ∧ ps.length ≤ 17 ∧ (∀ p ∈ ps, POk p) ∧ PDue ps x)
theorem pre_due {H : Hp} {v : V} {x : Str} (h : PreDue K H v x) : Due K H v x := by
  rcases h with z | ⟨s, e, hs, ⟨rfl, b⟩ | ⟨ps, rfl, hne, l17, ok, due⟩⟩
  · exact .inl z
  · exact .inr ⟨s, e, by omega, .inl ⟨rfl, badT_no b⟩⟩
  · exact .inr ⟨_, e, by omega, .inr ⟨ps, form_is hne ok, l17, ok, due⟩⟩
theorem pre_suf {s t : Str} {H : Hp} {x : Str} (h : PreDue K H (.str s) x) (ht : t ∈ bad6) : ∀ ps, ¬ FormG (s ++ "; " ++ t) ps := by
  have el : ("; " ++ t : Str).cps.toList = 59 :: 32 :: t.cps.toList := by rw [app_list]; rfl
  have e1 : (s ++ "; " ++ t).cps.toList = s.cps.toList ++ (59 :: 32 :: t.cps.toList) := by rw [app_list, app_list, List.append_assoc]; rfl
  have ea : s ++ "; " ++ t = s ++ ("; " ++ t) := (str_list e1).trans (str_list (by rw [app_list, el])).symm
  rw [ea]
  rcases h with ⟨⟨S, hk, kt⟩, _⟩ | ⟨s', e, _, ⟨_, b⟩ | ⟨ps, rfl, hne, _, ok, _⟩⟩
  · have : S = "str" := hk
    subst this
    rw [isi_same] at kt
    cases kt
  · injection e with e
    subst e
    exact badT_end b (by rw [el]; exact .inr ⟨_, rfl⟩)
  · injection e with e
    subst e
    refine no_form ?_
    rw [app_list, rung_app, el, rung_cons, midG_59 (line_mid hne ok (.inl rfl)), rung_cons]
    show accG (runG .t1 t.cps.toList) = false
    rw [(bad6_ok t ht).1]; rfl
def spLaw (K : PySem.W.Frag) : Sp := fun vs H Q _ => ∃ (a : Addr) (ns : List Int), vs = [.ref a] ∧ SqL K H a (ns.map V.int) ∧ ns.length ≤ 63 ∧ ∀ H', Q (.bl true) H'
theorem ok_law {f : Addr} {fd : FuncData} (F : Fun K "law" "law" s_law f fd) (T : Txt mg) (D_read_game : DnX P w K mg base "read_game" 7 ["text"] (spReadX K)) (D_law_cell_at : Dn P w K mg base "_law_cell_at" 1 ["_law_script", "_law_k"] (spCell K)) (D_law_parts : Dn P w K mg base "_law_parts" 2 ["_law_script", "_law_many_here"] (spParts K)) (D_law_text : Dn P w K mg base "_law_text" 1 ["_law_parts_here"] (spText K)) (D_law_spoiled_text : Dn P w K mg base "_law_spoiled_text" 2 ["_law_parts_here", "_law_kind", "_law_cell"] (spSpT K)) (D_law_spoiled_rows : Dn P w K mg base "_law_spoiled_rows" 2 ["_law_parts_here", "_law_kind", "_law_cell"] (spSpR K)) (D_law_many : Dn P w K mg base "_law_many" 1 ["_law_parts_here", "_law_kind", "_law_cell"] (spMany K)) (D_law_marks : Dn P w K mg base "_law_marks" 8 ["_law_line"] (spMarks K)) : FnOk P w K mg base CX0 9 f fd ["_law_script"] (spLaw K) := by
  have sc := sc_law
  refine F.ok sc (fun vs H Q E h => ?_) (fun cdv A outer s H vs Q E hr h => ?_)
  · obtain ⟨_, _, rfl, _⟩ := h; rfl
  obtain ⟨sa, ns, rfl, hS, h63, q⟩ := h
  refine ⟨_, (pss_cons (ps_set (i := 1) sc.nd rfl (Or.inl rfl) (pe_op op_mod (pe_op op_mul (pe_dn D_law_cell_at hr (pa_cons (pv 0) (pa_cons pe_int pa_nil))) pe_int) pe_int))
      (pss_cons (ps_set (i := 2) sc.nd rfl (Or.inl rfl) (pe_dn D_law_parts hr (pa_cons (pv 0) (pa_cons (pe_op op_add pe_int (pe_op op_mod (pv 1) pe_int)) pa_nil))))
      (pss_cons (ps_set (i := 3) sc.nd rfl (Or.inl rfl) (pe_dn D_law_text hr (pa_cons (pv 2) pa_nil)))
      (pss_cons (ps_set (i := 4) sc.nd rfl (Or.inl rfl) (pe_op op_mod (pe_op op_fdiv (pv 1) pe_int) pe_int))
      (pss_cons (ps_set (i := 1) sc.nd rfl (Or.inl rfl) (pe_op op_mod (pe_op op_mul (pe_dn D_law_cell_at hr (pa_cons (pv 0) (pa_cons pe_int pa_nil))) pe_int) pe_int))
      (pss_cons (ps_set (i := 5) sc.nd rfl (Or.inr rfl) pe_str)
      (pss_cons (ps_set (i := 6) sc.nd rfl (Or.inl rfl) pe_non)
      (pss_cut (ps_if (pt_cmpR op_lt (pv 4) pe_int (nomark _))
      (pss_one (ps_set (i := 6) sc.nd rfl (Or.inl rfl) (pe_dn D_law_spoiled_text hr (pa_cons (pv 2) (pa_cons (pv 4) (pa_cons (pv 1) pa_nil))))))
      (pss_one (ps_if (pt_cmpR op_lt (pv 4) pe_int (nomark _))
      (pss_cons (ps_set (i := 5) sc.nd rfl (Or.inr rfl) (pe_dn D_law_spoiled_rows hr (pa_cons (pv 2) (pa_cons (pv 4) (pa_cons (pv 1) pa_nil)))))
      (pss_one (ps_set (i := 6) sc.nd rfl (Or.inl rfl) (pe_dn D_law_text hr (pa_cons (pv 2) pa_nil)))))
      (pss_cons (ps_set (i := 5) sc.nd rfl (Or.inr rfl) (pe_dn D_law_many hr (pa_cons (pv 2) (pa_cons (pv 4) (pa_cons (pv 1) pa_nil)))))
      (pss_one (ps_set (i := 6) sc.nd rfl (Or.inl rfl) (pe_dn D_law_text hr (pa_cons (pv 2) pa_nil))))))))
      (pss_cons (ps_set (i := 7) sc.nd rfl (Or.inl rfl) (pe_op op_mod (pe_dn D_law_cell_at hr (pa_cons (pv 0) (pa_cons pe_int pa_nil))) pe_int))
      (pss_cut (ps_if (PW.pt (pw_and (pt_cmpR op_eq (pv 7) pe_int (nomark _)) (pw_and1 (pt_val (pe_callB (clIsi (K := K) rfl (T := "str")) rfl T.b_isinstance PyProof.Rows.boot_isinstance (pa_cons (pv 6) (pa_cons (pe_bltn (v := .ty "str") rfl T.b_str PyProof.Rows.boot_str rfl) pa_nil)))))))
      (pss_cons (ps_set (i := 6) sc.nd rfl (Or.inl rfl) (pe_op op_add_str (pe_op op_add_str (pv 6) pe_str) (pe_ix (ixL (K := K) rfl) (pe_lst (pa_cons pe_str (pa_cons pe_str (pa_cons pe_str (pa_cons pe_str pa_nil))))) (pe_op op_mod (pe_op op_fdiv (pe_dn D_law_cell_at hr (pa_cons (pv 0) (pa_cons pe_int pa_nil))) pe_int) pe_int) (fun _ _ => rfl))))
      (pss_one (ps_set (i := 5) sc.nd rfl (Or.inr rfl) pe_str)))
      pss_nil)
      (pss_cons (ps_set (i := 8) sc.nd rfl (Or.inl rfl) (pe_strs (Lits.cons (Lits.cons (Lits.cons (Lits.cons (Lits.cons Lits.nil)))))))
      (pss_cons (ps_if (pt_cmpR (op_neR (rcok_lst eqok_bool) (hu_n hr 1)) (pe_dn D_law_marks hr (pa_cons (pv 6) pa_nil)) (pe_op op_cat (pe_op op_cat (pe_lst (pa_cons pe_bl pa_nil)) (pe_lc (defScope s_law) ["_law_script", "_law_cell", "_law_parts_here", "_law_good", "_law_kind", "_law_due", "_law_line", "_law_more", "_law_words"] ["_law_word", "_law_due"] 1 [5] (pi_list (pv 8)) (fun _ _ _ _ _ _ => (ptg_name (show List.Nodup (["_law_word", "_law_due"] : List Str) by decide +kernel) rfl rfl)) (fun _ _ _ _ _ _ => pts_nil) (fun _ _ _ _ _ _ => (pe_cmpR op_eq (pv 0) (pv 1) (nomark _))))) (pe_lst (pa_cons pe_bl pa_nil))) (nomark _))
      (pss_one (ps_ret pe_bl))
      pss_nil)
      (pss_one (ps_ret (pe_callB (clIsi (K := K) rfl (T := "tuple")) rfl T.b_isinstance PyProof.Rows.boot_isinstance (pa_cons (pe_dnX passX0 D_read_game hr (pa_cons (pv 3) pa_nil)) (pa_cons (pe_bltn (v := .ty "tuple") rfl T.b_tuple PyProof.Rows.boot_tuple rfl) pa_nil))))))))))))))))), ?_⟩
  refine ⟨_, rfl, sa, ns, 0, rfl, hS, h63, by decide, fun z0 => ⟨_, _, rfl, rfl, .inr ⟨by decide, by decide⟩, _, _, rfl, rfl, (show (0 : Int) < 65537 by decide), ?_⟩⟩
  have cb0 : 0 ≤ z0 * 48271 % 65537 ∧ z0 * 48271 % 65537 < 65537 := ⟨Int.emod_nonneg _ (by decide), Int.emod_lt_of_pos _ (by decide)⟩
  generalize hc : z0 * 48271 % 65537 = cell at cb0
  replace hc : (fun i j : Int => V.int (i % j)) (z0 * 48271) 65537 = V.int cell := by rw [← hc]
  rw [hc]
  clear hc
  have m5 : 0 ≤ cell % 5 ∧ cell % 5 < 5 := ⟨Int.emod_nonneg _ (by decide), Int.emod_lt_of_pos _ (by decide)⟩
  refine ⟨_, rfl, _, rfl, _, _, rfl, rfl, (show (0 : Int) < 5 by decide), _, _, rfl, rfl, sa, ns, 2 + cell % 5, rfl, hS, h63, by omega, by omega, fun g as ps H1 s1 hW hg0 has pl gp => ?_⟩
  have pl2 : 2 ≤ ps.length ∧ ps.length ≤ 6 := by omega
  have pne : ps ≠ [] := fun e => by rw [e] at pl2; simp at pl2
  have txf : ∀ {qs : List PTy}, (∀ p ∈ qs, POk p) → ∀ w ∈ qs.map itP, w.length ≤ 5 ∧ ∀ x ∈ w, x.length ≤ 20 := fun h w hw => by
    obtain ⟨p, hp, rfl⟩ := List.mem_map.mp hw
    exact itp_few (h p hp)
  refine ⟨_, rfl, _, _, rfl, hW.rel, by rw [List.length_map]; omega, txf gp.ok, fun H2 s2 gl => ?_⟩
  replace hW := hW.up s2
  have s02 := s1.trans s2
  have keep : ∀ {H3 : Hp} {as' : List Addr}, (∀ x ∈ as', x ∈ as) → Keep as' g H2 H3 → Same H H3 := fun {H3 as'} hs k b o e => k b o (fun z => by rw [z, hg0] at e; cases e) (fun z => by rw [has b (hs b z)] at e; cases e) (s02 _ _ e)
  refine ⟨_, rfl, _, _, rfl, rfl, ⟨by decide, by decide⟩, _, _, rfl, rfl, (show (0 : Int) < 17 by decide), ?_⟩
  have kb : 0 ≤ cell / 5 % 17 ∧ cell / 5 % 17 < 17 := ⟨Int.emod_nonneg _ (by decide), Int.emod_lt_of_pos _ (by decide)⟩
  generalize hk : cell / 5 % 17 = kind at kb
  replace hk : (fun i j : Int => V.int (i % j)) (cell / 5) 17 = V.int kind := by rw [← hk]
  rw [hk]
  clear hk
  refine ⟨_, rfl, sa, ns, 2, rfl, s02.seq hS, h63, by decide, fun z1 => ⟨_, _, rfl, rfl, .inr ⟨by decide, by decide⟩, _, _, rfl, rfl, (show (0 : Int) < 65521 by decide), ?_⟩⟩
  have cb : 0 ≤ z1 * 30011 % 65521 ∧ z1 * 30011 % 65521 < 65521 := ⟨Int.emod_nonneg _ (by decide), Int.emod_lt_of_pos _ (by decide)⟩
  generalize hc : z1 * 30011 % 65521 = c at cb
  replace hc : (fun i j : Int => V.int (i % j)) (z1 * 30011) 65521 = V.int c := by rw [← hc]
  rw [hc]
  clear hc
  refine ⟨fun σ' H3 => ∃ (v : V) (x : Str), σ' = [some (.ref sa), some (.int c), some (.ref g), some (.str (textP (ps.map itP))), some (.int kind), some (.str x), some v, none, none] ∧ Same H H3 ∧ PreDue K H3 v x ∧ x ∈ x5, ?_, ?_⟩
  · refine ⟨_, rfl, _, _, rfl, rfl, _, rfl, ?_⟩
    refine ite2 (fun cc => ?_) (fun cc => ?_)
    · have c' : kind < 7 := of_decide_eq_true cc
      refine ⟨_, rfl, _, rfl, _, rfl, g, as, kind, c, ps, rfl, hW, gp, pl2.1, pl2.2, kb.1, c', cb.1, cb.2, fun v H3 bv kp => ?_⟩
      refine ⟨v, "NoText", rfl, keep (fun _ z => z) kp, ?_, by decide⟩
      rcases bv with bv | ⟨s, e, hs, b⟩
      · exact .inl ⟨bv, rfl⟩
      · exact .inr ⟨s, e, hs, .inl ⟨rfl, b⟩⟩
    have c7 : ¬ kind < 7 := fun z => cc (decide_eq_true z)
    refine ⟨_, rfl, _, _, rfl, rfl, _, rfl, ?_⟩
    refine ite2 (fun cc => ?_) (fun cc => ?_)
    · have c' : kind < 15 := of_decide_eq_true cc
      refine ⟨_, rfl, _, rfl, _, rfl, g, as, kind, c, ps, rfl, hW, gp, pl2.1, pl2.2, by omega, c', cb.1, cb.2, fun qs x H3 hW3 ql ok due hx kp => ?_⟩
      refine ⟨_, rfl, _, _, rfl, hW3.rel, by rw [List.length_map]; omega, txf ok, fun H4 s4 tl => ?_⟩
      exact ⟨_, x, rfl, (keep (fun _ z => z) kp).trans s4, .inr ⟨_, rfl, by omega, .inr ⟨qs, rfl, fun e => by rw [e] at ql; simp at ql; omega, by omega, ok, due⟩⟩, hx⟩
    · have c15 : ¬ kind < 15 := fun z => cc (decide_eq_true z)
      refine ⟨_, rfl, _, rfl, _, rfl, g, _, kind, c, rfl, hW.hg, by omega, cb.1, cb.2, fun as' qs x H3 hW3 ql ok due hx kp => ?_⟩
      refine ⟨_, rfl, _, _, rfl, hW3.rel, by rw [List.length_map]; omega, txf ok, fun H4 s4 tl => ?_⟩
      exact ⟨_, x, rfl, (keep (fun _ z => by cases z) kp).trans s4, .inr ⟨_, rfl, by omega, .inr ⟨qs, rfl, fun e => by rw [e] at ql; simp at ql, by omega, ok, due⟩⟩, hx⟩
  rintro σ' H3 ⟨v, x, rfl, s3, pre, hx⟩
  clear hW
  refine ⟨_, rfl, sa, ns, 3, rfl, s3.seq hS, h63, by decide, fun z2 => ⟨_, _, rfl, rfl, (show (0 : Int) < 4 by decide), ?_⟩⟩
  refine ⟨fun σ' H4 => ∃ (v : V) (x : Str), σ' = [some (.ref sa), some (.int c), some (.ref g), some (.str (textP (ps.map itP))), some (.int kind), some (.str x), some v, some (.int (z2 % 4)), none] ∧ Same H H4 ∧ Due K H4 v x ∧ x ∈ x5, ?_, ?_⟩
  · refine ⟨_, rfl, rfl, _, rfl, ?_⟩
    rw [de]
    refine ite2 (fun cc => ?_) (fun cc => ?_)
    rotate_left
    · refine iteF ?_
      exact ⟨v, x, rfl, s3, pre_due pre, hx⟩
    rcases id pre with ⟨⟨S, hk, kt⟩, _⟩ | ⟨s, rfl, hs, _⟩
    · refine ⟨_, rfl, _, S, _, rfl, hk, kt, false, rfl, ?_⟩
      refine iteF ?_
      exact ⟨v, x, rfl, s3, pre_due pre, hx⟩
    · refine ⟨_, rfl, _, "str", _, rfl, rfl, isi_same _, true, rfl, ?_⟩
      refine iteT ?_
      have e2 : ("; " : Str).length = 2 := by decide +kernel
      refine ⟨_, rfl, _, _, rfl, rfl, small (m := 100000) (by rw [e2]; omega), (by show 4 ≤ sizeLine; decide), fun wp hwp => ?_⟩
      have s4 := s3.trans (same_upd hwp (.lst (bad6.map V.str)))
      have k4 : upd H3 wp (.lst (bad6.map V.str)) wp = some (.lst (bad6.map V.str)) := upd_same
      generalize hH4 : upd H3 wp (.lst (bad6.map V.str)) = H4 at s4 k4
      rw [show upd H3 wp (.lst [V.str "A+1 a", .str "a+01 a", .str "a3 a", .str "a+3  a"]) = H4 from hH4]
      refine ⟨_, rfl, sa, ns, 3, rfl, s4.seq hS, h63, by decide, fun z3 => ?_⟩
      obtain ⟨t, ht, hm, _⟩ := pick (l := bad6) (n := z3 / 4 % 4) (Int.emod_nonneg _ (by decide)) (Int.emod_lt_of_pos _ (by decide))
      have t2 := (bad6_ok t hm).2
      refine ⟨_, _, rfl, rfl, ⟨by decide, by decide⟩, _, _, rfl, rfl, (show (0 : Int) < 4 by decide), wp, _, _, .str t, rfl, rfl, SqL.of k4, ht, _, _, rfl, rfl, small (m := 100000) (by rw [app_len, e2]; omega), ?_⟩
      exact ⟨.str (s ++ "; " ++ t), "NoText", rfl, s4, .inr ⟨_, rfl, by rw [app_len, app_len, e2]; omega, .inl ⟨rfl, pre_suf pre hm⟩⟩, by decide⟩
  clear pre hx s3
  rintro σ' H4 ⟨v, x, rfl, s4, due, hx⟩
  obtain ⟨hx1, hx2⟩ := x5_in hx
  refine ⟨(by show 5 ≤ sizeLine; decide), fun wp hwp => ?_⟩
  have k5 : upd H4 wp (.lst (x5.map V.str)) wp = some (.lst (x5.map V.str)) := upd_same
  have due5 := due.up (same_upd hwp (.lst (x5.map V.str)))
  generalize upd H4 wp (.lst (x5.map V.str)) = H5 at k5 due5 ⊢
  refine ⟨_, rfl, v, x, rfl, due5, hx1, fun p H6 s6 kp => ?_⟩
  replace k5 := s6 _ _ k5
  refine ⟨(by show 1 ≤ sizeLine; decide), fun p1 h1 => ?_⟩
  have s7 := same_upd h1 (.lst [V.bl true])
  have k7 : upd H6 p1 (.lst [V.bl true]) p1 = some (.lst [V.bl true]) := upd_same
  replace k5 := s7 _ _ k5
  replace kp := s7 _ _ kp
  generalize upd H6 p1 (.lst [V.bl true]) = H7 at s7 k7 k5 kp ⊢
  refine ⟨_, rfl, wp, rfl, ⟨_, SqL.of k5⟩, comp_listD (K := K) (a := wp) (xs := x5.map V.str) (fun i ys H3 => H3 = H7 ∧ ys = ((x5.take i).map fun w => decide (x = w)).map V.bl) ⟨rfl, rfl⟩ (small (m := 1000) (by show 5 ≤ 1000; decide)) (fun i ys H3 hi h => ?_) (fun i u ys H3 hi h => ?_) (fun ys H3 h lb hlb => ?_)⟩
  · obtain ⟨rfl, rfl⟩ := h
    exact ⟨SqL.of k5, by rw [List.length_map, List.length_map, List.length_take]; exact Nat.min_le_left _ _⟩
  · obtain ⟨rfl, rfl⟩ := h
    rw [List.getElem?_map] at hi
    obtain ⟨t, ht, rfl⟩ : ∃ t, x5[i]? = some t ∧ u = V.str t := by
      cases e : x5[i]? with
      | none => rw [e] at hi; cases hi
      | some z => rw [e] at hi; cases hi; exact ⟨z, rfl, rfl⟩
    refine comp_yes ⟨_, rfl, _, rfl, rfl, rfl, ?_⟩
    rw [List.take_add_one, ht, List.map_append, List.map_append, sw]
    have : decide (t = x) = decide (x = t) := by rw [Bool.eq_iff_iff, decide_eq_true_eq, decide_eq_true_eq]; exact eq_comm
    rw [this]; rfl
  obtain ⟨rfl, rfl⟩ := h
  have s8 := same_upd hlb (.lst ((x5.map fun w => decide (x = w)).map V.bl))
  have k8 : upd H3 lb (.lst ((x5.map fun w => decide (x = w)).map V.bl)) lb = some (.lst ((x5.map fun w => decide (x = w)).map V.bl)) := upd_same
  replace k7 := s8 _ _ k7
  replace kp := s8 _ _ kp
  refine ⟨p1, lb, _, _, rfl, rfl, k7, k8, (by show 6 ≤ sizeLine; decide), fun p2 h2 => ?_⟩
  have s9 := same_upd h2 (.lst ([V.bl true] ++ (x5.map fun w => decide (x = w)).map V.bl))
  have kp9 := s9 _ _ kp
  refine ⟨(by show 1 ≤ sizeLine; decide), fun p3 h3 => ?_⟩
  refine ⟨p2, p3, _, _, rfl, rfl, same_upd h3 _ _ _ upd_same, upd_same, (by show 7 ≤ sizeLine; decide), fun p4 h4 => ?_⟩
  have kp' := ((same_upd h3 (.lst [V.bl false])).trans (same_upd h4 (.lst (([V.bl true] ++ (x5.map fun w => decide (x = w)).map V.bl) ++ [V.bl false])))) _ _ kp9
  have e7 : ([V.bl true] ++ (x5.map fun w => decide (x = w)).map V.bl) ++ [V.bl false] = (mk7 x).map V.bl := by
    unfold mk7
    rw [decide_eq_false hx2]; rfl
  refine ⟨mk7 x, ⟨p, _, rfl, kp', paired_map (F := rBool _) (f := V.bl) (fun _ => rfl) _⟩, ⟨p4, _, rfl, upd_same, by rw [e7]; exact paired_map (F := rBool _) (f := V.bl) (fun _ => rfl) (mk7 x)⟩, _, rfl, iteF ?_⟩
  refine ⟨_, rfl, ?_⟩
  unfold tNil
  refine good_sp gp pne pl2.2 (by omega) fun rp xs H9 s9 h9 => ?_
  exact ⟨_, "tuple", _, rfl, .inr (.inl ⟨rfl, _, h9⟩), isi_same _, q H9⟩
theorem main {f : Addr} {fd : FuncData} (T : Txt mg)
    (XC : XT K mg "GarthError" xRs xNs)
    (A_is_whole : DefAt K mg "is_whole" s_is_whole ["value"])
    (A_is_place : DefAt K mg "is_place" s_is_place ["value", "count"])
    (A_check_hand : DefAt K mg "check_hand" s_check_hand ["hand"])
    (A_check_rank : DefAt K mg "check_rank" s_check_rank ["rank"])
    (A_check_ways : DefAt K mg "check_ways" s_check_ways ["ways", "count"])
    (A_check_row : DefAt K mg "check_row" s_check_row ["row", "count"])
    (A_check_rows : DefAt K mg "check_rows" s_check_rows ["rows"])
    (A_game_of : DefAt K mg "game_of" s_game_of ["rows"])
    (A_is_made_of : DefAt K mg "is_made_of" s_is_made_of ["word", "signs", "most"])
    (A_is_name : DefAt K mg "is_name" s_is_name ["word"])
    (A_is_figures : DefAt K mg "is_figures" s_is_figures ["word", "most"])
    (A_is_number : DefAt K mg "is_number" s_is_number ["word"])
    (A_check_form : DefAt K mg "check_form" s_check_form ["right"])
    (A_places_told : DefAt K mg "places_told" s_places_told ["text"])
    (A_read_head : DefAt K mg "read_head" s_read_head ["word"])
    (A_read_place : DefAt K mg "read_place" s_read_place ["text"])
    (A_numbered : DefAt K mg "numbered" s_numbered ["names"])
    (A_number_of : DefAt K mg "number_of" s_number_of ["numbers", "name"])
    (A_read_game : DefAt K mg "read_game" s_read_game ["text"])
    (A_law_cell_at : DefAt K mg "_law_cell_at" s_law_cell_at ["_law_script", "_law_k"])
    (A_law_parts : DefAt K mg "_law_parts" s_law_parts ["_law_script", "_law_many_here"])
    (A_law_text : DefAt K mg "_law_text" s_law_text ["_law_parts_here"])
    (A_law_fresh : DefAt K mg "_law_fresh" s_law_fresh ["_law_parts_here"])
    (A_law_spoiled_text : DefAt K mg "_law_spoiled_text" s_law_spoiled_text ["_law_parts_here", "_law_kind", "_law_cell"])
    (A_law_spoiled_rows : DefAt K mg "_law_spoiled_rows" s_law_spoiled_rows ["_law_parts_here", "_law_kind", "_law_cell"])
    (A_law_many : DefAt K mg "_law_many" s_law_many ["_law_parts_here", "_law_kind", "_law_cell"])
    (A_law_marks : DefAt K mg "_law_marks" s_law_marks ["_law_line"])
    (F : Fun K "law" "law" s_law f fd) : FnOk P w K mg base CX0 9 f fd ["_law_script"] (spLaw K) := by
  have wh := ok_is_whole (P := P) (w := w) (base := base) A_is_whole T
  have pl := ok_is_place A_is_place T wh
  have go := ok_game_of A_game_of T XC (ok_check_rows A_check_rows T XC (ok_check_row A_check_row T XC (ok_check_hand A_check_hand T XC wh) (ok_check_rank A_check_rank T XC wh) (ok_check_ways A_check_ways T XC pl)))
  have md := ok_made (P := P) (w := w) (base := base) A_is_made_of T
  have nm := ok_name A_is_name T md
  have nu := ok_num A_is_number T (ok_fig A_is_figures T md)
  have fo := ok_formX (P := P) (w := w) (base := base) A_check_form T XC
  have rg := ok_readX A_read_game T (ok_toldX A_places_told T fo) (ok_placeX A_read_place T (ok_headX A_read_head T fo nm) fo nu nm) (ok_numberedX A_numbered T XC) (ok_numofX A_number_of T XC) go
  have ce := ok_cell (P := P) (w := w) (base := base) A_law_cell_at T
  have te := ok_text (P := P) (w := w) (base := base) A_law_text T
  exact ok_law F T rg ce (ok_parts A_law_parts T ce) te (ok_spT A_law_spoiled_text T te) (ok_spR A_law_spoiled_rows T (ok_fresh A_law_fresh T)) (ok_many A_law_many T) (ok_marks A_law_marks T XC rg)
end
def askedOf := ({ ks := [(.df "is_whole", s_is_whole, none), (.df "is_place", s_is_place, none), (.df "check_hand", s_check_hand, none), (.df "check_rank", s_check_rank, none), (.df "check_ways", s_check_ways, none), (.df "check_row", s_check_row, none), (.df "check_rows", s_check_rows, none), (.df "game_of", s_game_of, none), (.df "is_made_of", s_is_made_of, none), (.df "is_name", s_is_name, none), (.df "is_figures", s_is_figures, none), (.df "is_number", s_is_number, none), (.df "check_form", s_check_form, none), (.df "places_told", s_places_told, none), (.df "read_head", s_read_head, none), (.df "read_place", s_read_place, none), (.df "numbered", s_numbered, none), (.df "number_of", s_number_of, none), (.df "read_game", s_read_game, none), (.df "_law_cell_at", s_law_cell_at, none), (.df "_law_parts", s_law_parts, none), (.df "_law_text", s_law_text, none), (.df "_law_fresh", s_law_fresh, none), (.df "_law_spoiled_text", s_law_spoiled_text, none), (.df "_law_spoiled_rows", s_law_spoiled_rows, none), (.df "_law_many", s_law_many, none), (.df "_law_marks", s_law_marks, none), (.df "law", s_law, none)], cs := [], is := [("GREATEST_LOW_RANK", 2), ("GREATEST_RANK", 40), ("MOST_LETTERS", 8), ("MOST_NUMBER_FIGURES", 9), ("MOST_PLACES", 160), ("MOST_RANKED_PLACES", 16)], ss := [("FIGURES", "0123456789"), ("HAND_SIGNS", "+-"), ("LETTERS", "abcdefghijklmnopqrstuvwxyz")], bs := ["ValueError", "all", "bool", "dict", "enumerate", "int", "isinstance", "len", "max", "range", "set", "sorted", "str", "tuple"], xc := fun K => xcFacts K "GarthError" xRs xNs, ext := fun K => (()), extW := fun w => (()) } : Asked _)
theorem all_mk {P : Program} {w : World} {K : PySem.W.Frag} {h : Heap} {mg : Str → Option Value} {fa : Addr} (e : askedOf.Ok w K) (X : K.In h) (G : h.Ns mainGlobals mg) (hfa : mg "law" = some (.ref fa)) :
    ∃ fd : FuncData, (∀ (s : Shared) (v : Value), BindsTo s fd ⟨[v], []⟩ [("_law_script", v)]) ∧ ∀ base : Heap, K.In base → base.Ns mainGlobals mg → FnOk P w K mg base CX0 9 fa fd ["_law_script"] (spLaw K) := by
  have T : Txt mg := ⟨e.noneAt X G 0 rfl, e.noneAt X G 1 rfl, e.noneAt X G 2 rfl, e.noneAt X G 3 rfl, e.noneAt X G 4 rfl, e.noneAt X G 5 rfl, e.noneAt X G 6 rfl, e.noneAt X G 7 rfl, e.noneAt X G 8 rfl, e.noneAt X G 9 rfl, e.noneAt X G 10 rfl, e.noneAt X G 11 rfl, e.noneAt X G 12 rfl, e.noneAt X G 13 rfl, e.str X G 0 rfl, e.int X G 0 rfl, e.int X G 1 rfl, e.str X G 1 rfl, e.str X G 2 rfl, e.int X G 2 rfl, e.int X G 3 rfl, e.int X G 4 rfl, e.int X G 5 rfl⟩
  have XC := xt_of X G e.exc
  have A0 : DefAt K mg "is_whole" s_is_whole ["value"] := e.defAt X G 0 rfl (fun _ _ _ _ _ _ => L2.arg1 fun _ => rfl)
  have A1 : DefAt K mg "is_place" s_is_place ["value", "count"] := e.defAt X G 1 rfl (fun _ _ _ _ _ _ => L2.arg2 fun _ _ => rfl)
  have A2 : DefAt K mg "check_hand" s_check_hand ["hand"] := e.defAt X G 2 rfl (fun _ _ _ _ _ _ => L2.arg1 fun _ => rfl)
  have A3 : DefAt K mg "check_rank" s_check_rank ["rank"] := e.defAt X G 3 rfl (fun _ _ _ _ _ _ => L2.arg1 fun _ => rfl)
  have A4 : DefAt K mg "check_ways" s_check_ways ["ways", "count"] := e.defAt X G 4 rfl (fun _ _ _ _ _ _ => L2.arg2 fun _ _ => rfl)
  have A5 : DefAt K mg "check_row" s_check_row ["row", "count"] := e.defAt X G 5 rfl (fun _ _ _ _ _ _ => L2.arg2 fun _ _ => rfl)
  have A6 : DefAt K mg "check_rows" s_check_rows ["rows"] := e.defAt X G 6 rfl (fun _ _ _ _ _ _ => L2.arg1 fun _ => rfl)
  have A7 : DefAt K mg "game_of" s_game_of ["rows"] := e.defAt X G 7 rfl (fun _ _ _ _ _ _ => L2.arg1 fun _ => rfl)
  have A8 : DefAt K mg "is_made_of" s_is_made_of ["word", "signs", "most"] := e.defAt X G 8 rfl (fun _ _ _ _ _ _ => L2.arg3 fun _ _ _ => rfl)
  have A9 : DefAt K mg "is_name" s_is_name ["word"] := e.defAt X G 9 rfl (fun _ _ _ _ _ _ => L2.arg1 fun _ => rfl)
  have A10 : DefAt K mg "is_figures" s_is_figures ["word", "most"] := e.defAt X G 10 rfl (fun _ _ _ _ _ _ => L2.arg2 fun _ _ => rfl)
  have A11 : DefAt K mg "is_number" s_is_number ["word"] := e.defAt X G 11 rfl (fun _ _ _ _ _ _ => L2.arg1 fun _ => rfl)
  have A12 : DefAt K mg "check_form" s_check_form ["right"] := e.defAt X G 12 rfl (fun _ _ _ _ _ _ => L2.arg1 fun _ => rfl)
  have A13 : DefAt K mg "places_told" s_places_told ["text"] := e.defAt X G 13 rfl (fun _ _ _ _ _ _ => L2.arg1 fun _ => rfl)
  have A14 : DefAt K mg "read_head" s_read_head ["word"] := e.defAt X G 14 rfl (fun _ _ _ _ _ _ => L2.arg1 fun _ => rfl)
  have A15 : DefAt K mg "read_place" s_read_place ["text"] := e.defAt X G 15 rfl (fun _ _ _ _ _ _ => L2.arg1 fun _ => rfl)
  have A16 : DefAt K mg "numbered" s_numbered ["names"] := e.defAt X G 16 rfl (fun _ _ _ _ _ _ => L2.arg1 fun _ => rfl)
  have A17 : DefAt K mg "number_of" s_number_of ["numbers", "name"] := e.defAt X G 17 rfl (fun _ _ _ _ _ _ => L2.arg2 fun _ _ => rfl)
  have A18 : DefAt K mg "read_game" s_read_game ["text"] := e.defAt X G 18 rfl (fun _ _ _ _ _ _ => L2.arg1 fun _ => rfl)
  have A19 : DefAt K mg "_law_cell_at" s_law_cell_at ["_law_script", "_law_k"] := e.defAt X G 19 rfl (fun _ _ _ _ _ _ => L2.arg2 fun _ _ => rfl)
  have A20 : DefAt K mg "_law_parts" s_law_parts ["_law_script", "_law_many_here"] := e.defAt X G 20 rfl (fun _ _ _ _ _ _ => L2.arg2 fun _ _ => rfl)
  have A21 : DefAt K mg "_law_text" s_law_text ["_law_parts_here"] := e.defAt X G 21 rfl (fun _ _ _ _ _ _ => L2.arg1 fun _ => rfl)
  have A22 : DefAt K mg "_law_fresh" s_law_fresh ["_law_parts_here"] := e.defAt X G 22 rfl (fun _ _ _ _ _ _ => L2.arg1 fun _ => rfl)
  have A23 : DefAt K mg "_law_spoiled_text" s_law_spoiled_text ["_law_parts_here", "_law_kind", "_law_cell"] := e.defAt X G 23 rfl (fun _ _ _ _ _ _ => L2.arg3 fun _ _ _ => rfl)
  have A24 : DefAt K mg "_law_spoiled_rows" s_law_spoiled_rows ["_law_parts_here", "_law_kind", "_law_cell"] := e.defAt X G 24 rfl (fun _ _ _ _ _ _ => L2.arg3 fun _ _ _ => rfl)
  have A25 : DefAt K mg "_law_many" s_law_many ["_law_parts_here", "_law_kind", "_law_cell"] := e.defAt X G 25 rfl (fun _ _ _ _ _ _ => L2.arg3 fun _ _ _ => rfl)
  have A26 : DefAt K mg "_law_marks" s_law_marks ["_law_line"] := e.defAt X G 26 rfl (fun _ _ _ _ _ _ => L2.arg1 fun _ => rfl)
  obtain ⟨kV, doc, pm, an, cdv, ct, FL⟩ := e.law X G 27 rfl hfa
  exact ⟨_, fun s v => .of_eq rfl, fun base _ _ => main (P := P) (w := w) (base := base) T XC A0 A1 A2 A3 A4 A5 A6 A7 A8 A9 A10 A11 A12 A13 A14 A15 A16 A17 A18 A19 A20 A21 A22 A23 A24 A25 A26 FL⟩
def asL : List Nat := [0, 1, 2, 3, 4, 5, 6, 7, 8, 9, 10, 11, 12, 13, 14, 15, 22, 23, 24, 25, 28, 35, 36, 37, 40, 47, 48, 49, 52, 59, 60, 61, 64, 71, 72, 73, 76, 83, 84, 85, 88, 95, 96, 97, 100, 101, 102, 103, 104, 105, 106, 107, 108, 109, 110, 111, 112, 113, 114, 115, 116, 117, 118, 119, 120, 121, 122, 123, 124, 125, 126, 127, 128, 129, 130, 131, 132, 133, 134, 135, 136, 137, 138, 139, 140, 141, 142, 143, 144, 145, 146, 147, 148, 149, 150, 151, 152, 153, 154, 155, 156, 157, 158, 159, 160, 161, 162, 163, 164, 165, 166, 167, 168, 169, 170, 171, 172, 173, 174, 175, 176, 177, 178, 179, 180, 181, 182, 183, 184, 185, 186, 187, 188, 189, 190, 191, 192, 193, 194, 195, 196, 197, 198, 199, 200, 201, 202, 203, 204, 205, 206, 207, 208, 209, 210, 211, 212, 213, 214, 215, 216, 217, 218, 219, 220, 221, 222, 223, 224, 225, 226, 227, 228, 229, 230, 231, 232, 233, 234, 235, 236, 237, 238, 239, 240, 241, 242, 243, 244, 245, 246, 247, 248, 249, 250, 251, 252, 253, 254, 255, 256, 257, 258, 259, 260, 261, 262, 263, 264, 265, 266, 267, 268, 269, 270, 271, 272, 273, 274, 275]
def qV : Program := PySem.W.view PySem.Challenge.pw_rankgarth_k69_texts_of_games_refused [47]
def loV : List Str := (PySem.Challenge.pw_rankgarth_k69_texts_of_games_refused.main.scope.names.map (·.1)).filter fun x => !(x == "law")
def xtV (s : Shared) : Bool := PySem.W.xlAt qV [] s && PySem.W.recOk (PySem.W.RowW.records PySem.Challenge.rw_rankgarth_k69_texts_of_games_refused.row.toRowW) s
def dL : PySem.DefRec := ⟨"law", defArgs s_law, defBody s_law, defScope s_law, posOf s_law⟩
set_option maxHeartbeats 0
theorem head_open : PySem.W.opening PySem.Challenge.pw_rankgarth_k69_texts_of_games_refused = PySem.W.plainProg PySem.Challenge.pw_rankgarth_k69_texts_of_games_refused.main.scope.names := by kernel_rfl
theorem head_run (w : World) (os : OsState) : (topRunQ PySem.Challenge.pw_rankgarth_k69_texts_of_games_refused w 11 (some (.ref 6)) 4918 ⟨boot_tree w.params, 11, {}, Array.mk [], PySem.W.boot_drawn, PySem.W.boot_toks, os⟩ (PySem.W.topStub PySem.Challenge.pw_rankgarth_k69_texts_of_games_refused)).map (fun r => topLook PySem.Challenge.pw_rankgarth_k69_texts_of_games_refused qV loV xtV true (fun s => askedOf.look (partOf asL s.heap)) (PySem.W.boot_heap w.params) r.abs) = some (true, PySem.W.openGood qV loV, askedOf.want w) := by kernel_rfl
theorem head_left : PySem.W.LeftO PySem.Challenge.rw_rankgarth_k69_texts_of_games_refused.row.prog qV loV xtV (fun s => askedOf.look (partOf asL s.heap)) (fun w => askedOf.want w) 4918 :=
  left_tree (p := PySem.Challenge.pw_rankgarth_k69_texts_of_games_refused) (H₀ := PySem.W.boot_heap) (gs₀ := Array.mk []) (d₀ := PySem.W.boot_drawn) (k₀ := PySem.W.boot_toks) (m₀ := 11) (ann := some (.ref 6)) (M := 4918) (T₀ := boot_tree) (n₀ := 11) (life := {}) (PySem.W.boot_open head_open (by decide +kernel) fun s => by kernel_rfl) (fun w => by kernel_rfl) (fun P => by kernel_rfl) head_run (by decide +kernel)
end Law
open PySem PySem.W PyProof.Rows
set_option maxRecDepth 100000 in
set_option maxHeartbeats 0 in
theorem PySem.Challenge.cw_rankgarth_k69_texts_of_games_refused_holds : PySem.Challenge.rw_rankgarth_k69_texts_of_games_refused.Holds := by
  refine PySem.W.holds_law (by kernel_rfl) fun said => ?_
  refine PySem.W.holds_open (q := Law.qV) (loose := Law.loV) (Xt := Law.xtV) (XP := XL Law.qV []) (YP := fun w h => ∃ K : Frag, K.In h ∧ Law.askedOf.Ok w K) (d := Law.dL) (kwd := []) Law.head_left (fun w s e => ⟨_, L2.partOf_in _ _, e⟩) (fun w h h' y k => y.elim fun K z => ⟨K, z.1.keeps k, z.2⟩) (fun s e => xl_of s (Bool.and_eq_true_iff.mp e).1) XL.keeps (by kernel_rfl) (by kernel_rfl) (by kernel_rfl) (fun s e => recFacts_of (Bool.and_eq_true_iff.mp e).2) (by kernel_rfl) said (by kernel_rfl) ⟨rfl, rfl, rfl, rfl, rfl, by decide +kernel⟩ ?hw ?hc
  case hw => w_witness2
  case hc => exact L2.walk_ex (l := PySem.Challenge.rw_rankgarth_k69_texts_of_games_refused) (n := 63) (k := 9) (x := "_law_script") (nm := "law") (sp := Law.spLaw) rfl (by decide) (by kernel_rfl) ⟨rfl, by decide, by decide⟩ (by kernel_rfl) (fun w K mg fa h e X G hm => Law.all_mk e X G hm) (fun _ _ a ns hl _ hS => ⟨a, ns, rfl, hS, hl, fun _ => rfl⟩) fun _ _ _ _ z => z
