import PyProof.Rows.All
import Wide.All
import OpenK.AllK
import Wide.FinOn
import Lean
import PyProof.EqAt
import PyProof.EqKinds
import PyProof.TupleCall
import PyProof.NeKinds
import KE.KDictSum
import PyProof.Rows.SetFrom
import KE.KSortTup
import PySem.Challenge.RW_rankgarth_k70_texts_of_purse_games
set_option Elab.async false
set_option linter.all false
set_option maxRecDepth 100000
namespace L2
open PySem PySem.Spec PyProof.Rows
abbrev Key := Sum Int Str
def keyIs : Key → Value → Bool
  | .inl k, v => Value.isInt k v
  | .inr x, v => Value.isStrOf x v
def keyH (w : World) : Key → Int
  | .inl k => hashInt k
  | .inr x => hashStr w x
theorem keyIs_shape : ∀ {k : Key} {v : Value}, keyIs k v = true → (∃ i t, k = Sum.inl i ∧ v = Value.int i t) ∨ (∃ x t, k = Sum.inr x ∧ v = Value.str x t)
  | .inl i, v, h => by
    obtain ⟨t, e⟩ := Value.isInt_shape (k := i) (v := v) h
    exact .inl ⟨i, t, rfl, e⟩
  | .inr x, v, h => by
    obtain ⟨t, e⟩ := Value.isStrOf_shape (x := x) (v := v) h
    exact .inr ⟨x, t, rfl, e⟩
theorem keyIs_int (i : Int) (t : Tok) : keyIs (.inl i) (.int i t) = true := by simp [keyIs, Value.isInt]
theorem keyIs_str (x : Str) (t : Tok) : keyIs (.inr x) (.str x t) = true := by simp [keyIs, Value.isStrOf]
theorem key_ll (a b : Int) : decide ((Sum.inl a : Key) = Sum.inl b) = (a == b) := by
  by_cases e : a = b
  · subst e; simp
  · have h : ¬ (Sum.inl a : Key) = Sum.inl b := fun q => e (Sum.inl.inj q)
    rw [decide_eq_false h]
    exact (beq_eq_false_iff_ne.mpr e).symm
theorem key_rr (a b : Str) : decide ((Sum.inr a : Key) = Sum.inr b) = decide (a = b) := by
  by_cases e : a = b
  · subst e; simp
  · have h : ¬ (Sum.inr a : Key) = Sum.inr b := fun q => e (Sum.inr.inj q)
    rw [decide_eq_false h, decide_eq_false e]
theorem key_lr (a : Int) (b : Str) : decide ((Sum.inl a : Key) = Sum.inr b) = false := decide_eq_false (fun q => nomatch q)
theorem key_rl (a : Str) (b : Int) : decide ((Sum.inr a : Key) = Sum.inl b) = false := decide_eq_false (fun q => nomatch q)
def mixKind (prog : Program) (w : World) : PySem.KeyKind prog w Key where
  is := keyIs
  hash := keyH w
  inj := fun v a b ha hb => by
    rcases keyIs_shape ha with ⟨i, t, rfl, rfl⟩ | ⟨x, t, rfl, rfl⟩
    · rcases keyIs_shape hb with ⟨j, u, rfl, e⟩ | ⟨y, u, rfl, e⟩
      · injection e with e1 _; rw [e1]
      · exact nomatch e
    · rcases keyIs_shape hb with ⟨j, u, rfl, e⟩ | ⟨y, u, rfl, e⟩
      · exact nomatch e
      · injection e with e1 _; rw [e1]
  byValue := fun k v h => by
    rcases keyIs_shape h with ⟨i, t, rfl, rfl⟩ | ⟨x, t, rfl, rfl⟩ <;> rfl
  pyHash := fun hv h => by
    rcases keyIs_shape hv with ⟨i, t, rfl, rfl⟩ | ⟨x, t, rfl, rfl⟩
    · exact wpAny_pyHash_int h
    · exact wpAny_pyHash_str h
  eqBool := fun hu hv h => by
    rcases keyIs_shape hu with ⟨i, t, rfl, rfl⟩ | ⟨x, t, rfl, rfl⟩
    · rcases keyIs_shape hv with ⟨j, u, rfl, rfl⟩ | ⟨y, u, rfl, rfl⟩
      · rw [key_ll] at h; exact wpAny_eqBool_int h
      · rw [key_lr] at h; exact SeqAt.EqAt.int_str i t y u _ _ _ _ h
    · rcases keyIs_shape hv with ⟨j, u, rfl, rfl⟩ | ⟨y, u, rfl, rfl⟩
      · rw [key_rl] at h; exact SeqAt.EqAt.str_int x t j u _ _ _ _ h
      · rw [key_rr] at h; exact wpAny_eqBool_str h
  «strs» := fun k x t v h => by
    rcases keyIs_shape h with ⟨i, u, rfl, e⟩ | ⟨y, u, rfl, e⟩
    · exact nomatch e
    · injection e with e1 _
      subst e1
      cases v <;> rfl
theorem mixKind_int (prog : Program) (w : World) (i : Int) (t : Tok) : (mixKind prog w).is (.inl i) (.int i t) = true := keyIs_int i t
theorem mixKind_str (prog : Program) (w : World) (x : Str) (t : Tok) : (mixKind prog w).is (.inr x) (.str x t) = true := keyIs_str x t
end L2
namespace L2
open PySem PySem.Spec PyProof.Rows
inductive V where
  | non | bl (b : Bool) | int (i : Int) | str (x : Str) | byt (b : Array UInt8) | flt (b : UInt64) | ref (a : Addr) | ty (n : String)
  deriving DecidableEq
def RelV : V → Value → Prop
  | .non, u => u = Value.none
  | .bl b, u => u = Value.bool b
  | .int i, u => ∃ t, u = Value.int i t
  | .str x, u => ∃ t, u = Value.str x t
  | .byt b, u => ∃ t, u = Value.bytes b t
  | .flt b, u => ∃ t, u = Value.float b t
  | .ref a, u => u = Value.ref a
  | .ty n, u => u = Value.type n
abbrev Vals : List V → List Value → Prop := Paired RelV
theorem Vals.length {xs : List V} {us : List Value} (r : Vals xs us) : xs.length = us.length := Paired.length r
theorem Vals.get : ∀ {xs : List V} {us : List Value} {i : Nat} {x : V}, Vals xs us → xs[i]? = some x → ∃ u, us[i]? = some u ∧ RelV x u
  | _, _, _, _, .nil, e => by simp at e
  | _, _, 0, _, .cons r _, e => by simp at e; subst e; exact ⟨_, rfl, r⟩
  | _, _, i + 1, x, .cons _ t, e => by
    obtain ⟨u, h1, h2⟩ := Vals.get (i := i) (x := x) t (by simpa using e)
    exact ⟨u, by simpa using h1, h2⟩
theorem Vals.append : ∀ {xs ys : List V} {us ws : List Value}, Vals xs us → Vals ys ws → Vals (xs ++ ys) (us ++ ws)
  | _, _, _, _, .nil, s => s
  | _, _, _, _, .cons r t, s => .cons r (Vals.append t s)
theorem Vals.take : ∀ {xs : List V} {us : List Value} (n : Nat), Vals xs us → Vals (xs.take n) (us.take n)
  | _, _, 0, _ => .nil
  | _, _, _ + 1, .nil => .nil
  | _, _, n + 1, .cons r t => .cons r (Vals.take n t)
theorem Vals.drop : ∀ {xs : List V} {us : List Value} (n : Nat), Vals xs us → Vals (xs.drop n) (us.drop n)
  | _, _, 0, r => r
  | _, _, _ + 1, .nil => .nil
  | _, _, n + 1, .cons _ t => Vals.drop n t
def RelO : Option V → Option Value → Prop
  | some v, some u => RelV v u
  | none, none => True
  | _, _ => False
def KV {κ : Type} : List (κ × V) → List (κ × Value) → Prop := Paired fun (p : κ × V) (q : κ × Value) => p.1 = q.1 ∧ RelV p.2 q.2
def kV : Key → V
  | .inl i => .int i
  | .inr x => .str x
inductive HO where
    | lst (xs : List V)
    | tup (xs : List V)
    | dK (kvs : List (Key × V)) | dT (kvs : List (List Key × V))
    | set (S : Int → Bool) (n : Nat)
    | ins (C dx : Addr) (fs : List (Str × V))
    | own (x : Addr)
    | xd (fs : List (Str × V))
    | met (f x : Addr)
    | rng (lo hi : Int)
    | frz (o : Obj) (u : HO)
    | tbl (ps : Array Value)
    | ext (φ : Heap → Prop)
abbrev Hp := Addr → Option HO
def upd (H : Hp) (a : Addr) (o : HO) : Hp := fun b => if b = a then some o else H b
theorem upd_same {H : Hp} {a : Addr} {o : HO} : upd H a o a = some o := by unfold upd; rw [if_pos rfl]
theorem upd_ne {H : Hp} {a b : Addr} {o : HO} (h : b ≠ a) : upd H a o b = H b := by unfold upd; rw [if_neg h]
theorem ne_of_none {H : Hp} {a b : Addr} {o : HO} (h : H a = some o) (h' : H b = none) : a ≠ b := by
  intro e; subst e; rw [h] at h'; cases h'
section
variable (P : Program) (w : World)
def ObjOk (H : Hp) (h : Heap) (a : Addr) : HO → Prop
  | .lst xs => xs.length ≤ sizeLine ∧ ∃ (its : List Value) (n : Nat), Vals xs its ∧ h.get? a = some { cls := .type "list", data := .seq its.toArray n }
  | .tup xs => xs.length ≤ sizeLine ∧ ∃ its : List Value, Vals xs its ∧ IsTup h a its.toArray
  | .dK kvs => kvs.length ≤ sizeLine ∧ (a == sysModules) = false ∧ ∃ vs, KV kvs vs ∧ h.DictOf (mixKind P w) a vs
  | .dT kvs => kvs.length ≤ sizeLine ∧ (a == sysModules) = false ∧ ∃ xs : List (List Key × Addr × Value),
      Paired (fun (p : List Key × V) (q : List Key × Addr × Value) => p.1 = q.1 ∧ H q.2.1 = some (.tup (p.1.map kV)) ∧ RelV p.2 q.2.2) kvs xs ∧
      ∃ o es ep, h.get? a = some o ∧ o.ExactDict ∧ o.data = .dict es ep ∧ es.toList = xs.map (entryOfKey (tupleKind (mixKind P w))) ∧ (xs.map (·.1)).Nodup
  | .set S n => h.SetOf (intKind P w) a S n
  | .ins C dx fs => H dx = some (.own a) ∧ fs.length ≤ 1000 ∧ dx ≠ a ∧ h.get? a = some (PySem.W.instObj C dx) ∧
      ∃ mA, h.Ns1 dx mA ∧ (∀ f, RelO (fs.lookup f) (mA f)) ∧ PySem.Within mA (fs.map (·.1))
  | .own _ => ∃ o, h.get? a = some o
  | .xd fs => ∃ mA, h.Ns1 a mA ∧ ∀ f, RelO (fs.lookup f) (mA f)
  | .rng lo hi => ∃ t u v, h.get? a = some { cls := .type "range", data := .fields #[.int lo t, .int hi u, .int 1 v] }
  | .frz o u => h.get? a = some o ∧ ObjOk H h a u
  | .tbl ps => h.get? a = some { cls := .none, data := .fields ps }
  | .met f x => h.get? a = some (PySem.W.methodObj (.ref f) (.ref x))
  | .ext φ => φ h ∧ (∃ o, h.get? a = some o) ∧ ∀ h1 h2 : Heap, φ h1 → (∀ o, h1.get? a = some o → h2.get? a = some o) → φ h2
def HOk (H : Hp) (h : Heap) : Prop := ∀ a o, H a = some o → ObjOk P w H h a o
end
section
variable {P : Program} {w : World} {H H' : Hp} {h h' : Heap} {a : Addr} {o : HO}
theorem ObjOk.lt (x : ObjOk P w H h a o) : a < h.objs.size := by
  cases o with
  | lst xs => obtain ⟨_, _, _, _, e⟩ := x; exact Heap.lt_size e
  | tup xs => obtain ⟨_, _, _, p⟩ := x; exact p.lt
  | dK kvs => obtain ⟨_, _, _, _, o, _, _, e, _⟩ := x; exact Heap.lt_size e
  | dT kvs => obtain ⟨_, _, _, _, o, _, _, e, _⟩ := x; exact Heap.lt_size e
  | set S n => obtain ⟨o, _, _, _, e, _⟩ := x; exact Heap.lt_size e
  | ins C dx fs => obtain ⟨_, _, _, e, _⟩ := x; exact Heap.lt_size e
  | own y => obtain ⟨_, e⟩ := x; exact Heap.lt_size e
  | xd fs => obtain ⟨_, ⟨_, _, _, e, _⟩, _⟩ := x; exact Heap.lt_size e
  | rng lo hi => obtain ⟨_, _, _, e⟩ := x; exact Heap.lt_size e
  | frz ob u => obtain ⟨e, _⟩ := x; exact Heap.lt_size e
  | tbl ps => exact Heap.lt_size (show h.get? a = some _ from x)
  | met f y => exact Heap.lt_size (show h.get? a = some _ from x)
  | ext φ => obtain ⟨_, ⟨_, e⟩, _⟩ := x; exact Heap.lt_size e
theorem Paired.mapP {α β : Type} {F G : α → β → Prop} : ∀ {l₁ : List α} {l₂ : List β}, Paired F l₁ l₂ → (∀ a b, F a b → G a b) → Paired G l₁ l₂
  | _, _, .nil, _ => .nil
  | _, _, .cons r t, f => .cons (f _ _ r) (Paired.mapP t f)
theorem ObjOk.stay (x : ObjOk P w H h a o) (k : ∀ b u, (b = a ∨ H b = some (.own a)) → h.get? b = some u → h'.get? b = some u)
    (ho : ∀ b, H b = some (.own a) → H' b = some (.own a)) (ht : ∀ b xs, H b = some (.tup xs) → H' b = some (.tup xs)) : ObjOk P w H' h' a o := by
  induction o with
  | lst xs => obtain ⟨z, its, n, r, e⟩ := x; exact ⟨z, its, n, r, k _ _ (.inl rfl) e⟩
  | tup xs => obtain ⟨z, its, r, ob, e, c⟩ := x; exact ⟨z, its, r, ob, k _ _ (.inl rfl) e, c⟩
  | dK kvs => obtain ⟨z, y, vs, r, ob, es, ep, e, c⟩ := x; exact ⟨z, y, vs, r, ob, es, ep, k _ _ (.inl rfl) e, c⟩
  | dT kvs =>
    obtain ⟨z, y, xs, r, ob, es, ep, e, c⟩ := x
    exact ⟨z, y, xs, Paired.mapP r fun p q z => ⟨z.1, ht _ _ z.2.1, z.2.2⟩, ob, es, ep, k _ _ (.inl rfl) e, c⟩
  | set S n => obtain ⟨ob, es, ep, t, e, c⟩ := x; exact ⟨ob, es, ep, t, k _ _ (.inl rfl) e, c⟩
  | ins C dx fs =>
    obtain ⟨d, z, ne, e, mA, ⟨od, es, ep, e2, c⟩, r⟩ := x
    exact ⟨ho _ d, z, ne, k _ _ (.inl rfl) e, mA, ⟨od, es, ep, k _ _ (.inr d) e2, c⟩, r⟩
  | own y => obtain ⟨ob, e⟩ := x; exact ⟨ob, k _ _ (.inl rfl) e⟩
  | xd fs => obtain ⟨mA, ⟨od, es, ep, e, c⟩, r⟩ := x; exact ⟨mA, ⟨od, es, ep, k _ _ (.inl rfl) e, c⟩, r⟩
  | rng lo hi => obtain ⟨t, u, v, e⟩ := x; exact ⟨t, u, v, k _ _ (.inl rfl) e⟩
  | frz ob u ih => obtain ⟨e, q⟩ := x; exact ⟨k _ _ (.inl rfl) e, ih q⟩
  | tbl ps =>
    have e : h.get? a = some { cls := .none, data := .fields ps } := x
    show h'.get? a = some { cls := .none, data := .fields ps }
    exact k a _ (.inl rfl) e
  | met f y =>
    have e : h.get? a = some (PySem.W.methodObj (.ref f) (.ref y)) := x
    show h'.get? a = some (PySem.W.methodObj (.ref f) (.ref y))
    exact k a _ (.inl rfl) e
  | ext φ => obtain ⟨p, ⟨o, e⟩, st⟩ := x; exact ⟨st _ _ p fun o q => k _ _ (.inl rfl) q, ⟨o, k _ _ (.inl rfl) e⟩, st⟩
theorem HOk.lt (x : HOk P w H h) (e : H a = some o) : a < h.objs.size := (x a o e).lt
theorem HOk.fresh (x : HOk P w H h) (e : h.objs.size ≤ a) : H a = none := by
  cases q : H a with
  | none => rfl
  | some u => exact absurd (Nat.lt_of_lt_of_le (x.lt q) e) (Nat.lt_irrefl _)
theorem HOk.kept (x : HOk P w H h) (k : ∀ b u, h.get? b = some u → h'.get? b = some u) : HOk P w H h' := fun a o e =>
  (x a o e).stay (fun b u _ q => k b u q) (fun _ q => q) fun _ _ q => q
theorem HOk.laid (x : HOk P w H h) (k : ∀ b u, h.get? b = some u → h'.get? b = some u) (hp : h.objs.size ≤ a) (new : ObjOk P w (upd H a o) h' a o) : HOk P w (upd H a o) h' := fun b u e => by
  have hn := x.fresh hp
  by_cases hb : b = a
  · subst hb; rw [upd_same] at e; cases e; exact new
  · rw [upd_ne hb] at e
    exact (x b u e).stay (fun c v _ q => k c v q) (fun c q => by rw [upd_ne (ne_of_none q hn)]; exact q) fun c xs q => by rw [upd_ne (ne_of_none q hn)]; exact q
end
def Rd (H : Hp) (a : Addr) (u : HO) : Prop := H a = some u ∨ ∃ o, H a = some (.frz o u)
theorem Rd.ok {P : Program} {w : World} {H : Hp} {h : Heap} {a : Addr} {u : HO} (r : Rd H a u) (x : HOk P w H h) : ObjOk P w H h a u := by
  rcases r with r | ⟨o, r⟩
  · exact x a u r
  · obtain ⟨_, q⟩ := x a _ r
    exact q
def Mut : Option HO → Prop
  | some (.lst _) => True
  | some (.dK _) => True
  | some (.dT _) => True
  | some (.set _ _) => True
  | some (.ins _ _ _) => True
  | some (.ext _) => True
  | _ => False
section
variable {P : Program} {w : World} {H : Hp} {h h' : Heap} {x e : Addr} {o' : HO}
theorem HOk.write (ok : HOk P w H h) (mu : Mut (H x)) (he : e = x ∨ H e = some (.own x)) (k : ∀ b u, b ≠ e → h.get? b = some u → h'.get? b = some u) (heo : ∃ u, h'.get? e = some u)
    (new : ObjOk P w (upd H x o') h' x o') : HOk P w (upd H x o') h' := fun b u q => by
  have nown : ∀ c y, H c = some (.own y) → c ≠ x := fun c y r z => by subst z; rw [r] at mu; exact mu
  have ntup : ∀ c xs, H c = some (.tup xs) → c ≠ x := fun c xs r z => by subst z; rw [r] at mu; exact mu
  by_cases hb : b = x
  · subst hb; rw [upd_same] at q; cases q; exact new
  · rw [upd_ne hb] at q
    by_cases hbe : b = e
    · have q' : H b = some (.own x) := by
        rcases he with z | z
        · exact absurd (hbe.trans z) hb
        · rw [hbe]; exact z
      rw [q] at q'; cases q'
      obtain ⟨v, hv⟩ := heo
      exact ⟨v, by rw [hbe]; exact hv⟩
    · refine (ok b u q).stay (fun c v hc r => k c v ?_ r) (fun c r => by rw [upd_ne (nown c b r)]; exact r) fun c xs r => by rw [upd_ne (ntup c xs r)]; exact r
      rcases hc with rfl | hc
      · exact hbe
      · rintro rfl
        rcases he with z | z
        · exact nown c b hc z
        · rw [hc] at z; cases z; exact hb rfl
end
structure Un (fs ex : List Addr) (H H' : Hp) (h h' : Heap) : Prop where
  keep : ∀ b o, h.get? b = some o → H b = none → b ∉ fs → b ∉ ex → h'.get? b = some o
  slot : ∀ b o, h.get? b = some o → H b = none → b ∈ fs → b ∉ ex → ∃ sl, h'.get? b = some { o with slots := sl }
  free : ∀ b o, h.get? b = some o → H b = none → b ∉ ex → H' b = none
  there : ∀ b o, h.get? b = some o → b ∉ ex → ∃ o', h'.get? b = some o'
  tups : ∀ b xs, H b = some (.tup xs) → H' b = some (.tup xs)
  frzs : ∀ b o u, H b = some (.frz o u) → H' b = some (.frz o u)
  tbls : ∀ b ps, H b = some (.tbl ps) → ∃ more, H' b = some (.tbl (ps ++ more))
section
variable {fs fs' ex ex' : List Addr} {H H1 H2 : Hp} {h h1 h2 h' : Heap} {a x e : Addr} {o : HO}
theorem Un.any (u : Un fs ex H H1 h h1) {b : Addr} {ob : Obj} (q : h.get? b = some ob) (n : H b = none) (hx : b ∉ ex) : ∃ sl, h1.get? b = some { ob with slots := sl } := by
  by_cases hb : b ∈ fs
  · exact u.slot b ob q n hb hx
  · exact ⟨ob.slots, u.keep b ob q n hb hx⟩
theorem Un.kept (k : ∀ b u, h.get? b = some u → h'.get? b = some u) : Un fs ex H H h h' :=
  ⟨fun b ob q _ _ _ => k b ob q, fun b ob q _ _ _ => ⟨ob.slots, k b ob q⟩, fun _ _ _ n _ => n, fun b ob q _ => ⟨ob, k b ob q⟩, fun _ _ q => q, fun _ _ _ q => q, fun _ ps q => ⟨#[], by rw [q]; simp⟩⟩
theorem Un.refl : Un fs ex H H h h := Un.kept fun _ _ q => q
theorem Un.laid (k : ∀ b u, h.get? b = some u → h'.get? b = some u) (hp : h.objs.size ≤ a) (hn : H a = none) : Un fs ex H (upd H a o) h h' where
  keep := fun b u q _ _ _ => k b u q
  slot := fun b u q _ _ _ => ⟨u.slots, k b u q⟩
  free := fun b u q n _ => by rw [upd_ne (Nat.ne_of_lt (Nat.lt_of_lt_of_le (Heap.lt_size q) hp))]; exact n
  there := fun b u q _ => ⟨u, k b u q⟩
  tups := fun b xs q => by rw [upd_ne (ne_of_none q hn)]; exact q
  frzs := fun b u xs q => by rw [upd_ne (ne_of_none q hn)]; exact q
  tbls := fun b ps q => ⟨#[], by rw [upd_ne (ne_of_none q hn), q]; simp⟩
theorem Un.write (mu : Mut (H x)) (he : e = x ∨ H e = some (.own x)) (k : ∀ b u, b ≠ e → h.get? b = some u → h'.get? b = some u) (heo : ∃ u, h'.get? e = some u) : Un fs ex H (upd H x o) h h' := by
  have hx : ∀ b, H b = none → b ≠ x := fun b n z => by subst z; rw [n] at mu; exact mu
  have hb : ∀ b, H b = none → b ≠ e := fun b n z => by
    subst z
    rcases he with r | r
    · exact hx b n r
    · rw [n] at r; cases r
  have hm : ∀ b u, H b = some u → ¬ Mut (some u) → b ≠ x := fun b u q nm z => by subst z; rw [q] at mu; exact nm mu
  refine ⟨fun b u q n _ _ => k b u (hb b n) q, fun b u q n _ _ => ⟨u.slots, k b u (hb b n) q⟩, fun b u q n _ => by rw [upd_ne (hx b n)]; exact n, fun b u q _ => ?_,
    fun b xs q => by rw [upd_ne (hm b _ q fun z => z)]; exact q, fun b u xs q => by rw [upd_ne (hm b _ q fun z => z)]; exact q, fun b ps q => ⟨#[], by rw [upd_ne (hm b _ q fun z => z), q]; simp⟩⟩
  by_cases hbe : b = e
  · subst hbe; exact heo
  · exact ⟨u, k b u hbe q⟩
end
def trk (h : Heap) (H : Hp) : List Addr := (List.range h.objs.size).filter fun a => (H a).isSome
def hidT (h : Heap) (H : Hp) : Heap := PySem.W.hideAll h (trk h H)
theorem hidT_size (h : Heap) (H : Hp) : (hidT h H).objs.size = h.objs.size := PySem.W.hideAll_size _ _
theorem hidT_get {h : Heap} {H : Hp} {b : Addr} {o : Obj} (e : h.get? b = some o) (n : H b = none) : (hidT h H).get? b = some o :=
  PySem.W.hideAll_get _ e fun hm => by
    have q : (H b).isSome = true := (List.mem_filter.mp hm).2
    rw [n] at q; simp at q
theorem of_hidT {h : Heap} {H : Hp} {b : Addr} {o : Obj} (e : (hidT h H).get? b = some o) : h.get? b = some o ∧ H b = none := by
  have e' : h.get? b = some o := PySem.W.of_hideAll (trk h H) e
  refine ⟨e', ?_⟩
  cases q : H b with
  | none => rfl
  | some x =>
    have hm : b ∈ trk h H := List.mem_filter.mpr ⟨List.mem_range.mpr (Heap.lt_size e'), by simp [q]⟩
    have z : (hidT h H).get? b = none := PySem.W.hideAll_none (trk h H) hm
    rw [z] at e; cases e
end L2
namespace L2
open PySem PySem.Spec PyProof.Rows
structure Mod (K : PySem.W.Frag) (mg : Str → Option Value) (base : Heap) : Prop where
  kin : K.In base
  glob : base.Ns mainGlobals mg
  blt : ∃ mb, base.Ns builtinsNs mb ∧ ∀ x : Str, x ≠ "__name__" → mb x = bootBuiltins x
  nolimit : base.NoLimit
structure Cx where
  prog : Program
  w : World
  K : PySem.W.Frag
  mg : Str → Option Value
  base : Heap
  A : Around
  N : List Str
  s₀ : Shared
  H₀ : Hp
  env : Env
  outer : List Env
  stack : List Env
  ex : List Addr
  fn : Str → Bool
  calm : Bool
  pn : List (Addr × Obj)
  xe : Value → Shared → Prop
def frs (l : List Env) : List Addr := l.filterMap (·.frame)
abbrev Cx.fs (X : Cx) : List Addr := frs X.outer
def Vis (sc : Scope) (x : Str) : Prop := sc.names.lookup x = some .local ∨ sc.names.lookup x = some .cell ∨ sc.names.lookup x = some .free
def Loc (sc : Scope) (x : Str) : Prop := sc.names.lookup x = some .local ∨ sc.names.lookup x = some .cell
def Look (env : Env) (h : Heap) (m : Str → Option Value) (x : Str) (u : Value) : Prop :=
  (env.kindOf x = some .local ∧ m x = some u) ∨ ((env.kindOf x = some .cell ∨ env.kindOf x = some .free) ∧ ∃ c, env.cells.lookup x = some c ∧ h.IsCell c (some u))
structure Cx.Ok (X : Cx) : Prop where
  mod : Mod X.K X.mg X.base
  kind : X.env.scope.kind = .function
  glob : X.env.globals = mainGlobals
  blt : X.env.builtins = builtinsNs
  above : X.s₀.heap.objs.size ≤ X.env.locals
  inj : ∀ x y c, X.env.cells.lookup x = some c → X.env.cells.lookup y = some c → x = y
  has : ∀ x, (X.env.kindOf x = some .cell ∨ X.env.kindOf x = some .free) → ∃ c, X.env.cells.lookup x = some c
  cab : ∀ x c, X.fn x = true → X.env.cells.lookup x = some c → X.s₀.heap.objs.size ≤ c
  hd : X.calm = true → X.A.handled = none
  frames : X.A.frames = some X.stack
  stk : X.stack = X.outer ∨ (X.stack = X.env :: X.outer ∧ X.env.frame = some X.env.locals)
  exf : ∀ b ∈ X.ex, b ≠ X.env.locals ∧ ∀ x c, X.env.cells.lookup x = some c → c ≠ b
  bs : ∀ b o, X.base.get? b = some o → X.s₀.heap.get? b = some o ∧ X.H₀ b = none
  bsz : X.base.objs.size ≤ X.s₀.heap.objs.size
  noex : ∀ b o, X.base.get? b = some o → b ∉ X.ex
  exfs : ∀ b ∈ X.ex, b ∉ X.fs
  funs : X.s₀.heap.FunFrames X.base X.outer
  frf : ∀ b ∈ X.fs, X.H₀ b = none
structure Inv (X : Cx) (pins : List (Addr × Obj)) (σ : List (Option V)) (H : Hp) (s : Shared) : Prop where
  ok : X.Ok
  os : s.os = X.s₀.os
  bare : AllBare s.gens
  base : Un X.fs X.ex X.H₀ H X.s₀.heap s.heap
  loc : ∃ m, s.heap.Ns X.env.locals m ∧ ∀ (i : Nat) (x : Str) (v : V), X.N[i]? = some x → σ[i]? = some (some v) → Vis X.env.scope x → ∃ u, RelV v u ∧ Look X.env s.heap m x u
  cell : ∀ x c, X.env.cells.lookup x = some c → ∃ v, s.heap.IsCell c v
  free : H X.env.locals = none
  freeC : ∀ x c, X.env.cells.lookup x = some c → H c = none
  pin : ∀ p ∈ X.pn ++ pins, s.heap.get? p.1 = some p.2 ∧ H p.1 = none ∧ p.1 ≠ X.env.locals ∧ p.1 ∉ X.fs ∧ ∀ v, p.2.data ≠ .cell v
  hok : HOk X.prog X.w H s.heap
  len : σ.length = X.N.length
section
variable {X : Cx} {pins : List (Addr × Obj)} {σ : List (Option V)} {H H' : Hp} {s : Shared} {h' : Heap}
theorem Cx.Ok.nofr (ok : X.Ok) {b : Addr} {o : Obj} (e : X.base.get? b = some o) : b ∉ X.fs := fun hb => by
  have := (ok.funs.mem hb).1
  rw [e] at this; cases this
theorem Inv.bs (I : Inv X pins σ H s) : ∀ b o, X.base.get? b = some o → s.heap.get? b = some o ∧ H b = none := fun b o e =>
  ⟨I.base.keep b o (I.ok.bs b o e).1 (I.ok.bs b o e).2 (I.ok.nofr e) (I.ok.noex b o e), I.base.free b o (I.ok.bs b o e).1 (I.ok.bs b o e).2 (I.ok.noex b o e)⟩
theorem Inv.bk (I : Inv X pins σ H s) : ∀ b o, X.base.get? b = some o → s.heap.get? b = some o := fun b o e => (I.bs b o e).1
theorem Inv.mod (I : Inv X pins σ H s) : Mod X.K X.mg X.base := I.ok.mod
theorem Inv.kIn (I : Inv X pins σ H s) : X.K.In s.heap := I.ok.mod.kin.keeps I.bk
theorem Inv.lt (I : Inv X pins σ H s) : X.env.locals < s.heap.objs.size := let ⟨_, hn, _⟩ := I.loc; hn.lt
theorem Inv.sz (I : Inv X pins σ H s) : X.s₀.heap.objs.size ≤ s.heap.objs.size := Nat.le_trans I.ok.above (Nat.le_of_lt I.lt)
theorem Inv.nofs (I : Inv X pins σ H s) {a : Addr} (h : s.heap.objs.size ≤ a) : a ∉ X.fs := fun hb => by
  obtain ⟨_, o, ho, _⟩ := I.ok.funs.mem hb
  exact absurd (Nat.lt_of_lt_of_le (Heap.lt_size ho) (Nat.le_trans I.sz h)) (Nat.lt_irrefl _)
theorem Inv.cne (I : Inv X pins σ H s) : ∀ x c, X.env.cells.lookup x = some c → c ≠ X.env.locals := fun x c e z => by
  obtain ⟨v, o, ho, hd⟩ := I.cell x c e
  obtain ⟨m, ⟨o', es, ep, ho', hd', _⟩, _⟩ := I.loc
  rw [z, ho'] at ho; cases ho; rw [hd'] at hd; cases hd
theorem Inv.funs (I : Inv X pins σ H s) : s.heap.FunFrames X.base X.outer := by
  have all : ∀ (l : List Env), (∀ b ∈ frs l, b ∈ X.fs) → X.s₀.heap.FunFrames X.base l → s.heap.FunFrames X.base l := by
    intro l
    induction l with
    | nil => intro _ _; trivial
    | cons env r ih =>
      intro hs hl
      obtain ⟨hk, ⟨L, o, hf, hn, ho, hd⟩, hr⟩ := hl
      have hL : L ∈ X.fs := hs L (by unfold frs; rw [List.filterMap_cons, hf]; exact List.mem_cons_self)
      obtain ⟨sl, e⟩ := I.base.slot L o ho (I.ok.frf L hL) hL fun z => I.ok.exfs L z hL
      exact ⟨hk, ⟨L, _, hf, hn, e, hd⟩, ih (fun b hb => hs b (by unfold frs; rw [List.filterMap_cons, hf]; exact List.mem_cons_of_mem _ hb)) hr⟩
  exact all X.outer (fun _ hb => hb) I.ok.funs
theorem Inv.stack (I : Inv X pins σ H s) : s.heap.FunFrames X.base X.stack := by
  rcases I.ok.stk with e | ⟨e, hf⟩
  · rw [e]; exact I.funs
  · rw [e]
    obtain ⟨m, hn, _⟩ := I.loc
    refine .cons (by rw [I.ok.kind]; decide) hf hn ?_ I.funs
    exact Heap.get?_none_of_le (Nat.le_trans I.ok.bsz I.ok.above)
theorem Inv.stkSub (I : Inv X pins σ H s) : ∀ b ∈ frs X.stack, b ∈ X.env.locals :: X.fs := fun b hb => by
  rcases I.ok.stk with e | ⟨e, hf⟩
  · rw [e] at hb; exact List.mem_cons_of_mem _ hb
  · rw [e] at hb
    unfold frs at hb
    rw [List.filterMap_cons, hf] at hb
    exact hb
theorem Inv.stkFree (I : Inv X pins σ H s) : ∀ b ∈ frs X.stack, H b = none := fun b hb => by
  rcases List.mem_cons.mp (I.stkSub b hb) with e | hb
  · rw [e]; exact I.free
  · obtain ⟨_, o, ho, _⟩ := I.ok.funs.mem hb
    exact I.base.free b o ho (I.ok.frf b hb) fun z => I.ok.exfs b z hb
theorem Inv.step {g' : Array GenState} {t' : Nat} {d' : Drawn} {ch : List Addr} (I : Inv X pins σ H s)
    (hch : ∀ b ∈ ch, (b ∈ X.ex ∨ X.s₀.heap.objs.size ≤ b) ∧ b ≠ X.env.locals ∧ (∀ x c, X.env.cells.lookup x = some c → c ≠ b) ∧ ∀ p ∈ X.pn ++ pins, p.1 ≠ b)
    (keep : ∀ b o, b ≠ X.env.locals → b ∉ X.fs → b ∉ ch → s.heap.get? b = some o → H b = none → h'.get? b = some o)
    (slot : ∀ b o, b ≠ X.env.locals → b ∈ X.fs → b ∉ ch → s.heap.get? b = some o → H b = none → ∃ sl, h'.get? b = some { o with slots := sl }) (free : ∀ b o, b ∉ ch → s.heap.get? b = some o → H b = none → H' b = none)
    (there : ∀ b o, b ∉ ch → s.heap.get? b = some o → ∃ o', h'.get? b = some o')
    (tups : ∀ b xs, H b = some (.tup xs) → H' b = some (.tup xs)) (frzs : ∀ b o u, H b = some (.frz o u) → H' b = some (.frz o u)) (tbls : ∀ b ps, H b = some (.tbl ps) → ∃ more, H' b = some (.tbl (ps ++ more)))
    (ns : ∀ m, s.heap.Ns X.env.locals m → h'.Ns X.env.locals m) (hok : HOk X.prog X.w H' h') (hg : AllBare g') :
    Inv X pins σ H' { s with heap := h', gens := g', drawn := d', toks := t' } := by
  have neL : ∀ b o, X.s₀.heap.get? b = some o → b ≠ X.env.locals := fun b o e => Nat.ne_of_lt (Nat.lt_of_lt_of_le (Heap.lt_size e) I.ok.above)
  have neC : ∀ b o, X.s₀.heap.get? b = some o → b ∉ X.ex → b ∉ ch := fun b o e hx hb => by
    rcases (hch b hb).1 with z | z
    · exact hx z
    · exact absurd (Nat.lt_of_lt_of_le (Heap.lt_size e) z) (Nat.lt_irrefl _)
  have cellK : ∀ x c, X.env.cells.lookup x = some c → ∀ v, s.heap.IsCell c v → h'.IsCell c v := fun x c e v ⟨o, ho, hd⟩ => by
    have nch : c ∉ ch := fun z => (hch c z).2.2.1 x c e rfl
    by_cases hc : c ∈ X.fs
    · obtain ⟨sl, q⟩ := slot c o (I.cne x c e) hc nch ho (I.freeC x c e)
      exact ⟨_, q, hd⟩
    · exact ⟨o, keep c o (I.cne x c e) hc nch ho (I.freeC x c e), hd⟩
  refine ⟨I.ok, I.os, hg, ⟨fun b o e n hb hx => ?_, fun b o e n hb hx => ?_, fun b o e n hx => ?_, fun b o e hx => ?_, fun b xs e => tups b xs (I.base.tups b xs e), fun b o xs e => frzs b o xs (I.base.frzs b o xs e), fun b ps e => ?_⟩, ?_, fun x c e => ?_, ?_, fun x c e => ?_, fun p hp => ?_, hok, I.len⟩
  · exact keep b o (neL b o e) hb (neC b o e hx) (I.base.keep b o e n hb hx) (I.base.free b o e n hx)
  · obtain ⟨sl, e1⟩ := I.base.slot b o e n hb hx
    obtain ⟨sl', e2⟩ := slot b _ (neL b o e) hb (neC b o e hx) e1 (I.base.free b o e n hx)
    exact ⟨sl', e2⟩
  · obtain ⟨o', e1⟩ := I.base.there b o e hx
    exact free b o' (neC b o e hx) e1 (I.base.free b o e n hx)
  · obtain ⟨o', e1⟩ := I.base.there b o e hx
    exact there b o' (neC b o e hx) e1
  · obtain ⟨m1, e1⟩ := I.base.tbls b ps e
    obtain ⟨m2, e2⟩ := tbls b _ e1
    exact ⟨m1 ++ m2, by rw [e2, Array.append_assoc]⟩
  · obtain ⟨m, hn, hl⟩ := I.loc
    refine ⟨m, ns m hn, fun i x v e1 e2 e3 => ?_⟩
    obtain ⟨u, r, l⟩ := hl i x v e1 e2 e3
    refine ⟨u, r, ?_⟩
    rcases l with l | ⟨k, c, e, z⟩
    · exact .inl l
    · exact .inr ⟨k, c, e, cellK x c e _ z⟩
  · obtain ⟨v, z⟩ := I.cell x c e
    exact ⟨v, cellK x c e v z⟩
  · obtain ⟨m, ⟨o, _, _, ho, _⟩, _⟩ := I.loc
    exact free _ o (fun z => (hch _ z).2.1 rfl) ho I.free
  · obtain ⟨v, o, ho, hd⟩ := I.cell x c e
    exact free c o (fun z => (hch c z).2.2.1 x c e rfl) ho (I.freeC x c e)
  · obtain ⟨e, n, ne, nf, d⟩ := I.pin p hp
    have nch : p.1 ∉ ch := fun z => (hch p.1 z).2.2.2 p hp rfl
    exact ⟨keep p.1 p.2 ne nf nch e n, free p.1 p.2 nch e n, ne, nf, d⟩
theorem Inv.un {t' : Nat} (I : Inv X pins σ H s) (u : Un X.fs [] H H' s.heap h') (hok : HOk X.prog X.w H' h') : Inv X pins σ H' { s with heap := h', toks := t' } := by
  obtain ⟨m, ⟨o, es, ep, ho, r⟩, _⟩ := id I.loc
  obtain ⟨sl, hL⟩ := u.any ho I.free (by simp)
  exact I.step (g' := s.gens) (d' := s.drawn) (ch := []) (fun _ z => nomatch z) (fun b o _ hb _ e n => u.keep b o e n hb (by simp)) (fun b o _ hb _ e n => u.slot b o e n hb (by simp)) (fun b o _ e n => u.free b o e n (by simp)) (fun b o _ e => u.there b o e (by simp)) u.tups u.frzs u.tbls (fun m' hm => by
    obtain ⟨o', es', ep', ho', r'⟩ := hm
    rw [ho] at ho'; cases ho'
    exact ⟨_, es', ep', hL, r'⟩) hok I.bare
theorem Inv.call {g' : Array GenState} {t' : Nat} {d' : Drawn} {ch : List Addr} (I : Inv X pins σ H s) (u : Un (frs X.stack) ch H H' s.heap h') (hok : HOk X.prog X.w H' h') (hg : AllBare g')
    (hch : ∀ b ∈ ch, (b ∈ X.ex ∨ X.s₀.heap.objs.size ≤ b) ∧ b ≠ X.env.locals ∧ (∀ x c, X.env.cells.lookup x = some c → c ≠ b) ∧ ∀ p ∈ X.pn ++ pins, p.1 ≠ b) :
    Inv X pins σ H' { s with heap := h', gens := g', drawn := d', toks := t' } := by
  obtain ⟨m, ⟨o, es, ep, ho, r⟩, _⟩ := id I.loc
  obtain ⟨sl, hL⟩ := u.any ho I.free fun z => (hch _ z).2.1 rfl
  exact I.step (ch := ch) hch (fun b o hL hb hc e n => u.keep b o e n (fun z => (List.mem_cons.mp (I.stkSub b z)).elim hL hb) hc) (fun b o _ _ hc e n => u.any e n hc) (fun b o hc e n => u.free b o e n hc) (fun b o hc e => u.there b o e hc) u.tups u.frzs u.tbls (fun m' hm => by
    obtain ⟨o', es', ep', ho', r'⟩ := hm
    rw [ho] at ho'; cases ho'
    exact ⟨_, es', ep', hL, r'⟩) hok hg
theorem Inv.turned {t' : Nat} {it : Addr} (I : Inv X pins σ H s) (k : ∀ b o, b ≠ it → s.heap.get? b = some o → h'.get? b = some o) (hn : H it = none) (hL : it ≠ X.env.locals)
    (h1 : it ∈ X.ex ∨ X.s₀.heap.objs.size ≤ it) (h2 : ∀ x c, X.env.cells.lookup x = some c → c ≠ it) (h3 : ∀ p ∈ X.pn ++ pins, p.1 ≠ it) : Inv X pins σ H { s with heap := h', toks := t' } := by
  have nit : ∀ b u, H b = some u → b ≠ it := fun b u e z => by rw [z, hn] at e; cases e
  refine I.step (g' := s.gens) (d' := s.drawn) (ch := [it]) (fun b hb => ?_) (fun b o _ _ hc e _ => k b o (fun z => hc (by simp [z])) e) (fun b o _ _ hc e _ => ⟨o.slots, k b o (fun z => hc (by simp [z])) e⟩) (fun _ _ _ _ n => n)
    (fun b o hc e => ⟨o, k b o (fun z => hc (by simp [z])) e⟩) (fun _ _ e => e) (fun _ _ _ e => e) (fun b ps e => ⟨#[], by rw [e]; simp⟩) (fun m hm => ?_) (fun b u e => ?_) I.bare
  · have e : b = it := by simpa using hb
    subst e
    exact ⟨h1, hL, h2, h3⟩
  · obtain ⟨o, es, ep, ho, r⟩ := hm
    exact ⟨o, es, ep, k _ o (Ne.symm hL) ho, r⟩
  · refine (I.hok b u e).stay (fun c v hc q => k c v ?_ q) (fun _ q => q) fun _ _ q => q
    rcases hc with z | z
    · rw [z]; exact nit b u e
    · exact nit c _ z
theorem Inv.tok (I : Inv X pins σ H s) (t : Nat) : Inv X pins σ H { s with toks := t } := I.un (h' := s.heap) (t' := t) Un.refl I.hok
theorem Inv.kept {t' : Nat} (I : Inv X pins σ H s) (k : ∀ b u, s.heap.get? b = some u → h'.get? b = some u) : Inv X pins σ H { s with heap := h', toks := t' } := I.un (Un.kept k) (I.hok.kept k)
theorem Inv.laid {a : Addr} {o : HO} {t' : Nat} (I : Inv X pins σ H s) (k : ∀ b u, s.heap.get? b = some u → h'.get? b = some u) (hp : s.heap.objs.size ≤ a) (new : ObjOk X.prog X.w (upd H a o) h' a o) :
    Inv X pins σ (upd H a o) { s with heap := h', toks := t' } := I.un (Un.laid k hp (I.hok.fresh hp)) (I.hok.laid k hp new)
theorem Inv.write {x e : Addr} {o : HO} {t' : Nat} (I : Inv X pins σ H s) (mu : Mut (H x)) (he : e = x ∨ H e = some (.own x)) (k : ∀ b u, b ≠ e → s.heap.get? b = some u → h'.get? b = some u) (heo : ∃ u, h'.get? e = some u)
    (new : ObjOk X.prog X.w (upd H x o) h' x o) : Inv X pins σ (upd H x o) { s with heap := h', toks := t' } := I.un (Un.write mu he k heo) (I.hok.write mu he k heo new)
theorem Inv.weak {σ' : List (Option V)} (I : Inv X pins σ H s) (hl : σ'.length = σ.length) (w : ∀ (i : Nat) v, σ'[i]? = some (some v) → σ[i]? = some (some v)) : Inv X pins σ' H s :=
  ⟨I.ok, I.os, I.bare, I.base, let ⟨m, hn, hl'⟩ := I.loc; ⟨m, hn, fun i x v e1 e2 e3 => hl' i x v e1 (w i v e2) e3⟩, I.cell, I.free, I.freeC, I.pin, I.hok, hl.trans I.len⟩
theorem Inv.pins_of {pins' : List (Addr × Obj)} (I : Inv X pins σ H s) (h : ∀ p ∈ pins', s.heap.get? p.1 = some p.2 ∧ H p.1 = none ∧ p.1 ≠ X.env.locals ∧ p.1 ∉ X.fs ∧ ∀ v, p.2.data ≠ .cell v) : Inv X pins' σ H s :=
  ⟨I.ok, I.os, I.bare, I.base, I.loc, I.cell, I.free, I.freeC, fun p hp => (List.mem_append.mp hp).elim (fun z => I.pin p (List.mem_append_left _ z)) (h p), I.hok, I.len⟩
theorem nodup_ix {N : List Str} (hN : N.Nodup) {i j : Nat} {x : Str} (a : N[i]? = some x) (b : N[j]? = some x) : i = j := by
  obtain ⟨h1, e1⟩ := List.getElem?_eq_some_iff.mp a
  obtain ⟨h2, e2⟩ := List.getElem?_eq_some_iff.mp b
  exact (List.getElem_inj hN).mp (e1.trans e2.symm)
theorem store_ok2 {M : Model} {A : Around} {E : Value → Shared → Prop} {i : Nat} {x : Str} {v : V} {u : Value} {Q : Unit → Shared → Prop} (I : Inv X pins σ H s) (hN : X.N.Nodup) (hi : X.N[i]? = some x) (hx : Loc X.env.scope x) (r : RelV v u)
    (h : ∀ s', Inv X pins (σ.set i (some v)) H s' → (∃ a, Heap.SameBut a s.heap s'.heap ∧ (a = X.env.locals ∨ X.env.cells.lookup x = some a)) → Q () s') (hf : X.fn x = true ∨ X.env.scope.names.lookup x = some .local := by first | exact .inl rfl | exact .inr rfl | assumption) : wpAny M A (storeName X.env x u) Q E s := by
  obtain ⟨m, hn, hl⟩ := id I.loc
  have hcls : (X.env.scope.kind == .class || (X.env.scope.kind == .module && X.env.locals != X.env.globals)) = false := by rw [I.ok.kind]; rfl
  have hiσ : i < σ.length := by rw [I.len]; exact (List.getElem?_eq_some_iff.mp hi).1
  have cne := I.cne
  have tracked : ∀ {a : Addr} {h' : Heap}, (∃ o, s.heap.get? a = some o ∧ H a = none) → Heap.SameBut a s.heap h' → HOk X.prog X.w H h' := fun {a h'} ha hs b ob e => by
    obtain ⟨_, _, hfree⟩ := ha
    refine (I.hok b ob e).stay (fun c w' hc q => (hs.2 c ?_).trans q) (fun _ q => q) fun _ _ q => q
    rintro rfl
    rcases hc with rfl | hc
    · rw [hfree] at e; cases e
    · rw [hfree] at hc; cases hc
  rcases hx with hk | hk
  · refine wpAny_storeName_local hk hn (fun h' hn' hs => ?_) hcls
    obtain ⟨oL, _, _, hoL, _⟩ := id hn
    refine h _ ⟨I.ok, I.os, I.bare, ⟨fun b o e n hb hx => ?_, fun b o e n hb hx => ?_, I.base.free, fun b o e hx => ?_, I.base.tups, I.base.frzs, I.base.tbls⟩, ⟨_, hn', fun j y v' e1 e2 e3 => ?_⟩, fun y c e => ?_, I.free, I.freeC, fun p hp => ?_, tracked ⟨oL, hoL, I.free⟩ hs, by simpa using I.len⟩ ⟨_, hs, .inl rfl⟩
    · exact (hs.2 b (Nat.ne_of_lt (Nat.lt_of_lt_of_le (Heap.lt_size e) I.ok.above))).trans (I.base.keep b o e n hb hx)
    · obtain ⟨sl, e1⟩ := I.base.slot b o e n hb hx
      exact ⟨sl, (hs.2 b (Nat.ne_of_lt (Nat.lt_of_lt_of_le (Heap.lt_size e) I.ok.above))).trans e1⟩
    · obtain ⟨o', e1⟩ := I.base.there b o e hx
      exact ⟨o', (hs.2 b (Nat.ne_of_lt (Nat.lt_of_lt_of_le (Heap.lt_size e) I.ok.above))).trans e1⟩
    · by_cases hj : j = i
      · subst hj
        rw [hi] at e1; cases e1
        rw [List.getElem?_set_self hiσ] at e2
        cases e2
        exact ⟨u, r, .inl ⟨hk, by simp⟩⟩
      · rw [List.getElem?_set_ne (Ne.symm hj)] at e2
        obtain ⟨u', r', q⟩ := hl j y v' e1 e2 e3
        refine ⟨u', r', ?_⟩
        rcases q with ⟨k, e⟩ | ⟨k, c, e, z⟩
        · refine .inl ⟨k, ?_⟩
          have : y ≠ x := fun e => hj (nodup_ix hN e1 (e ▸ hi))
          simp [this, e]
        · exact .inr ⟨k, c, e, z.sameBut hs (cne y c e)⟩
    · obtain ⟨w', z⟩ := I.cell y c e
      exact ⟨w', z.sameBut hs (cne y c e)⟩
    · obtain ⟨e, n, ne, nf, d⟩ := I.pin p hp
      exact ⟨(hs.2 p.1 ne).trans e, n, ne, nf, d⟩
  · have hfn : X.fn x = true := by
      rcases hf with z | z
      · exact z
      · rw [z] at hk; cases hk
    obtain ⟨c, hc⟩ := I.ok.has x (.inl hk)
    obtain ⟨w', z⟩ := I.cell x c hc
    refine wpAny_storeName_cell I.ok.kind hk hc z (fun h' hc' hs => ?_)
    obtain ⟨oc, hoc, hocd⟩ := id z
    refine h { s with heap := h' } ⟨I.ok, I.os, I.bare, ⟨fun b o e n hb hx => ?_, fun b o e n hb hx => ?_, I.base.free, fun b o e hx => ?_, I.base.tups, I.base.frzs, I.base.tbls⟩, ⟨m, hn.sameBut hs (Ne.symm (cne x c hc)), fun j y v' e1 e2 e3 => ?_⟩, fun y c' e => ?_, I.free, I.freeC, fun p hp => ?_, tracked ⟨oc, hoc, I.freeC x c hc⟩ hs, by simpa using I.len⟩ ⟨c, hs, .inr hc⟩
    · exact (hs.2 b (Nat.ne_of_lt (Nat.lt_of_lt_of_le (Heap.lt_size e) (I.ok.cab x c hfn hc)))).trans (I.base.keep b o e n hb hx)
    · obtain ⟨sl, e1⟩ := I.base.slot b o e n hb hx
      exact ⟨sl, (hs.2 b (Nat.ne_of_lt (Nat.lt_of_lt_of_le (Heap.lt_size e) (I.ok.cab x c hfn hc)))).trans e1⟩
    · obtain ⟨o', e1⟩ := I.base.there b o e hx
      exact ⟨o', (hs.2 b (Nat.ne_of_lt (Nat.lt_of_lt_of_le (Heap.lt_size e) (I.ok.cab x c hfn hc)))).trans e1⟩
    · by_cases hj : j = i
      · subst hj
        rw [hi] at e1; cases e1
        rw [List.getElem?_set_self hiσ] at e2
        cases e2
        exact ⟨u, r, .inr ⟨.inl hk, c, hc, hc'⟩⟩
      · rw [List.getElem?_set_ne (Ne.symm hj)] at e2
        obtain ⟨u', r', q⟩ := hl j y v' e1 e2 e3
        refine ⟨u', r', ?_⟩
        rcases q with q | ⟨k, c', e, z'⟩
        · exact .inl q
        · refine .inr ⟨k, c', e, z'.sameBut hs ?_⟩
          rintro rfl
          exact hj (nodup_ix hN e1 (I.ok.inj _ _ _ e hc ▸ hi))
    · by_cases hcc : c' = c
      · subst hcc; exact ⟨_, hc'⟩
      · obtain ⟨w2, z2⟩ := I.cell y c' e
        exact ⟨w2, z2.sameBut hs hcc⟩
    · obtain ⟨e, n, ne, nf, d⟩ := I.pin p hp
      refine ⟨(hs.2 p.1 ?_).trans e, n, ne, nf, d⟩
      intro q
      rw [q, hoc] at e
      have q' : oc = p.2 := Option.some.inj e
      exact d w' (by rw [← q']; exact hocd)
theorem store_ok {M : Model} {A : Around} {E : Value → Shared → Prop} {i : Nat} {x : Str} {v : V} {u : Value} {Q : Unit → Shared → Prop} (I : Inv X pins σ H s) (hN : X.N.Nodup) (hi : X.N[i]? = some x) (hx : Loc X.env.scope x) (r : RelV v u)
    (h : ∀ s', Inv X pins (σ.set i (some v)) H s' → Q () s') (hf : X.fn x = true ∨ X.env.scope.names.lookup x = some .local := by first | exact .inl rfl | exact .inr rfl | assumption) : wpAny M A (storeName X.env x u) Q E s :=
  store_ok2 I hN hi hx r (fun s' I' _ => h s' I') hf
theorem Inv.call' {s' : Shared} {ch : List Addr} (I : Inv X pins σ H s) (ho : s'.os = s.os) (u : Un (frs X.stack) ch H H' s.heap s'.heap) (hok : HOk X.prog X.w H' s'.heap) (hg : AllBare s'.gens)
    (hch : ∀ b ∈ ch, (b ∈ X.ex ∨ X.s₀.heap.objs.size ≤ b) ∧ b ≠ X.env.locals ∧ (∀ x c, X.env.cells.lookup x = some c → c ≠ b) ∧ ∀ p ∈ X.pn ++ pins, p.1 ≠ b) : Inv X pins σ H' s' := by
  obtain ⟨h', g', d', t', o'⟩ := s'
  have e : o' = s.os := ho
  subst e
  exact I.call (g' := g') (t' := t') (d' := d') u hok hg hch
end
abbrev XK := Value → Option Addr → Hp → Prop
abbrev St := List (Option V)
abbrev VK := V → Hp → Prop
abbrev TE := St → Hp → VK → Prop
abbrev TT := St → Hp → (Bool → Hp → Prop) → Prop
abbrev TA := St → Hp → (List V → Hp → Prop) → Prop
structure Ends where
  nx : St → Hp → Prop
  rt : VK
  bk : St → Hp → Prop := fun _ _ => False
  ct : St → Hp → Prop := fun _ _ => False
abbrev TS := Ends → St → Hp → Prop
def EP (X : Cx) (pins : List (Addr × Obj)) (σ : St) (Q : VK) (u : Value) (s' : Shared) : Prop := ∃ v H', Inv X pins σ H' s' ∧ RelV v u ∧ Q v H'
def TP (X : Cx) (pins : List (Addr × Obj)) (σ : St) (Q : Bool → Hp → Prop) (b : Bool) (s' : Shared) : Prop := ∃ H', Inv X pins σ H' s' ∧ Q b H'
def AP (X : Cx) (pins : List (Addr × Obj)) (σ : St) (Q : List V → Hp → Prop) (us : List Value) (s' : Shared) : Prop := ∃ vs H', Inv X pins σ H' s' ∧ Vals vs us ∧ Q vs H'
def SP (X : Cx) (pins : List (Addr × Obj)) (D : Ends) (f : Flow) (s' : Shared) : Prop :=
  match f with
  | .next => ∃ σ' H', Inv X pins σ' H' s' ∧ D.nx σ' H'
  | .brk => ∃ σ' H', Inv X pins σ' H' s' ∧ D.bk σ' H'
  | .cont => ∃ σ' H', Inv X pins σ' H' s' ∧ D.ct σ' H'
  | .ret u => ∃ v σ' H', Inv X pins σ' H' s' ∧ RelV v u ∧ D.rt v H'
def PE (X : Cx) (e : Expr) (t : TE) : Prop :=
  ∀ (pins : List (Addr × Obj)) (s : Shared) (σ : St) (H : Hp) (Q : VK), Inv X pins σ H s → t σ H Q → wpAny (model X.prog X.w) X.A (eval e X.env) (EP X pins σ Q) X.xe s
def PT (X : Cx) (e : Expr) (t : TT) : Prop :=
  ∀ (pins : List (Addr × Obj)) (s : Shared) (σ : St) (H : Hp) (Q : Bool → Hp → Prop), Inv X pins σ H s → t σ H Q → wpAny (model X.prog X.w) X.A (isTrue e X.env (eval e X.env)) (TP X pins σ Q) X.xe s
def PW (X : Cx) (e : Expr) (t : TT) : Prop :=
  ∀ (whole : Sem Value) (pins : List (Addr × Obj)) (s : Shared) (σ : St) (H : Hp) (Q : Bool → Hp → Prop), Inv X pins σ H s → t σ H Q → wpAny (model X.prog X.w) X.A (isTrue e X.env whole) (TP X pins σ Q) X.xe s
theorem PW.pt {X : Cx} {e : Expr} {t : TT} (h : PW X e t) : PT X e t := h _
def PA (X : Cx) (es : List Expr) (t : TA) : Prop :=
  ∀ (pos : Pos) (pins : List (Addr × Obj)) (s : Shared) (σ : St) (H : Hp) (Q : List V → Hp → Prop), Inv X pins σ H s → t σ H Q → wpAny (model X.prog X.w) X.A (spliced (backTo pos (starEach es X.env))) (AP X pins σ Q) X.xe s
def PS (X : Cx) (st : Stmt) (t : TS) : Prop :=
  ∀ (pins : List (Addr × Obj)) (s : Shared) (σ : St) (H : Hp) (D : Ends), Inv X pins σ H s → t D σ H → wpAny (model X.prog X.w) X.A (exec st X.env) (SP X pins D) X.xe s
def PSs (X : Cx) (st : List Stmt) (t : TS) : Prop :=
  ∀ (pins : List (Addr × Obj)) (s : Shared) (σ : St) (H : Hp) (D : Ends), Inv X pins σ H s → t D σ H → wpAny (model X.prog X.w) X.A (execs st X.env) (SP X pins D) X.xe s
theorem thn {α : Type} {t : Sem α} {Q Q' : α → Shared → Prop} {M : Model} {A : Around} {E : Value → Shared → Prop} {s : Shared} (h : wpAny M A t Q E s) (hQ : ∀ a s, Q a s → Q' a s) : wpAny M A t Q' E s := wpAny_mono h hQ fun _ _ x => x
end L2
namespace L2
open PySem PySem.Spec PyProof.Rows
section
variable {X : Cx}
def tVar (i : Nat) : TE := fun σ H Q => ∃ v, σ[i]? = some (some v) ∧ Q v H
def tC (v : V) : TE := fun _ H Q => Q v H
theorem pe_var {i : Nat} {x : Str} {pos : Pos} (hN : X.N[i]? = some x) (hv : Vis X.env.scope x) (hd : (x == ("__debug__" : Str)) = false := by decide) (hcd : (x == ("__classdict__" : Str)) = false := by decide) : PE X (.Name x pos) (tVar i) := by
  intro pins s σ H Q I h
  obtain ⟨v, e, h⟩ := h
  obtain ⟨m, hn, hl⟩ := I.loc
  obtain ⟨u, r, l⟩ := hl i x v hN e hv
  have fin : EP X pins σ Q u s := ⟨v, H, I, r, h⟩
  rcases l with ⟨hk, hm⟩ | ⟨hk, c, hc, hcell⟩
  · exact wpAny_Name (wpAny_loadName_local I.ok.kind hk hn hm fin) hd
  · rcases hk with hk | hk
    · exact wpAny_Name (wpAny_loadName_cell I.ok.kind hk hc hcell fin) hd
    · exact wpAny_Name (wpAny_loadName_free I.ok.kind hk hc hcell fin hcd) hd
theorem pe_int {i j pos} : PE X (.Constant (.int i) j pos) (tC (.int i)) := fun _ _ _ H _ I h => wpAny_Constant_int ⟨.int i, H, I.tok _, ⟨_, rfl⟩, h⟩
theorem pe_bl {b j pos} : PE X (.Constant (.bool b) j pos) (tC (.bl b)) := fun _ _ _ H _ I h => Constant_bool ⟨.bl b, H, I, rfl, h⟩
theorem pe_str {x j pos} : PE X (.Constant (.str x) j pos) (tC (.str x)) := fun _ _ _ H _ I h => Calls.Constant_str ⟨.str x, H, I.tok _, ⟨_, rfl⟩, h⟩
def Gl (X : Cx) (x : Str) : Prop := X.env.kindOf x = some .globalImplicit
theorem ld_glob {E : Value → Shared → Prop} {pins : List (Addr × Obj)} {s : Shared} {σ : St} {H : Hp} {x : Str} {u : Value} {pos : Pos} {Q : Value → Shared → Prop} (I : Inv X pins σ H s) (hg : Gl X x) (hm : X.mg x = some u) (h : Q u s)
    (hd : (x == ("__debug__" : Str)) = false := by decide) : wpAny (model X.prog X.w) X.A (eval (.Name x pos) X.env) Q E s :=
  Calls.Name_function_global I.ok.kind hg (Calls.loadGlobal_global (by rw [I.ok.glob]; exact I.mod.glob.keeps I.bk) hm h) hd
theorem ld_blt {E : Value → Shared → Prop} {pins : List (Addr × Obj)} {s : Shared} {σ : St} {H : Hp} {x : Str} {u : Value} {pos : Pos} {Q : Value → Shared → Prop} (I : Inv X pins σ H s) (hg : Gl X x) (hm : X.mg x = none) (hv : bootBuiltins x = some u) (h : Q u s)
    (hn : x ≠ "__name__" := by decide) (hd : (x == ("__debug__" : Str)) = false := by decide) : wpAny (model X.prog X.w) X.A (eval (.Name x pos) X.env) Q E s := by
  obtain ⟨mb, h1, h2⟩ := I.mod.blt
  exact Calls.Name_function_global I.ok.kind hg (Calls.loadGlobal_builtin (by rw [I.ok.glob]; exact I.mod.glob.keeps I.bk) hm (by rw [I.ok.blt]; exact h1.keeps I.bk) ((h2 x hn).trans hv) h) hd
theorem pe_glob {x : Str} {v : V} {u : Value} {pos : Pos} (hg : Gl X x) (hm : X.mg x = some u) (r : RelV v u) (hd : (x == ("__debug__" : Str)) = false := by decide) : PE X (.Name x pos) (tC v) :=
  fun _ _ _ H _ I h => ld_glob I hg hm ⟨v, H, I, r, h⟩ hd
theorem pe_bltn {x : Str} {v : V} {u : Value} {pos : Pos} (hg : Gl X x) (hm : X.mg x = none) (hv : bootBuiltins x = some u) (r : RelV v u) (hn : x ≠ "__name__" := by decide) (hd : (x == ("__debug__" : Str)) = false := by decide) : PE X (.Name x pos) (tC v) :=
  fun _ _ _ H _ I h => ld_blt I hg hm hv ⟨v, H, I, r, h⟩ hn hd
variable {a b : Expr} {ta tb : TE} {pos : Pos}
def PC (X : Cx) (op : CmpOp) (a b : Expr) (t : TE) : Prop :=
  ∀ (pins : List (Addr × Obj)) (s : Shared) (σ : St) (H : Hp) (Q : VK), Inv X pins σ H s → t σ H Q →
    wpAny (model X.prog X.w) X.A (eval a X.env) (fun v s₁ => wpAny (model X.prog X.w) X.A (eval b X.env) (fun u s₂ => wpAny (model X.prog X.w) X.A (compareOp op v u) (EP X pins σ Q) X.xe s₂) X.xe s₁) X.xe s
def tB (t : TE) : TT := fun σ H Q => t σ H fun x H1 => ∃ c, x = .bl c ∧ Q c H1
theorem pt_cmp {op : CmpOp} {t : TE} (h : PC X op a b t) (h1 : behindInMarks op b = false := by first | exact nobehind _ (by decide) (by decide) | rfl) : PT X (.Compare a [op] [b] pos) (tB t) := by
  intro pins s σ H Q I hw
  refine wpAny_isTrue_Compare1 (thn (h pins s σ H _ I hw) fun v s1 h1 => thn h1 fun u s2 h2 => thn h2 fun c s3 hm0 => ?_) h1
  obtain ⟨x, H1, I1, r1, q1⟩ := hm0
  obtain ⟨d, rfl, q⟩ := q1
  cases r1
  exact wpAny_truthy_bool ⟨H1, I1, q⟩
theorem pt_val {e : Expr} {t : TE} (h : PE X e t) (he : ∀ whole, isTrue e X.env whole = (do let v ← whole; standAt e.pos; holding [v] (truthy v)) := by intro _; rfl) : PT X e (tB t) := by
  intro pins s σ H Q I hw
  refine isTrue_plain (thn (h pins s σ H _ I hw) fun v s1 hm0 => ?_) (he _)
  obtain ⟨x, H1, I1, r1, q1⟩ := hm0
  obtain ⟨d, rfl, q⟩ := q1
  cases r1
  exact wpAny_truthy_bool ⟨H1, I1, q⟩
variable {tA tB' : TT} {rest : List Expr}
def tOr (t u : TT) : TT := fun σ H Q => t σ H fun c H1 => if c = true then Q true H1 else u σ H1 Q
def tNot (t : TT) : TT := fun σ H Q => t σ H fun c H1 => Q (!c) H1
theorem pw_or1 (ha : PT X a tA) : PW X (.BoolOp .Or [a] pos) tA := by
  intro wh pins s σ H Q I h
  refine isTrue_or (thn (ha pins s σ H Q I h) fun c s1 e => ?_)
  cases c with
  | false => exact isTrue_or_nil e
  | true => exact e
theorem pw_or (ha : PT X a tA) (hb : PW X (.BoolOp .Or (b :: rest) pos) tB') : PW X (.BoolOp .Or (a :: b :: rest) pos) (tOr tA tB') := by
  intro wh pins s σ H Q I h
  refine isTrue_or (thn (ha pins s σ H _ I h) fun c s1 hm0 => ?_)
  obtain ⟨H1, I1, q1⟩ := hm0
  cases c with
  | true => exact ⟨H1, I1, q1⟩
  | false => exact hb wh pins s1 σ H1 Q I1 q1
theorem pt_not (ha : PT X a tA) : PT X (.UnaryOp .Not a pos) (tNot tA) := by
  intro pins s σ H Q I h
  exact isTrue_not (ha pins s σ H (fun c H1 => Q (!c) H1) I h)
def tAndV (ta tb : TE) : TE := fun σ H Q => ta σ H fun x H1 => ∃ c, x = .bl c ∧ if c = true then tb σ H1 Q else Q (.bl false) H1
def tOrV (ta tb : TE) : TE := fun σ H Q => ta σ H fun x H1 => ∃ c, x = .bl c ∧ if c = true then Q (.bl true) H1 else tb σ H1 Q
def tNotV (ta : TE) : TE := fun σ H Q => ta σ H fun x H1 => ∃ c, x = .bl c ∧ Q (.bl (!c)) H1
theorem pe_one {op} {t : TE} (h : PE X a t) : PE X (.BoolOp op [a] pos) t := fun pins s σ H Q I hw => BoolOp_one (h pins s σ H Q I hw)
theorem pe_and (ha : PE X a ta) (hb : PE X (.BoolOp .And (b :: rest) pos) tb) : PE X (.BoolOp .And (a :: b :: rest) pos) (tAndV ta tb) := by
  intro pins s σ H Q I h
  refine BoolOp_and (thn (ha pins s σ H _ I h) fun v s1 hm0 => ?_)
  obtain ⟨x, H1, I1, r1, q1⟩ := hm0
  obtain ⟨c, rfl, q1⟩ := q1
  cases r1
  refine wpAny_truthy_bool ?_
  cases c with
  | true => exact hb pins s1 σ H1 Q I1 q1
  | false => exact ⟨.bl false, H1, I1, rfl, q1⟩
theorem pe_or (ha : PE X a ta) (hb : PE X (.BoolOp .Or (b :: rest) pos) tb) : PE X (.BoolOp .Or (a :: b :: rest) pos) (tOrV ta tb) := by
  intro pins s σ H Q I h
  refine BoolOp_or (thn (ha pins s σ H _ I h) fun v s1 hm0 => ?_)
  obtain ⟨x, H1, I1, r1, q1⟩ := hm0
  obtain ⟨c, rfl, q1⟩ := q1
  cases r1
  refine wpAny_truthy_bool ?_
  cases c with
  | false => exact hb pins s1 σ H1 Q I1 q1
  | true => exact ⟨.bl true, H1, I1, rfl, q1⟩
theorem pe_not (ha : PE X a ta) : PE X (.UnaryOp .Not a pos) (tNotV ta) := by
  intro pins s σ H Q I h
  refine UnaryOp_ (thn (ha pins s σ H _ I h) fun v s1 hm0 => ?_)
  obtain ⟨x, H1, I1, r1, q1⟩ := hm0
  obtain ⟨c, rfl, q1⟩ := q1
  cases r1
  exact not_of (wpAny_truthy_bool ⟨.bl (!c), H1, I1, rfl, q1⟩)
def tIf (t : TT) (ta tb : TE) : TE := fun σ H Q => t σ H fun c H1 => if c = true then ta σ H1 Q else tb σ H1 Q
theorem pe_ifExp {c : Expr} (hc : PT X c tA) (ha : PE X a ta) (hb : PE X b tb) : PE X (.IfExp c a b pos) (tIf tA ta tb) := by
  intro pins s σ H Q I h
  refine wpAny_IfExp (thn (hc pins s σ H _ I h) fun d s1 hm0 => ?_)
  obtain ⟨H1, I1, q1⟩ := hm0
  cases d with
  | true => exact ha pins s1 σ H1 Q I1 q1
  | false => exact hb pins s1 σ H1 Q I1 q1
end
end L2
namespace L2
open PySem PySem.Spec PyProof.Rows
def SqL (K : PySem.W.Frag) (H : Hp) (a : Addr) (xs : List V) : Prop :=
  Rd H a (.lst xs) ∨
    ∃ (o : Obj) (its : Array Value) (n : Nat), K.lookup a = some o ∧ o.cls = .type "list" ∧ o.dict = none ∧ o.data = .seq its n ∧ its.size ≤ sizeLine ∧ Vals xs its.toList
def SqT (K : PySem.W.Frag) (H : Hp) (a : Addr) (xs : List V) : Prop :=
  Rd H a (.tup xs) ∨
    ∃ (o : Obj) (its : Array Value) (n : Nat), K.lookup a = some o ∧ o.cls = .type "tuple" ∧ o.data = .seq its n ∧ its.size ≤ sizeLine ∧ Vals xs its.toList
def absV : Value → Option V
  | .none => some .non
  | .bool b => some (.bl b)
  | .int i _ => some (.int i)
  | .str x _ => some (.str x)
  | .bytes b _ => some (.byt b)
  | .float b _ => some (.flt b)
  | .ref a => some (.ref a)
  | .type n => some (.ty n)
  | _ => none
theorem RelV.abs {x : V} {u : Value} (r : RelV x u) : absV u = some x := by
  cases x with
  | non => cases r; rfl
  | bl _ => cases r; rfl
  | int _ => obtain ⟨t, rfl⟩ := r; rfl
  | str _ => obtain ⟨t, rfl⟩ := r; rfl
  | byt _ => obtain ⟨t, rfl⟩ := r; rfl
  | flt _ => obtain ⟨t, rfl⟩ := r; rfl
  | ref _ => cases r; rfl
  | ty _ => cases r; rfl
theorem RelV.inj {x y : V} {u : Value} (r : RelV x u) (q : RelV y u) : x = y := Option.some.inj (r.abs.symm.trans q.abs)
theorem Vals.inj : ∀ {xs ys : List V} {us : List Value}, Vals xs us → Vals ys us → xs = ys
  | _, _, _, .nil, .nil => rfl
  | _, _, _, .cons r t, .cons r' t' => by rw [r.inj r', Vals.inj t t']
section
variable {X : Cx} {pins : List (Addr × Obj)} {σ : St} {H : Hp} {s : Shared} {a : Addr} {xs ys : List V}
theorem SqL.of {K : PySem.W.Frag} (h : H a = some (.lst xs)) : SqL K H a xs := .inl (.inl h)
theorem SqT.of {K : PySem.W.Frag} (h : H a = some (.tup xs)) : SqT K H a xs := .inl (.inl h)
theorem Inv.list (I : Inv X pins σ H s) (h : SqL X.K H a xs) : ∃ its : List Value, Vals xs its ∧ PlainL s.heap a its.toArray ∧ xs.length ≤ sizeLine := by
  rcases h with h | ⟨o, its, n, hk, hc, hd, hs, hz, r⟩
  · obtain ⟨z, its, n, r, e⟩ := h.ok I.hok
    exact ⟨its, r, ⟨_, n, e, rfl, rfl, rfl⟩, z⟩
  · refine ⟨its.toList, r, ⟨o, n, I.kIn a o hk, hc, hd, by simpa using hs⟩, ?_⟩
    have e := r.length
    simp only [Array.length_toList] at e
    omega
theorem Inv.tuple (I : Inv X pins σ H s) (h : SqT X.K H a xs) : ∃ its : List Value, Vals xs its ∧ IsTup s.heap a its.toArray ∧ xs.length ≤ sizeLine := by
  rcases h with h | ⟨o, its, n, hk, hc, hs, hz, r⟩
  · obtain ⟨z, its, r, p⟩ := h.ok I.hok
    exact ⟨its, r, p, z⟩
  · refine ⟨its.toList, r, ⟨o, I.kIn a o hk, hc, n, by simpa using hs⟩, ?_⟩
    have e := r.length
    simp only [Array.length_toList] at e
    omega
theorem Inv.list_inj (I : Inv X pins σ H s) (h : SqL X.K H a xs) (h' : SqL X.K H a ys) : xs = ys := by
  obtain ⟨its, r, ⟨o, n, e, _, _, d⟩, _⟩ := I.list h
  obtain ⟨its', r', ⟨o', n', e', _, _, d'⟩, _⟩ := I.list h'
  rw [e] at e'; cases e'
  rw [d] at d'
  injection d' with d1 _
  have : its = its' := by simpa using congrArg Array.toList d1
  subst this
  exact r.inj r'
end
abbrev Cx.wish (X : Cx) (E : Value → Shared → Prop) : Cx := { X with xe := E }
abbrev Cx.nox (X : Cx) : Cx := X.wish fun _ _ => False
theorem Cx.Ok.wish {X : Cx} (ok : X.Ok) (E : Value → Shared → Prop) : (X.wish E).Ok :=
  ⟨ok.mod, ok.kind, ok.glob, ok.blt, ok.above, ok.inj, ok.has, ok.cab, ok.hd, ok.frames, ok.stk, ok.exf, ok.bs, ok.bsz, ok.noex, ok.exfs, ok.funs, ok.frf⟩
theorem Cx.Ok.unwish {X : Cx} {E : Value → Shared → Prop} (ok : (X.wish E).Ok) : X.Ok :=
  ⟨ok.mod, ok.kind, ok.glob, ok.blt, ok.above, ok.inj, ok.has, ok.cab, ok.hd, ok.frames, ok.stk, ok.exf, ok.bs, ok.bsz, ok.noex, ok.exfs, ok.funs, ok.frf⟩
section
variable {X : Cx} {pins : List (Addr × Obj)} {σ : St} {H : Hp} {s : Shared} {E : Value → Shared → Prop}
theorem Inv.wish (I : Inv X pins σ H s) (E : Value → Shared → Prop) : Inv (X.wish E) pins σ H s := ⟨I.ok.wish E, I.os, I.bare, I.base, I.loc, I.cell, I.free, I.freeC, I.pin, I.hok, I.len⟩
theorem Inv.unwish (I : Inv (X.wish E) pins σ H s) : Inv X pins σ H s := ⟨I.ok.unwish, I.os, I.bare, I.base, I.loc, I.cell, I.free, I.freeC, I.pin, I.hok, I.len⟩
theorem SP.unwish {D : Ends} {f : Flow} {s' : Shared} (h : SP (X.wish E) pins D f s') : SP X pins D f s' := by
  cases f with
  | next => obtain ⟨σ', H', I, q⟩ := h; exact ⟨σ', H', I.unwish, q⟩
  | brk => obtain ⟨σ', H', I, q⟩ := h; exact ⟨σ', H', I.unwish, q⟩
  | cont => obtain ⟨σ', H', I, q⟩ := h; exact ⟨σ', H', I.unwish, q⟩
  | ret u => obtain ⟨v, σ', H', I, r, q⟩ := h; exact ⟨v, σ', H', I.unwish, r, q⟩
theorem PSs.nox {st : List Stmt} {t : TS} (h : PSs X.nox st t) : PSs X st t := fun pins s σ H D I hw =>
  wpAny_mono (h pins s σ H D (I.wish _) hw) (fun _ _ q => q.unwish) fun _ _ z => False.elim z
end
section
variable {X : Cx} {st : Stmt} {rest : List Stmt} {t u : TS} {e : Expr} {te : TE} {pos : Pos}
def tNext : TS := fun D σ H => D.nx σ H
def tSeq (t u : TS) : TS := fun D σ H => t { D with nx := u D } σ H
theorem pss_nil : PSs X [] tNext := fun _ _ σ H _ I h => wpAny_execs_nil ⟨σ, H, I, h⟩
theorem pss_cons (h1 : PS X st t) (h2 : PSs X rest u) : PSs X (st :: rest) (tSeq t u) := by
  intro pins s σ H D I h
  refine wpAny_execs_cons (thn (h1 pins s σ H { D with nx := u D } I h) fun f s1 q => ?_)
  cases f with
  | next =>
    obtain ⟨σ', H', I', q⟩ := q
    exact h2 pins s1 σ' H' D I' q
  | ret v => exact q
  | brk => exact q
  | cont => exact q
theorem pss_one (h1 : PS X st t) : PSs X [st] t := by
  intro pins s σ H D I h
  refine wpAny_execs_cons (thn (h1 pins s σ H D I h) fun f s1 q => ?_)
  cases f with
  | next => exact wpAny_execs_nil q
  | ret v => exact q
  | brk => exact q
  | cont => exact q
theorem Inv.quiet {pins : List (Addr × Obj)} {σ : St} {H : Hp} {s : Shared} (I : Inv X pins σ H s) : interactive X.env = false := by simp [interactive, I.ok.kind]
def tDrop (te : TE) : TS := fun D σ H => te σ H fun _ H1 => D.nx σ H1
theorem ps_expr (he : PE X e te) (hs : swapsWith e none pos.line X.env = pure false := by rfl) : PS X (.Expr e pos) (tDrop te) := by
  intro pins s σ H D I h
  refine wpAny_Expr_any (thn (he pins s σ H _ I h) fun v s1 hm0 => ?_) I.quiet hs
  obtain ⟨x, H1, I1, r1, q1⟩ := hm0
  exact ⟨σ, H1, I1, q1⟩
def tRet (te : TE) : TS := fun D σ H => te σ H D.rt
theorem ps_ret (he : PE X e te) : PS X (.Return (some e) pos) (tRet te) := by
  intro pins s σ H D I h
  refine wpAny_Return_some (thn (he pins s σ H _ I h) fun v s1 hm0 => ?_)
  obtain ⟨x, H1, I1, r1, q1⟩ := hm0
  exact ⟨x, σ, H1, I1, r1, q1⟩
def tIfS (c : TT) (t u : TS) : TS := fun D σ H => c σ H fun b H1 => if b = true then t D σ H1 else u D σ H1
theorem ps_if {c : Expr} {a b : List Stmt} {tc : TT} (hc : PT X c tc) (ha : PSs X a t) (hb : PSs X b u) : PS X (.If c a b pos) (tIfS tc t u) := by
  intro pins s σ H D I h
  refine wpAny_If (thn (hc pins s σ H _ I h) fun d s1 hm0 => ?_)
  obtain ⟨H1, I1, q1⟩ := hm0
  cases d with
  | true => exact ha pins s1 σ H1 D I1 q1
  | false => exact hb pins s1 σ H1 D I1 q1
def tNever : TS := fun _ _ _ => False
theorem ps_never : PS X st tNever := fun _ _ _ _ _ _ h => h.elim
end
abbrev TG := V → St → Hp → (St → Hp → Prop) → Prop
abbrev TGs := List V → St → Hp → (St → Hp → Prop) → Prop
def PG (X : Cx) (target : Expr) (t : TG) : Prop :=
  ∀ (pins : List (Addr × Obj)) (s : Shared) (σ : St) (H : Hp) (v : V) (u : Value) (Q : St → Hp → Prop), Inv X pins σ H s → RelV v u → t v σ H Q →
    wpAny (model X.prog X.w) X.A (assign target X.env u) (fun _ s' => ∃ σ' H', Inv X pins σ' H' s' ∧ Q σ' H') X.xe s
def PGs (X : Cx) (ts : List Expr) (t : TGs) : Prop :=
  ∀ (pins : List (Addr × Obj)) (s : Shared) (σ : St) (H : Hp) (vs : List V) (us : List Value) (Q : St → Hp → Prop), Inv X pins σ H s → Vals vs us → t vs σ H Q →
    wpAny (model X.prog X.w) X.A (assignInOrder ((assignEach ts X.env).map (·.2)) us) (fun _ s' => ∃ σ' H', Inv X pins σ' H' s' ∧ Q σ' H') X.xe s
section
variable {X : Cx} {pos : Pos}
def gName (i : Nat) : TG := fun v σ H Q => Q (σ.set i (some v)) H
theorem pg_name {i : Nat} {x : Str} (hN : X.N.Nodup) (hi : X.N[i]? = some x) (hx : Loc X.env.scope x) (hf : X.fn x = true ∨ X.env.scope.names.lookup x = some .local := by first | exact .inl rfl | exact .inr rfl | assumption) : PG X (.Name x pos) (gName i) := by
  intro pins s σ H v u Q I r h
  exact wpAny_assign_Name (store_ok I hN hi hx r (fun s' I' => ⟨_, H, I', h⟩) hf)
def gNil : TGs := fun vs σ H Q => vs = [] ∧ Q σ H
def gCons (t : TG) (u : TGs) : TGs := fun vs σ H Q => ∃ v r, vs = v :: r ∧ t v σ H fun σ' H' => u r σ' H' Q
theorem pgs_nil : PGs X [] gNil := by
  intro pins s σ H vs us Q I r h
  obtain ⟨e, h⟩ := h
  subst e
  cases r
  exact assignInOrder_nil ⟨σ, H, I, h⟩
theorem pgs_cons {e : Expr} {es : List Expr} {t : TG} {u : TGs} (h1 : PG X e t) (h2 : PGs X es u)
    (hs : (assignEach (e :: es) X.env).map (·.2) = assign e X.env :: (assignEach es X.env).map (·.2) := by rfl) : PGs X (e :: es) (gCons t u) := by
  intro pins s σ H vs us Q I r h
  obtain ⟨v, vr, e1, h⟩ := h
  subst e1
  cases r with
  | cons r rr =>
    rw [hs]
    refine assignInOrder_cons (thn (h1 pins s σ H _ _ _ I r h) fun _ s1 hm0 => ?_)
    obtain ⟨σ1, H1, I1, q1⟩ := hm0
    exact h2 pins s1 σ1 H1 _ _ Q I1 rr q1
def gTup (K : PySem.W.Frag) (n : Nat) (t : TGs) : TG := fun v σ H Q => ∃ a xs, v = .ref a ∧ SqT K H a xs ∧ xs.length = n ∧ t xs σ H Q
theorem pg_tup {es : List Expr} {k : Nat} {t : TGs} {n : Nat} (hc : X.calm = true) (h : PGs X es t)
    (hn : (assignEach es X.env).length = n := by rfl) (hst : (assignEach es X.env).findIdx? (·.1) = none := by rfl) : PG X (.Tuple es k pos) (gTup X.K n t) := by
  intro pins s σ H v u Q I r hw
  obtain ⟨a, xs, e1, hq, hl, hw⟩ := hw
  subst e1
  cases r
  obtain ⟨its, rv, ht, hz⟩ := I.tuple hq
  refine assign_Tuple_tuple (I.ok.hd hc) ht (by simp [hn, ← hl, rv.length]) hst fun h' hx => ?_
  have I1 : Inv X pins σ H { s with heap := h' } := I.kept (t' := s.toks) fun b o e => hx b o (Nat.ne_of_lt (Heap.lt_size e)) e
  exact h pins _ σ H xs _ Q I1 (by simpa using rv) hw
def tAsg (te : TE) (g : TG) : TS := fun D σ H => te σ H fun x H1 => g x σ H1 D.nx
theorem ps_set {i : Nat} {x : Str} {e : Expr} {te : TE} {pos' : Pos} (hN : X.N.Nodup) (hi : X.N[i]? = some x) (hx : Loc X.env.scope x) (he : PE X e te) (hs : swapsWith e (some (.Name x pos')) pos.line X.env = pure false := by rfl) (hf : X.fn x = true ∨ X.env.scope.names.lookup x = some .local := by first | exact .inl rfl | exact .inr rfl | assumption) :
    PS X (.Assign [.Name x pos'] e pos) (tAsg te (gName i)) := by
  intro pins s σ H D I h
  refine wpAny_Assign_Name (thn (he pins s σ H _ I h) fun v s1 hm0 => ?_) hs
  obtain ⟨y, H1, I1, r1, q1⟩ := hm0
  exact store_ok I1 hN hi hx r1 (fun s2 I2 => ⟨_, H1, I2, q1⟩) hf
end
section
variable {X : Cx} {pos : Pos}
end
structure It where
  go : Nat → Hp → Prop
  yld : Nat → Hp → V → Hp → Prop
  stop : Nat → Hp → Prop
def FpOk (X : Cx) (pins : List (Addr × Obj)) (H : Hp) (b : Addr) : Prop :=
  H b = none ∧ b ≠ X.env.locals ∧ b ∉ X.fs ∧ (b ∈ X.ex ∨ X.s₀.heap.objs.size ≤ b) ∧ (∀ x c, X.env.cells.lookup x = some c → c ≠ b) ∧ ∀ p ∈ X.pn ++ pins, p.1 ≠ b
theorem Inv.fpOk {X : Cx} {pins : List (Addr × Obj)} {σ : St} {H H' : Hp} {s : Shared} {b : Addr} (I : Inv X pins σ H s) (hb : s.heap.objs.size ≤ b) (hn : H' b = none) : FpOk X pins H' b := by
  refine ⟨hn, Nat.ne_of_gt (Nat.lt_of_lt_of_le I.lt hb), I.nofs hb, .inr (Nat.le_trans I.sz hb), fun x c e z => ?_, fun p hp z => ?_⟩
  · obtain ⟨v, q⟩ := I.cell x c e
    exact absurd (Nat.lt_of_lt_of_le q.lt (by rw [z]; exact hb)) (Nat.lt_irrefl _)
  · exact absurd (Nat.lt_of_lt_of_le (Heap.lt_size (I.pin p hp).1) (by rw [z]; exact hb)) (Nat.lt_irrefl _)
structure Turn (P : Program) (w : World) (K : PySem.W.Frag) (tg : Expr) (J : It) (fp : List Addr) (it : Addr) (tn : Nat → Heap → Prop) : Prop where
  mem : it ∈ fp
  obj : ∀ i h, tn i h → ∀ b ∈ fp, ∃ o, h.get? b = some o ∧ ∀ v, o.data ≠ .cell v
  keep : ∀ i h h', tn i h → (∀ b ∈ fp, ∀ o, h.get? b = some o → h'.get? b = some o) → tn i h'
  item : ∀ (X : Cx), X.prog = P → X.w = w → X.K = K → X.calm = true → ∀ (i : Nat) (pins : List (Addr × Obj)) (s : Shared) (σ : St) (H : Hp) (E : Value → Shared → Prop), Inv X pins σ H s → (∀ b ∈ fp, FpOk X pins H b) → tn i s.heap → J.go i H →
    wpAny (model P w) X.A (pyNext (.ref it)) (fun r s1 => ∃ u, r = some u ∧
      wpAny (model P w) X.A (letOwnedTupleGo tg (.ref it) u) (fun _ s2 => ∃ x H', Inv X pins σ H' s2 ∧ RelV x u ∧ J.yld i H x H' ∧ tn (i + 1) s2.heap ∧ ∀ b ∈ fp, H' b = none) E s1) E s
  done : ∀ (X : Cx), X.prog = P → X.w = w → X.K = K → X.calm = true → ∀ (i : Nat) (pins : List (Addr × Obj)) (s : Shared) (σ : St) (H : Hp) (E : Value → Shared → Prop), Inv X pins σ H s → (∀ b ∈ fp, FpOk X pins H b) → tn i s.heap → J.stop i H →
    wpAny (model P w) X.A (pyNext (.ref it)) (fun r s1 => r = none ∧ Inv X pins σ H s1) E s
  self : ∀ (A : Around) (i : Nat) (s : Shared) (Q : Value → Shared → Prop) (E : Value → Shared → Prop), tn i s.heap → Q (.ref it) s → wpAny (model P w) A (pyIter (.ref it)) Q E s
abbrev TI := St → Hp → (It → Hp → Prop) → Prop
def PIE (X : Cx) (pins : List (Addr × Obj)) (σ : St) (tg : Expr) (R : It → Hp → Prop) (itv : Value) (s2 : Shared) : Prop :=
  ∃ (it : Addr) (fp : List Addr) (tn : Nat → Heap → Prop) (J : It) (H' : Hp), itv = .ref it ∧ Inv X pins σ H' s2 ∧ Turn X.prog X.w X.K tg J fp it tn ∧ tn 0 s2.heap ∧ (∀ b ∈ fp, FpOk X pins H' b) ∧ R J H'
def PI (X : Cx) (tg iter : Expr) (wi : TI) : Prop :=
  ∀ (pins : List (Addr × Obj)) (s : Shared) (σ : St) (H : Hp) (R : It → Hp → Prop), Inv X pins σ H s → wi σ H R →
    wpAny (model X.prog X.w) X.A (eval iter X.env) (fun v s1 => wpAny (model X.prog X.w) X.A (pyIter v) (PIE X pins σ tg R) X.xe s1) X.xe s
theorem go_of {M : Model} {A : Around} {E : Value → Shared → Prop} {s : Shared} {tg : Expr} {it : Addr} {u : Value} {o : Obj} {n : String} {vs : Array Value} {Q : Unit → Shared → Prop} (ho : s.heap.get? it = some o) (hc : o.cls = .type n) (hd : o.data = .fields vs)
    (hn : ["enumerate", "zip", "dict_itemiterator", "dict_reverseitemiterator", "odict_iterator", "itertools.zip_longest", "itertools.pairwise"].contains n = false) (hQ : Q () s) : wpAny M A (letOwnedTupleGo tg (.ref it) u) Q E s := by
  unfold letOwnedTupleGo
  cases tg <;> first
    | exact wpAny_pure hQ
    | (cases u <;> first
        | exact wpAny_pure hQ
        | (refine wpAny_bind (wpAny_load ho ?_)
           rw [hc, hd]
           show wpAny M A (if (["enumerate", "zip", "dict_itemiterator", "dict_reverseitemiterator", "odict_iterator", "itertools.zip_longest", "itertools.pairwise"].contains n && vs[0]? == some (rawInt _)) = true then _ else _) Q E s
           rw [if_neg (by intro h; rw [hn, Bool.false_and] at h; cases h)]
           exact wpAny_pure hQ))
def Itl (K : PySem.W.Frag) (a : Addr) : It :=
  ⟨fun i H => ∃ xs x, SqL K H a xs ∧ xs[i]? = some x, fun i H x H' => H' = H ∧ ∀ xs, SqL K H a xs → xs[i]? = some x, fun i H => ∃ xs, SqL K H a xs ∧ xs.length ≤ i⟩
def Itr (lo : Int) (n : Nat) : It := ⟨fun i _ => i < n, fun i H x H' => H' = H ∧ x = .int (lo + i), fun i _ => n ≤ i⟩
theorem turn_list {P : Program} {w : World} {K : PySem.W.Frag} {tg : Expr} (a it : Addr) : Turn P w K tg (Itl K a) [it] it (fun i h => h.IsListIter it a i) where
  mem := by simp
  obj := fun i h st b hb => by
    have e : b = it := by simpa using hb
    subst e
    obtain ⟨o, e, c, d⟩ := st
    exact ⟨o, e, fun v z => by rw [d] at z; cases z⟩
  keep := fun i h h' st k => st.at fun o e => k it (by simp) o e
  item := by
    intro X hP hw hK hc i pins s σ H E I hf st hg
    subst hP hw hK
    obtain ⟨xs, x, hq, hx⟩ := hg
    obtain ⟨its, rv, p, hz⟩ := I.list hq
    obtain ⟨u, hu, ru⟩ := rv.get hx
    obtain ⟨f0, f1, f2, f3, f4, f5⟩ := hf it (by simp)
    refine wpAny_pyNext_list_item st p.isList (x := u) (by simpa using hu) fun h' st' sb => ?_
    have I1 : Inv X pins σ H { s with heap := h' } := I.turned (t' := s.toks) (fun b o hb e => (sb.2 b hb).trans e) f0 f1 f3 f4 f5
    obtain ⟨o, e, c, d⟩ := id st'
    exact ⟨u, rfl, go_of (s := { s with heap := h' }) e c d (by decide) ⟨x, H, I1, ru, ⟨rfl, fun ys hy => by rw [I.list_inj hy hq]; exact hx⟩, st', fun b hb => (hf b hb).1⟩⟩
  done := by
    intro X hP hw hK hc i pins s σ H E I hf st hg
    subst hP hw hK
    obtain ⟨xs, hq, hx⟩ := hg
    obtain ⟨its, rv, p, hz⟩ := I.list hq
    obtain ⟨f0, f1, f2, f3, f4, f5⟩ := hf it (by simp)
    have hl := rv.length
    exact wpAny_pyNext_list_end (I.ok.hd hc) st p.isList (by simp; omega) fun h' eb => ⟨rfl, I.turned (t' := s.toks) (fun b o hb e => eb b o hb e) f0 f1 f3 f4 f5⟩
  self := fun _ _ _ _ _ st h => wpAny_pyIter_listiter st h
theorem turn_range {P : Program} {w : World} {K : PySem.W.Frag} {tg : Expr} (it : Addr) (lo : Int) (n : Nat) : Turn P w K tg (Itr lo n) [it] it (fun i h => IsRangeIter h it (lo + (i : Nat) * 1) ((n : Int) - (i : Nat)) 1) where
  mem := by simp
  obj := fun i h st b hb => by
    have e : b = it := by simpa using hb
    subst e
    exact ⟨_, st, fun v z => by
      have z' : Data.fields _ = Data.cell v := z
      cases z'⟩
  keep := fun i h h' st k => k it (by simp) _ st
  item := by
    intro X hP hw hK hc i pins s σ H E I hf st hg
    subst hP hw hK
    obtain ⟨f0, f1, f2, f3, f4, f5⟩ := hf it (by simp)
    have W := Walks.range (prog := X.prog) (w := X.w) (I.ok.hd hc) it lo 1 n
    refine W.item i s _ _ hg st fun v h' tk hv st' kk => ?_
    obtain ⟨t, rfl⟩ := hv
    have I1 : Inv X pins σ H { s with heap := h', toks := tk } := I.turned (fun b o hb e => kk b o (by simpa using hb) e) f0 f1 f3 f4 f5
    refine ⟨_, rfl, go_of (s := { s with heap := h', toks := tk }) (n := "range_iterator") st' rfl rfl (by decide) ⟨.int (lo + i), H, I1, ⟨t, ?_⟩, ⟨rfl, rfl⟩, st', fun b hb => (hf b hb).1⟩⟩
    rw [Int.mul_one]
  done := by
    intro X hP hw hK hc i pins s σ H E I hf st hg
    subst hP hw hK
    obtain ⟨f0, f1, f2, f3, f4, f5⟩ := hf it (by simp)
    exact wpAny_pyNext_range_end (I.ok.hd hc) st (by have : n ≤ i := hg; omega) fun h' eb => ⟨rfl, I.turned (t' := s.toks) (fun b o hb e => eb b o hb e) f0 f1 f3 f4 f5⟩
  self := fun _ _ _ _ _ st h => wpAny_pyIter_rangeiter st h
end L2
namespace L2
open PySem PySem.Spec PyProof.Rows
section
variable {X : Cx} {tg : Expr}
def iList (K : PySem.W.Frag) (tl : TE) : TI := fun σ H R => tl σ H fun x H1 => ∃ a, x = .ref a ∧ (∃ xs, SqL K H1 a xs) ∧ R (Itl K a) H1
theorem pi_list {l : Expr} {tl : TE} (hl : PE X l tl) : PI X tg l (iList X.K tl) := by
  intro pins s σ H R I h
  refine thn (hl pins s σ H _ I h) fun v s1 hm0 => ?_
  obtain ⟨x, H1, I1, r1, q1⟩ := hm0
  obtain ⟨a, e, ⟨xs, hq⟩, q⟩ := q1
  subst e
  cases r1
  obtain ⟨its, rv, p, hz⟩ := I1.list hq
  refine wpAny_pyIter_list p.isList ?_
  refine ⟨s1.heap.objs.size, [s1.heap.objs.size], _, _, H1, rfl, I1.kept (t' := s1.toks) fun b o e => Heap.get?_push_of_some _ e, turn_list a _, ⟨_, Heap.get?_push_size _ rfl, rfl, rfl⟩, fun b hb => ?_, q⟩
  have e : b = s1.heap.objs.size := by simpa using hb
  subst e
  exact I1.fpOk (Nat.le_refl _) (I1.hok.fresh (Nat.le_refl _))
theorem range_it {pins : List (Addr × Obj)} {σ : St} {H : Hp} {s : Shared} {R : It → Hp → Prop} {E : Value → Shared → Prop} {lo hi : Int} {t u v : Tok} {tk : Nat} (I : Inv X pins σ H s) (h1 : -(2 ^ 62) ≤ lo) (h2 : lo < 2 ^ 62) (h3 : -(2 ^ 62) ≤ hi) (h4 : hi < 2 ^ 62)
    (q : R (Itr lo (hi - lo).toNat) H) : wpAny (model X.prog X.w) X.A (pyIter (.ref s.heap.objs.size)) (PIE X pins σ tg R) E { s with heap := s.heap.push { cls := .type "range", data := .fields #[.int lo t, .int hi u, .int 1 v] }, toks := tk } := by
  refine wpAny_pyIter_range (IsRange.new ..) (small_one h1 h2 h3 h4) ?_
  have I1 : Inv X pins σ H { s with heap := s.heap.push { cls := .type "range", data := .fields #[.int lo t, .int hi u, .int 1 v] }, toks := tk } := I.kept fun b o e => Heap.get?_push_of_some _ e
  refine ⟨(s.heap.push { cls := .type "range", data := .fields #[.int lo t, .int hi u, .int 1 v] }).objs.size, [(s.heap.push { cls := .type "range", data := .fields #[.int lo t, .int hi u, .int 1 v] }).objs.size], _, _, H, rfl,
    I1.kept (t' := tk) fun b o e => Heap.get?_push_of_some _ e, turn_range _ lo (hi - lo).toNat, ?_, fun b hb => ?_, q⟩
  · have e1 : lo + ((0 : Nat) : Int) * 1 = lo := by simp
    have e2 : (((hi - lo).toNat : Nat) : Int) - ((0 : Nat) : Int) = Builtin.Range.rangeSize lo hi 1 := by rw [rangeSize_one]; split <;> omega
    show IsRangeIter _ _ (lo + ((0 : Nat) : Int) * 1) ((((hi - lo).toNat : Nat) : Int) - ((0 : Nat) : Int)) 1
    rw [e1, e2]
    exact Heap.get?_push_size _ rfl
  · have e : b = (s.heap.push { cls := .type "range", data := .fields #[.int lo t, .int hi u, .int 1 v] }).objs.size := by simpa using hb
    subst e
    exact I1.fpOk (Nat.le_refl _) (I1.hok.fresh (Nat.le_refl _))
def iRng1 (ta : TA) : TI := fun σ H R => ta σ H fun vs H1 => ∃ j : Int, vs = [.int j] ∧ -(2 ^ 62) ≤ j ∧ j < 2 ^ 62 ∧ R (Itr 0 j.toNat) H1
theorem pi_range1 {a : Expr} {ta : TA} {p pos : Pos} (hg : Gl X "range") (hm : X.mg "range" = none) (ha : PA X [a] ta) (hs : starEach [a] X.env = [(false, eval a X.env)] := by rfl) : PI X tg (.Call (.Name "range" p) [a] [] pos) (iRng1 ta) := by
  intro pins s σ H R I h
  refine Call_ (ld_blt I hg hm boot_range (PyProof.Rows.callWith_type1 (thn (ha pos pins s σ H _ I h) fun us s1 hm0 => ?_) hs rfl))
  obtain ⟨vs, H1, I1, r1, q1⟩ := hm0
  obtain ⟨j, e, q1, q2, q⟩ := q1
  subst e
  cases r1 with
  | cons r rr =>
    cases rr
    obtain ⟨t, rfl⟩ := r
    exact call_range_1 (range_it I1 (by omega) (by omega) q1 q2 (by simpa using q))
def tFor (wi : TI) (g : TG) (tb : TS) : TS := fun D σ H => wi σ H fun J H1 => ∃ W : Nat → Nat → St → Hp → Prop, (∃ m, W 0 m σ H1) ∧ ∀ i m σ H, W i m σ H →
  (J.stop i H ∧ D.nx σ H) ∨ (J.go i H ∧ ∃ N : St → Hp → Prop, (∀ σ' H', N σ' H' → ∃ m', m' < m ∧ W (i + 1) m' σ' H') ∧ ∀ x H', J.yld i H x H' → g x σ H' fun σ2 H2 => tb { D with nx := N, ct := N, bk := D.nx } σ2 H2)
def pinsAt (fp : List Addr) (h : Heap) : List (Addr × Obj) := fp.filterMap fun b => (h.get? b).map fun o => (b, o)
theorem mem_pinsAt {fp : List Addr} {h : Heap} {b : Addr} {o : Obj} (hb : b ∈ fp) (e : h.get? b = some o) : (b, o) ∈ pinsAt fp h := List.mem_filterMap.mpr ⟨b, hb, by rw [e]; rfl⟩
theorem of_pinsAt {fp : List Addr} {h : Heap} {p : Addr × Obj} (hp : p ∈ pinsAt fp h) : p.1 ∈ fp ∧ h.get? p.1 = some p.2 := by
  obtain ⟨b, hb, e⟩ := List.mem_filterMap.mp hp
  cases q : h.get? b with
  | none => rw [q] at e; cases e
  | some o =>
    rw [q] at e
    have e' : (b, o) = p := Option.some.inj e
    subst e'
    exact ⟨hb, q⟩
theorem Inv.pinned {pins : List (Addr × Obj)} {σ : St} {H : Hp} {s : Shared} {fp : List Addr} (I : Inv X pins σ H s) (hf : ∀ b ∈ fp, FpOk X pins H b) (ho : ∀ b ∈ fp, ∃ o, s.heap.get? b = some o ∧ ∀ v, o.data ≠ .cell v) : Inv X (pins ++ pinsAt fp s.heap) σ H s :=
  I.pins_of fun p hp => (List.mem_append.mp hp).elim (fun z => I.pin p (List.mem_append_right _ z)) fun z => by
    obtain ⟨hb, e⟩ := of_pinsAt z
    obtain ⟨f0, f1, f2, _⟩ := hf p.1 hb
    obtain ⟨o, e', d⟩ := ho p.1 hb
    rw [e] at e'; cases e'
    exact ⟨e, f0, f1, f2, d⟩
theorem Inv.unpinned {pins pl : List (Addr × Obj)} {σ : St} {H : Hp} {s : Shared} (I : Inv X (pins ++ pl) σ H s) : Inv X pins σ H s := I.pins_of fun p hp => I.pin p (List.mem_append_right _ (List.mem_append_left _ hp))
theorem ps_for {iter : Expr} {body : List Stmt} {wi : TI} {g : TG} {tb : TS} {pos : Pos} (hp : PassesOwn (model X.prog X.w) X.A X.env X.xe) (hc : X.calm = true) (hi : PI X tg iter wi) (hg : PG X tg g) (hb : PSs X body tb)
    (hs : ∀ x, foldedSetIterable iter X.env x = pure x := by intro _; rfl) : PS X (.For tg iter body [] pos) (tFor wi g tb) := by
  intro pins s σ H D I h
  refine wpAny_For (thn (hi pins s σ H _ I h) fun v s1 h1 => thn h1 fun itv s2 h2 => ?_) hs
  obtain ⟨it, fp, tn, J, H2, e, I2, T, st2, f2, W, ⟨m0, w0⟩, turn⟩ := h2
  subst e
  have stat : ∀ {H' : Hp}, (∀ b ∈ fp, H' b = none) → ∀ b ∈ fp, FpOk X pins H' b := fun hn b hb => ⟨hn b hb, (f2 b hb).2⟩
  refine codeAny_forLoop_any (fun n s' => ∃ i σ' H', Inv X pins σ' H' s' ∧ tn i s'.heap ∧ (∀ b ∈ fp, H' b = none) ∧ W i n σ' H') ?_ m0 ⟨0, σ, H2, I2, st2, fun b hb => (f2 b hb).1, w0⟩
  rintro n s3 ⟨i, σ3, H3, I3, st3, fr3, w3⟩
  rcases turn i n σ3 H3 w3 with ⟨stop, qn⟩ | ⟨go, N, hN, step⟩
  · refine wpAny_passesOwn hp (thn (T.done X rfl rfl rfl hc i pins s3 σ3 H3 X.xe I3 (stat fr3) st3 stop) fun r s4 hm0 => ?_)
    obtain ⟨hr, I4⟩ := hm0
    subst hr
    exact wpAny_execs_nil ⟨σ3, H3, I4, qn⟩
  · refine wpAny_passesOwn hp (thn (T.item X rfl rfl rfl hc i pins s3 σ3 H3 X.xe I3 (stat fr3) st3 go) fun r s4 hm0 => ?_)
    obtain ⟨u, hr, h4⟩ := hm0
    subst hr
    refine wpAny_passesOwn hp (thn h4 fun _ s5 hm0 => ?_)
    obtain ⟨x, H5, I5, r5, y5, st5, fr5⟩ := hm0
    have I5' := I5.pinned (stat fr5) (T.obj _ _ st5)
    refine wpAny_passesOwn hp (thn (hg _ s5 σ3 H5 x u _ I5' r5 (step x H5 y5)) fun _ s6 hm0 => ?_)
    obtain ⟨σ6, H6, I6, q6⟩ := hm0
    refine wpAny_passesOwn hp (thn (hb _ s6 σ6 H6 _ I6 q6) fun f s7 q7 => ?_)
    have again : ∀ {σ7 : St} {H7 : Hp}, Inv X (pins ++ pinsAt fp s5.heap) σ7 H7 s7 → N σ7 H7 → ∃ m, m < n ∧ ∃ i σ' H', Inv X pins σ' H' s7 ∧ tn i s7.heap ∧ (∀ b ∈ fp, H' b = none) ∧ W i m σ' H' := fun {σ7 H7} I7 n7 => by
      obtain ⟨m', hm, w7⟩ := hN σ7 H7 n7
      refine ⟨m', hm, i + 1, σ7, H7, I7.unpinned, T.keep _ _ _ st5 fun b hb o e => (I7.pin (b, o) (List.mem_append_right _ (List.mem_append_right _ (mem_pinsAt hb e)))).1, fun b hb => ?_, w7⟩
      obtain ⟨o, e, d⟩ := T.obj _ _ st5 b hb
      exact (I7.pin (b, o) (List.mem_append_right _ (List.mem_append_right _ (mem_pinsAt hb e)))).2.1
    cases f with
    | next => obtain ⟨σ7, H7, I7, n7⟩ := q7; exact again I7 n7
    | cont => obtain ⟨σ7, H7, I7, n7⟩ := q7; exact again I7 n7
    | brk => obtain ⟨σ7, H7, I7, q7⟩ := q7; exact ⟨σ7, H7, I7.unpinned, q7⟩
    | ret v => obtain ⟨x7, σ7, H7, I7, r7, q7⟩ := q7; exact ⟨x7, σ7, H7, I7.unpinned, r7, q7⟩
end
theorem for_list {K : PySem.W.Frag} {a : Addr} {xs : List V} {g : TG} {tb : TS} {D : Ends} {σ : St} {H : Hp} (Pv : Nat → St → Hp → Prop) (h0 : Pv 0 σ H) (hl : ∀ i σ H, i ≤ xs.length → Pv i σ H → SqL K H a xs)
    (hs : ∀ i x σ H, xs[i]? = some x → Pv i σ H → g x σ H fun σ2 H2 => tb { D with nx := Pv (i + 1), ct := Pv (i + 1), bk := D.nx } σ2 H2) (hd : ∀ σ H, Pv xs.length σ H → D.nx σ H) :
    ∃ W : Nat → Nat → St → Hp → Prop, (∃ m, W 0 m σ H) ∧ ∀ i m σ H, W i m σ H →
      ((Itl K a).stop i H ∧ D.nx σ H) ∨ ((Itl K a).go i H ∧ ∃ N : St → Hp → Prop, (∀ σ' H', N σ' H' → ∃ m', m' < m ∧ W (i + 1) m' σ' H') ∧ ∀ x H', (Itl K a).yld i H x H' → g x σ H' fun σ2 H2 => tb { D with nx := N, ct := N, bk := D.nx } σ2 H2) := by
  refine ⟨fun i m σ H => m = xs.length - i ∧ i ≤ xs.length ∧ Pv i σ H, ⟨xs.length, by simp, Nat.zero_le _, h0⟩, ?_⟩
  rintro i m σ H ⟨rfl, hi, p⟩
  have q := hl i σ H hi p
  by_cases hlt : i < xs.length
  · refine .inr ⟨⟨xs, xs[i], q, by simp [hlt]⟩, Pv (i + 1), fun σ' H' p' => ⟨xs.length - (i + 1), by omega, rfl, hlt, p'⟩, fun x H' y => ?_⟩
    obtain ⟨e, y⟩ := y
    subst e
    exact hs i x σ _ (y xs q) p
  · have e : i = xs.length := by omega
    subst e
    exact .inl ⟨⟨xs, q, Nat.le_refl _⟩, hd σ H p⟩
theorem for_range {lo : Int} {n : Nat} {g : TG} {tb : TS} {D : Ends} {σ : St} {H : Hp} (Pv : Nat → St → Hp → Prop) (h0 : Pv 0 σ H)
    (hs : ∀ i σ H, i < n → Pv i σ H → g (.int (lo + i)) σ H fun σ2 H2 => tb { D with nx := Pv (i + 1), ct := Pv (i + 1), bk := D.nx } σ2 H2) (hd : ∀ σ H, Pv n σ H → D.nx σ H) :
    ∃ W : Nat → Nat → St → Hp → Prop, (∃ m, W 0 m σ H) ∧ ∀ i m σ H, W i m σ H →
      ((Itr lo n).stop i H ∧ D.nx σ H) ∨ ((Itr lo n).go i H ∧ ∃ N : St → Hp → Prop, (∀ σ' H', N σ' H' → ∃ m', m' < m ∧ W (i + 1) m' σ' H') ∧ ∀ x H', (Itr lo n).yld i H x H' → g x σ H' fun σ2 H2 => tb { D with nx := N, ct := N, bk := D.nx } σ2 H2) := by
  refine ⟨fun i m σ H => m = n - i ∧ i ≤ n ∧ Pv i σ H, ⟨n, by simp, Nat.zero_le _, h0⟩, ?_⟩
  rintro i m σ H ⟨rfl, hi, p⟩
  by_cases hlt : i < n
  · refine .inr ⟨hlt, Pv (i + 1), fun σ' H' p' => ⟨n - (i + 1), by omega, rfl, hlt, p'⟩, fun x H' y => ?_⟩
    obtain ⟨e, y⟩ := y
    subst e y
    exact hs i σ _ hlt p
  · have e : i = n := by omega
    subst e
    exact .inl ⟨Nat.le_refl _, hd σ H p⟩
end L2
namespace L2
open PySem PySem.Spec PyProof.Rows
abbrev R2 := V → V → Hp → VK → Prop
def OpR (X : Cx) (f : Value → Value → Sem Value) (r : R2) : Prop :=
  ∀ (pins : List (Addr × Obj)) (s : Shared) (σ : St) (H : Hp) (x y : V) (v u : Value) (Q : VK), Inv X pins σ H s → RelV x v → RelV y u → r x y H Q →
    wpAny (model X.prog X.w) X.A (f v u) (EP X pins σ Q) X.xe s
def UnR (X : Cx) (f : Value → Sem Value) (r : V → Hp → VK → Prop) : Prop :=
  ∀ (pins : List (Addr × Obj)) (s : Shared) (σ : St) (H : Hp) (x : V) (v : Value) (Q : VK), Inv X pins σ H s → RelV x v → r x H Q →
    wpAny (model X.prog X.w) X.A (f v) (EP X pins σ Q) X.xe s
def CallR (X : Cx) (f : Value) (r : List V → Hp → VK → Prop) : Prop :=
  ∀ (pins : List (Addr × Obj)) (s : Shared) (σ : St) (H : Hp) (xs : List V) (us : List Value) (Q : VK), Inv X pins σ H s → Vals xs us → r xs H Q →
    wpAny (model X.prog X.w) X.A (call f us) (EP X pins σ Q) X.xe s
def TruR (X : Cx) (r : V → Hp → (Bool → Hp → Prop) → Prop) : Prop :=
  ∀ (pins : List (Addr × Obj)) (s : Shared) (σ : St) (H : Hp) (x : V) (v : Value) (Q : Bool → Hp → Prop), Inv X pins σ H s → RelV x v → r x H Q →
    wpAny (model X.prog X.w) X.A (truthy v) (TP X pins σ Q) X.xe s
def tOp (r : R2) (ta tb : TE) : TE := fun σ H Q => ta σ H fun x H1 => tb σ H1 fun y H2 => r x y H2 Q
def tUn (r : V → Hp → VK → Prop) (ta : TE) : TE := fun σ H Q => ta σ H fun x H1 => r x H1 Q
def rI (C : Int → Int → Prop) (g : Int → Int → V) : R2 := fun x y H Q => ∃ i j, x = .int i ∧ y = .int j ∧ C i j ∧ Q (g i j) H
def rI0 (g : Int → Int → V) : R2 := fun x y H Q => ∃ i j, x = .int i ∧ y = .int j ∧ Q (g i j) H
def rU (g : Int → V) : V → Hp → VK → Prop := fun x H Q => ∃ i, x = .int i ∧ Q (g i) H
section
variable {X : Cx} {a b c : Expr} {ta tb tc : TE} {pos : Pos}
theorem binT (ha : PE X a ta) (hb : PE X b tb) {pins : List (Addr × Obj)} {s : Shared} {σ : St} {H : Hp} {R : V → V → Hp → Prop} (I : Inv X pins σ H s)
    (h : ta σ H fun x H1 => tb σ H1 fun y H2 => R x y H2) {Q : Value → Shared → Prop} {f : Value → Value → Sem Value}
    (hf : ∀ v u s2 x y H2, Inv X pins σ H2 s2 → RelV x v → RelV y u → R x y H2 → wpAny (model X.prog X.w) X.A (f v u) Q X.xe s2) :
    wpAny (model X.prog X.w) X.A (eval a X.env) (fun v s₁ => wpAny (model X.prog X.w) X.A (eval b X.env) (fun u s₂ => wpAny (model X.prog X.w) X.A (f v u) Q X.xe s₂) X.xe s₁) X.xe s := by
  refine thn (ha pins s σ H _ I h) fun v s1 hm0 => ?_
  obtain ⟨x, H1, I1, r1, q1⟩ := hm0
  refine thn (hb pins s1 σ H1 _ I1 q1) fun u s2 hm0 => ?_
  obtain ⟨y, H2, I2, r2, q2⟩ := hm0
  exact hf v u s2 x y H2 I2 r1 r2 q2
theorem pe_op {op : Operator} {r : R2} (ho : OpR X (binaryOp op) r) (ha : PE X a ta) (hb : PE X b tb) : PE X (.BinOp a op b pos) (tOp r ta tb) := by
  intro pins s σ H Q I h
  exact wpAny_BinOp (binT ha hb I h fun v u s2 x y H2 I2 rx ry q => ho pins s2 σ H2 x y v u Q I2 rx ry q)
theorem pe_un {op : UnaryOp} {r : V → Hp → VK → Prop} (ho : UnR X (unaryOp op) r) (ha : PE X a ta) : PE X (.UnaryOp op a pos) (tUn r ta) := by
  intro pins s σ H Q I h
  refine UnaryOp_ (thn (ha pins s σ H _ I h) fun v s1 hm0 => ?_)
  obtain ⟨x, H1, I1, r1, q1⟩ := hm0
  exact ho pins s1 σ H1 x v Q I1 r1 q1
theorem opI {f : Value → Value → Sem Value} {C : Int → Int → Prop} {g : Int → Int → Int}
    (rule : ∀ (i j : Int) (t u : Tok) (s : Shared) (Q : Value → Shared → Prop) (E : Value → Shared → Prop), C i j → Q (.int (g i j) s.toks) { s with toks := s.toks + 1 } → wpAny (model X.prog X.w) X.A (f (.int i t) (.int j u)) Q E s) :
    OpR X f (rI C fun i j => .int (g i j)) := by
  intro pins s σ H x y v u Q I rx ry h
  obtain ⟨i, j, rfl, rfl, hc, q⟩ := h
  obtain ⟨t, rfl⟩ := rx
  obtain ⟨t', rfl⟩ := ry
  exact rule i j t t' s _ _ hc ⟨.int (g i j), H, I.tok _, ⟨_, rfl⟩, q⟩
theorem opI0 {f : Value → Value → Sem Value} {g : Int → Int → Int}
    (rule : ∀ (i j : Int) (t u : Tok) (s : Shared) (Q : Value → Shared → Prop) (E : Value → Shared → Prop), Q (.int (g i j) s.toks) { s with toks := s.toks + 1 } → wpAny (model X.prog X.w) X.A (f (.int i t) (.int j u)) Q E s) :
    OpR X f (rI0 fun i j => .int (g i j)) := by
  intro pins s σ H x y v u Q I rx ry h
  obtain ⟨i, j, rfl, rfl, q⟩ := h
  obtain ⟨t, rfl⟩ := rx
  obtain ⟨t', rfl⟩ := ry
  exact rule i j t t' s _ _ ⟨.int (g i j), H, I.tok _, ⟨_, rfl⟩, q⟩
theorem opB0 {f : Value → Value → Sem Value} {g : Int → Int → Bool}
    (rule : ∀ (i j : Int) (t u : Tok) (s : Shared) (Q : Value → Shared → Prop) (E : Value → Shared → Prop), Q (.bool (g i j)) s → wpAny (model X.prog X.w) X.A (f (.int i t) (.int j u)) Q E s) :
    OpR X f (rI0 fun i j => .bl (g i j)) := by
  intro pins s σ H x y v u Q I rx ry h
  obtain ⟨i, j, rfl, rfl, q⟩ := h
  obtain ⟨t, rfl⟩ := rx
  obtain ⟨t', rfl⟩ := ry
  exact rule i j t t' s _ _ ⟨.bl (g i j), H, I, rfl, q⟩
def CDiv (i j : Int) : Prop := 0 < j ∧ j < 1073741824
def CPow (i j : Int) : Prop := 0 ≤ j ∧ j ≤ 1000000 ∧ i.natAbs < 2 ^ 64
def CMul (i j : Int) : Prop := (-(2 ^ 64) < i ∧ i < 2 ^ 64) ∨ (-(2 ^ 64) < j ∧ j < 2 ^ 64)
theorem CMul.ok {i j : Int} (h : CMul i j) : IntMulOk i j := by
  rcases h with ⟨h1, h2⟩ | ⟨h1, h2⟩
  · exact .of_left (intBits_le_64 h1 h2)
  · exact .of_right (intBits_le_64 h1 h2)
theorem op_add : OpR X (binaryOp .Add) (rI0 fun i j => .int (i + j)) := opI0 fun _ _ _ _ _ _ _ q => add_int q
theorem op_sub : OpR X (binaryOp .Sub) (rI0 fun i j => .int (i - j)) := opI0 fun _ _ _ _ _ _ _ q => sub_int q
theorem op_mul : OpR X (binaryOp .Mult) (rI CMul fun i j => .int (i * j)) := opI fun _ _ _ _ _ _ _ hc q => mul_int q hc.ok
theorem op_fdiv : OpR X (binaryOp .FloorDiv) (rI CDiv fun i j => .int (i / j)) := opI fun i j _ _ _ _ _ hc q => by
  have h1 : (0 : Int) < j := hc.1
  have h2 : j < 1073741824 := hc.2
  exact floordiv_int (by omega) (by rw [Int.fdiv_eq_ediv_of_nonneg i (by omega)]; exact q) (.inl (PyProof.noPylong_small (by omega)))
theorem op_mod : OpR X (binaryOp .Mod) (rI (fun _ j => 0 < j) fun i j => .int (i % j)) := opI fun i j _ _ _ _ _ hc q => by
  have h1 : (0 : Int) < j := hc
  exact mod_int' (by omega) (by rw [Int.fmod_eq_emod_of_nonneg i (by omega)]; exact q)
theorem op_pow : OpR X (binaryOp .Pow) (rI CPow fun i j => .int (i ^ j.toNat)) := opI fun _ _ _ _ _ _ _ hc q => pow_int_small hc.1 hc.2.1 hc.2.2 q
theorem unI {f : Value → Sem Value} {g : Int → Int}
    (rule : ∀ (i : Int) (t : Tok) (s : Shared) (Q : Value → Shared → Prop) (E : Value → Shared → Prop), Q (.int (g i) s.toks) { s with toks := s.toks + 1 } → wpAny (model X.prog X.w) X.A (f (.int i t)) Q E s) :
    UnR X f (rU fun i => .int (g i)) := by
  intro pins s σ H x v Q I rx h
  obtain ⟨i, rfl, q⟩ := h
  obtain ⟨t, rfl⟩ := rx
  exact rule i t s _ _ ⟨.int (g i), H, I.tok _, ⟨_, rfl⟩, q⟩
theorem un_neg : UnR X (unaryOp .USub) (rU fun i => .int (-i)) := unI fun _ _ _ _ _ q => neg_int q
end
def scal : V → V → Bool
  | .non, .non => true | .non, .int _ => true | .int _, .non => true | .non, .bl _ => true | .bl _, .non => true | .non, .str _ => true | .str _, .non => true
  | .int _, .int _ => true | .bl _, .bl _ => true | .str _, .str _ => true | .byt _, .byt _ => true
  | .int _, .str _ => true | .str _, .int _ => true | .bl _, .str _ => true | .str _, .bl _ => true
  | _, _ => false
def rEq : R2 := fun x y H Q => scal x y = true ∧ Q (.bl (decide (x = y))) H
def rNe : R2 := fun x y H Q => scal x y = true ∧ Q (.bl (!decide (x = y))) H
theorem dec_int {i j : Int} : decide (V.int i = V.int j) = (i == j) := by
  rw [Bool.eq_iff_iff]
  simp
theorem dec_bl {i j : Bool} : decide (V.bl i = V.bl j) = (i == j) := by
  rw [Bool.eq_iff_iff]
  simp
theorem dec_str {i j : Str} : decide (V.str i = V.str j) = (i == j) := by
  rw [Bool.eq_iff_iff]
  simp
theorem dec_byt {i j : Array UInt8} : decide (V.byt i = V.byt j) = (i.toList == j.toList) := by
  rw [Bool.eq_iff_iff]
  cases i
  cases j
  simp
section
variable {X : Cx} {a b c : Expr} {ta tb tc : TE} {pos : Pos}
theorem fin_bl {pins : List (Addr × Obj)} {σ : St} {H : Hp} {s : Shared} {Q : VK} {k k' : Bool} (I : Inv X pins σ H s) (q : Q (.bl k) H) (e : k = k') : EP X pins σ Q (.bool k') s := by
  subst e
  exact ⟨.bl k, H, I, rfl, q⟩
theorem op_eq : OpR X (compareOp .Eq) rEq := by
  intro pins s σ H x y v u Q I rx ry h
  obtain ⟨hs, q⟩ := h
  cases x with
  | non =>
    cases rx
    cases y with
    | non => cases ry; exact PySem.EqNone.eq_none_none (fin_bl I q (by simp))
    | bl j => cases ry; exact PySem.EqNone.eq_none_bool (fin_bl I q (by simp))
    | int j => obtain ⟨t', rfl⟩ := ry; exact PySem.EqNone.eq_none_int (fin_bl I q (by simp))
    | str j => obtain ⟨t', rfl⟩ := ry; exact PySem.EqNone.eq_none_str (fin_bl I q (by simp))
    | _ => exact absurd (show false = true from hs) Bool.false_ne_true
  | bl i =>
    cases rx
    cases y with
    | non => cases ry; exact PySem.EqNone.eq_bool_none (fin_bl I q (by simp))
    | bl j => cases ry; exact eq_bool (fin_bl I q dec_bl)
    | str j => obtain ⟨t', rfl⟩ := ry; exact PySem.EqMixed.eq_bool_str (fin_bl I q (by simp))
    | _ => exact absurd (show false = true from hs) Bool.false_ne_true
  | int i =>
    obtain ⟨t, rfl⟩ := rx
    cases y with
    | non => cases ry; exact PySem.EqNone.eq_int_none (fin_bl I q (by simp))
    | int j => obtain ⟨t', rfl⟩ := ry; exact eq_int (fin_bl I q dec_int)
    | str j => obtain ⟨t', rfl⟩ := ry; exact PySem.EqMixed.eq_int_str (fin_bl I q (by simp))
    | _ => exact absurd (show false = true from hs) Bool.false_ne_true
  | str i =>
    obtain ⟨t, rfl⟩ := rx
    cases y with
    | non => cases ry; exact PySem.EqNone.eq_str_none (fin_bl I q (by simp))
    | bl j => cases ry; exact PySem.EqMixed.eq_str_bool (fin_bl I q (by simp))
    | int j => obtain ⟨t', rfl⟩ := ry; exact PySem.EqMixed.eq_str_int (fin_bl I q (by simp))
    | str j => obtain ⟨t', rfl⟩ := ry; exact eq_str (fin_bl I q dec_str)
    | _ => exact absurd (show false = true from hs) Bool.false_ne_true
  | byt i =>
    obtain ⟨t, rfl⟩ := rx
    cases y with
    | byt j => obtain ⟨t', rfl⟩ := ry; exact PySem.W.eq_bytes (fin_bl I q dec_byt)
    | _ => exact absurd (show false = true from hs) Bool.false_ne_true
  | _ => cases y <;> exact absurd (show false = true from hs) Bool.false_ne_true
theorem op_ne : OpR X (compareOp .NotEq) rNe := by
  intro pins s σ H x y v u Q I rx ry h
  obtain ⟨hs, q⟩ := h
  cases x with
  | non =>
    cases rx
    cases y with
    | non => cases ry; exact PySem.EqNone.ne_none_none (fin_bl I q (by simp))
    | bl j => cases ry; exact PySem.EqNone.ne_none_bool (fin_bl I q (by simp))
    | int j => obtain ⟨t', rfl⟩ := ry; exact PySem.EqNone.ne_none_int (fin_bl I q (by simp))
    | str j => obtain ⟨t', rfl⟩ := ry; exact PySem.EqNone.ne_none_str (fin_bl I q (by simp))
    | _ => exact absurd (show false = true from hs) Bool.false_ne_true
  | bl i =>
    cases rx
    cases y with
    | non => cases ry; exact PySem.EqNone.ne_bool_none (fin_bl I q (by simp))
    | bl j => cases ry; exact ne_bool (fin_bl I q (congrArg not dec_bl))
    | str j => obtain ⟨t', rfl⟩ := ry; exact PySem.EqMixed.ne_bool_str (fin_bl I q (by simp))
    | _ => exact absurd (show false = true from hs) Bool.false_ne_true
  | int i =>
    obtain ⟨t, rfl⟩ := rx
    cases y with
    | non => cases ry; exact PySem.EqNone.ne_int_none (fin_bl I q (by simp))
    | int j => obtain ⟨t', rfl⟩ := ry; exact ne_int (fin_bl I q (congrArg not dec_int))
    | str j => obtain ⟨t', rfl⟩ := ry; exact PySem.EqMixed.ne_int_str (fin_bl I q (by simp))
    | _ => exact absurd (show false = true from hs) Bool.false_ne_true
  | str i =>
    obtain ⟨t, rfl⟩ := rx
    cases y with
    | non => cases ry; exact PySem.EqNone.ne_str_none (fin_bl I q (by simp))
    | bl j => cases ry; exact PySem.EqMixed.ne_str_bool (fin_bl I q (by simp))
    | int j => obtain ⟨t', rfl⟩ := ry; exact PySem.EqMixed.ne_str_int (fin_bl I q (by simp))
    | str j => obtain ⟨t', rfl⟩ := ry; exact ne_str (fin_bl I q (congrArg not dec_str))
    | _ => exact absurd (show false = true from hs) Bool.false_ne_true
  | byt i =>
    obtain ⟨t, rfl⟩ := rx
    cases y with
    | byt j => obtain ⟨t', rfl⟩ := ry; exact PySem.W.ne_bytes (fin_bl I q (congrArg not dec_byt))
    | _ => exact absurd (show false = true from hs) Bool.false_ne_true
  | _ => cases y <;> exact absurd (show false = true from hs) Bool.false_ne_true
theorem op_lt : OpR X (compareOp .Lt) (rI0 fun i j => .bl (decide (i < j))) := opB0 fun _ _ _ _ _ _ _ q => lt_int q
theorem op_le : OpR X (compareOp .LtE) (rI0 fun i j => .bl (decide (i ≤ j))) := opB0 fun _ _ _ _ _ _ _ q => le_int q
theorem op_gt : OpR X (compareOp .Gt) (rI0 fun i j => .bl (decide (j < i))) := opB0 fun _ _ _ _ _ _ _ q => gt_int q
theorem op_ge : OpR X (compareOp .GtE) (rI0 fun i j => .bl (decide (j ≤ i))) := opB0 fun _ _ _ _ _ _ _ q => ge_int q
theorem op_in_str : OpR X (compareOp .In) (fun x y H Q => ∃ i j, x = .str i ∧ y = .str j ∧ Q (.bl (!(Builtin.Str.occurrences j i 0 j.length 1).isEmpty)) H) := by
  intro pins s σ H x y v u Q I rx ry h
  obtain ⟨i, j, rfl, rfl, q⟩ := h
  obtain ⟨t, rfl⟩ := rx
  obtain ⟨t', rfl⟩ := ry
  exact in_str (fin_bl I q rfl)
theorem nomark (b : Expr) {op : CmpOp} (h : op ≠ .In := by decide) (h2 : op ≠ .NotIn := by decide) : behindInMarks op b = false := by
  have e1 : (op == CmpOp.In) = false := by cases op <;> first | rfl | exact absurd rfl h
  have e2 : (op == CmpOp.NotIn) = false := by cases op <;> first | rfl | exact absurd rfl h2
  cases b <;> simp [behindInMarks, e1, e2]
theorem pe_cmpR {op : CmpOp} {r : R2} (ho : OpR X (compareOp op) r) (ha : PE X a ta) (hb : PE X b tb) (hm : behindInMarks op b = false) : PE X (.Compare a [op] [b] pos) (tOp r ta tb) := by
  intro pins s σ H Q I h
  exact wpAny_Compare1 (binT ha hb I h fun v u s2 x y H2 I2 rx ry q => ho pins s2 σ H2 x y v u Q I2 rx ry q) hm
def tTest (t : TE) : TT := fun σ H Q => t σ H fun x H' => ∃ k, x = .bl k ∧ Q k H'
theorem pt_cmpR {op : CmpOp} {r : R2} (ho : OpR X (compareOp op) r) (ha : PE X a ta) (hb : PE X b tb) (hm : behindInMarks op b = false) : PT X (.Compare a [op] [b] pos) (tTest (tOp r ta tb)) := by
  intro pins s σ H Q I h
  refine wpAny_isTrue_Compare1 (thn (ha pins s σ H _ I h) fun v s1 ⟨x, H1, I1, r1, q1⟩ => thn (hb pins s1 σ H1 _ I1 q1) fun u s2 ⟨y, H2, I2, r2, q2⟩ =>
    thn (ho pins s2 σ H2 x y v u _ I2 r1 r2 q2) fun c s3 ⟨z, H3, I3, r3, k, e, q3⟩ => ?_) hm
  subst e
  cases r3
  exact wpAny_truthy_bool ⟨H3, I3, q3⟩
def tChain (r r' : R2) (ta tb tc : TE) : TE := fun σ H Q => ta σ H fun x H1 => tb σ H1 fun y H2 => r x y H2 fun z H3 => ∃ k, z = .bl k ∧
  (if k = true then tc σ H3 fun w' H4 => r' y w' H4 Q else Q (.bl false) H3)
theorem pe_chain {op op' : CmpOp} {r r' : R2} (ho : OpR X (compareOp op) r) (ho' : OpR X (compareOp op') r') (ha : PE X a ta) (hb : PE X b tb) (hc : PE X c tc)
    (hm : lastMarks [op, op'] [b, c] = false := by with_unfolding_all rfl) : PE X (.Compare a [op, op'] [b, c] pos) (tChain r r' ta tb tc) := by
  intro pins s σ H Q I h
  refine Compare_chain (thn (ha pins s σ H _ I h) fun v s1 ⟨x, H1, I1, r1, q1⟩ => chain_link (thn (hb pins s1 σ H1 _ I1 q1) fun u s2 ⟨y, H2, I2, r2, q2⟩ =>
    thn (ho pins s2 σ H2 x y v u _ I2 r1 r2 q2) fun d s3 ⟨z, H3, I3, r3, k, e, q3⟩ => ?_)) hm
  subst e
  cases r3
  refine wpAny_truthy_bool ?_
  cases k with
  | false => exact ite_ff ⟨.bl false, H3, I3, rfl, q3⟩
  | true => exact ite_tt (chain_last (thn (hc pins s3 σ H3 _ I3 q3) fun w' s4 ⟨z', H4, I4, r4, q4⟩ => ho' pins s4 σ H4 y z' u w' Q I4 r2 r4 q4))
def TruV (K : PySem.W.Frag) (x : V) (H : Hp) (k : Bool) : Prop :=
  match x with
  | .non => k = false
  | .bl b => k = b
  | .int i => k = (i != 0)
  | .str y => y.length ≤ sizeLine ∧ k = ((y.length : Int) != 0)
  | .byt y => y.size ≤ sizeLine ∧ k = ((y.size : Int) != 0)
  | .ref p => (∃ xs, SqL K H p xs ∧ k = !xs.isEmpty) ∨ (∃ xs, SqT K H p xs ∧ k = !xs.isEmpty) ∨ ∃ kvs, H p = some (.dK kvs) ∧ k = !kvs.isEmpty
  | _ => False
theorem isEmpty_kv {κ : Type} {kvs : List (κ × V)} {vs : List (κ × Value)} (r : KV kvs vs) : (!vs.isEmpty) = !kvs.isEmpty := by
  cases r <;> rfl
theorem isEmpty_of {xs : List V} {its : List Value} (r : Vals xs its) : (!its.toArray.isEmpty) = !xs.isEmpty := by
  cases r <;> simp
theorem line63 : (sizeLine : Nat) < 2 ^ 63 := by rw [sizeLine_eq]; decide
theorem tru_ok : TruR X (fun x H Q => ∃ k, TruV X.K x H k ∧ Q k H) := by
  intro pins s σ H x v Q I rx h
  obtain ⟨k, e, q⟩ := h
  have hl := line63
  have hs : sizeLine = 16777216 := sizeLine_eq
  cases x with
  | non =>
    cases rx
    have e' : k = false := e
    subst e'
    exact truthy_none ⟨H, I, q⟩
  | bl b =>
    cases rx
    have e' : k = b := e
    subst e'
    exact wpAny_truthy_bool ⟨H, I, q⟩
  | int i =>
    obtain ⟨t, rfl⟩ := rx
    have e' : k = (i != 0) := e
    subst e'
    exact PySem.P.truthy_int ⟨H, I, q⟩
  | str y =>
    obtain ⟨t, rfl⟩ := rx
    obtain ⟨hy, e'⟩ : y.length ≤ sizeLine ∧ k = ((y.length : Int) != 0) := e
    subst e'
    exact PySem.P.truthy_str (by omega) ⟨H, I.tok _, q⟩
  | byt y =>
    obtain ⟨t, rfl⟩ := rx
    obtain ⟨hy, e'⟩ : y.size ≤ sizeLine ∧ k = ((y.size : Int) != 0) := e
    subst e'
    exact PySem.W.truthy_bytes (by omega) ⟨H, I.tok _, q⟩
  | ref p =>
    cases rx
    have e' : (∃ xs, SqL X.K H p xs ∧ k = !xs.isEmpty) ∨ (∃ xs, SqT X.K H p xs ∧ k = !xs.isEmpty) ∨ ∃ kvs, H p = some (.dK kvs) ∧ k = !kvs.isEmpty := e
    rcases e' with ⟨xs, hx, e'⟩ | ⟨xs, hx, e'⟩ | ⟨kvs, hx, e'⟩
    · subst e'
      obtain ⟨its, r, pl, hz⟩ := I.list hx
      have hlen := r.length
      exact wpAny_truthy_list pl.isList (by simp only [List.size_toArray]; omega) ⟨H, I.tok _, by rw [isEmpty_of r]; exact q⟩
    · subst e'
      obtain ⟨its, r, pl, hz⟩ := I.tuple hx
      have hlen := r.length
      exact truthy_tuple pl (by simp only [List.size_toArray]; omega) ⟨H, I.tok _, by rw [isEmpty_of r]; exact q⟩
    · subst e'
      obtain ⟨hz, hS, vs, r, m⟩ : kvs.length ≤ sizeLine ∧ (p == sysModules) = false ∧ ∃ vs, KV kvs vs ∧ s.heap.DictOf (mixKind X.prog X.w) p vs := I.hok p _ hx
      have hlen : kvs.length = vs.length := Paired.length r
      exact wpAny_truthy_dict hS m (by omega) ⟨H, I.tok _, by rw [isEmpty_kv r]; exact q⟩
  | _ => exact (show False from e).elim
theorem pt_truth (ha : PE X a ta) (he : ∀ whole, isTrue a X.env whole = (do let v ← whole; standAt a.pos; holding [v] (truthy v))) :
    PT X a (fun σ H Q => ta σ H fun x H' => ∃ k, TruV X.K x H' k ∧ Q k H') := by
  intro pins s σ H Q I h
  refine isTrue_plain (thn (ha pins s σ H _ I h) fun v s1 hm0 => ?_) (he _)
  obtain ⟨x, H1, I1, r1, q1⟩ := hm0
  exact tru_ok pins s1 σ H1 x v Q I1 r1 q1
theorem op_add_str : OpR X (binaryOp .Add) (fun x y H Q => ∃ i j, x = .str i ∧ y = .str j ∧ i.length + j.length ≤ sizeLine ∧ Q (.str (i ++ j)) H) := by
  intro pins s σ H x y v u Q I rx ry h
  obtain ⟨i, j, rfl, rfl, hz, q⟩ := h
  obtain ⟨t, rfl⟩ := rx
  obtain ⟨t', rfl⟩ := ry
  exact add_str (fun t' tk => ⟨.str (i ++ j), H, I.tok _, ⟨_, rfl⟩, q⟩) hz
theorem vals1 {x : V} {us : List Value} (r : Vals [x] us) : ∃ u, us = [u] ∧ RelV x u := by
  cases r with
  | cons r1 r2 => cases r2; exact ⟨_, rfl, r1⟩
theorem vals2 {x y : V} {us : List Value} (r : Vals [x, y] us) : ∃ u w', us = [u, w'] ∧ RelV x u ∧ RelV y w' := by
  cases r with
  | cons r1 r2 =>
    cases r2 with
    | cons r3 r4 => cases r4; exact ⟨_, _, rfl, r1, r3⟩
theorem call_int1 : CallR X (.type "int") (fun xs H Q => (∃ i, xs = [.int i] ∧ Q (.int i) H) ∨ ∃ k, xs = [.bl k] ∧ Q (.int (if k then 1 else 0)) H) := by
  intro pins s σ H xs us Q I r h
  rcases h with ⟨i, rfl, q⟩ | ⟨k, rfl, q⟩
  · obtain ⟨u, rfl, t, rfl⟩ := vals1 r
    exact call_int_int ⟨.int i, H, I, ⟨_, rfl⟩, q⟩
  · obtain ⟨u, rfl, r1⟩ := vals1 r
    cases r1
    exact call_int_bool ⟨.int (if k then 1 else 0), H, I.tok _, ⟨_, rfl⟩, q⟩
theorem call_str_int : CallR X (.type "str") (fun xs H Q => ∃ i, xs = [.int i] ∧ i.natAbs.log2 < 1920 ∧ Q (.str (toString i)) H) := by
  intro pins s σ H xs us Q I r h
  obtain ⟨i, rfl, hz, q⟩ := h
  obtain ⟨u, rfl, t, rfl⟩ := vals1 r
  exact PySem.P.str_of_int hz ⟨.str _, H, I.tok _, ⟨_, rfl⟩, q⟩
end
end L2
namespace L2
open PySem PySem.Spec PyProof.Rows
structure ObjM (h : Heap) (x dx C : Addr) (mA : Str → Option Value) : Prop where
  obj : h.get? x = some (PySem.W.instObj C dx)
  ns : h.Ns1 dx mA
  ne : dx ≠ x
theorem lookIn_ns {h : Heap} {dx : Addr} {mA : Str → Option Value} (n : h.Ns1 dx mA) : ∃ od, h.get? dx = some od ∧ ∀ name, PySem.W.lookIn name od = some (mA name) := by
  obtain ⟨o, es, ep, ho, hd, hk, _, hm⟩ := n
  refine ⟨o, ho, fun name => ?_⟩
  have e := hm name
  unfold nsFind findBy at e
  rw [← Array.find?_toList] at e
  unfold PySem.W.lookIn
  rw [hd]
  dsimp only
  split
  · rename_i y q
    rw [q] at e
    exact congrArg some e
  · rename_i q
    rw [q] at e
    have a : es.toList.any (·.refKey) = false := by
      rw [List.any_eq_false]
      intro y hy
      obtain ⟨z, t, hkey⟩ := hk y (Array.mem_toList_iff.mp hy)
      simp [DictEntry.refKey, hkey]
    have a' : ¬ es.toList.any (·.refKey) = true := by rw [a]; exact Bool.false_ne_true
    rw [if_neg a']
    exact congrArg some e
theorem ObjM.look {h : Heap} {x dx C : Addr} {mA : Str → Option Value} (I : ObjM h x dx C mA) : ∃ od, PySem.W.InstAt h x (PySem.W.instObj C dx) C (some od) ∧ ∀ name, PySem.W.lookIn name od = some (mA name) :=
  let ⟨od, ho, hl⟩ := lookIn_ns I.ns
  ⟨od, ⟨I.obj, rfl, rfl, ho⟩, hl⟩
section
variable {prog : Program} {w : World} {A : Around} {E : Value → Shared → Prop} {s : Shared} {K : PySem.W.Frag} {x dx C f : Addr} {mA : Str → Option Value} {name : Str} {v : Value}
end
theorem RelO.some_of {v : V} {o : Option Value} (r : RelO (some v) o) : ∃ u, o = some u ∧ RelV v u := by
  cases o with
  | none => exact (show False from r).elim
  | some u => exact ⟨u, rfl, r⟩
section
variable {P : Program} {w : World} {H H' : Hp} {h h' : Heap} {a C dx : Addr} {fs fs' : List (Str × V)}
theorem ins_get (hok : HOk P w H h) (e : H a = some (.ins C dx fs)) : ∃ mA, ObjM h a dx C mA ∧ (∀ f, RelO (fs.lookup f) (mA f)) ∧ PySem.Within mA (fs.map (·.1)) ∧ fs.length ≤ 1000 ∧ H dx = some (.own a) := by
  obtain ⟨d, z, ne, ob, mA, n, r, q⟩ := (show ObjOk P w H h a (.ins C dx fs) from hok a _ e)
  exact ⟨mA, ⟨ob, n, ne⟩, r, q, z, d⟩
end
structure Cls (K : PySem.W.Frag) (C : Addr) : Prop where
  pg : PySem.W.plainGet K C Str.empty = true
  hd : PySem.W.hasDictIn K C = true
  po : PySem.W.plainOver K C = true
  sa : PySem.W.findIn K (.ref C) "__setattr__" = some (some (.builtin "object.__setattr__"))
theorem Cls.get {K : PySem.W.Frag} {C : Addr} (c : Cls K C) (f : Str) : PySem.W.plainGet K C f = true := c.pg
section
variable {X : Cx} {pins : List (Addr × Obj)} {σ : St} {H : Hp} {s : Shared} {a C dx : Addr} {fs : List (Str × V)} {f : Str} {v : V} {A : Around} {E : Value → Shared → Prop}
end
section
variable {X : Cx} {o e value : Expr} {f : Str} {pos pos' tpos : Pos} {ta tv : TE}
end
section
variable {X : Cx} {pins : List (Addr × Obj)} {σ : St} {H : Hp} {s : Shared} {A : Around} {E : Value → Shared → Prop} {Q : Value → Shared → Prop} {c : Value} {b : Bool}
inductive TyOf (K : PySem.W.Frag) (H : Hp) : V → Value → Prop where
  | non : TyOf K H .non (.type "NoneType")
  | bl (x : Bool) : TyOf K H (.bl x) (.type "bool")
  | int (i : Int) : TyOf K H (.int i) (.type "int")
  | str (x : Str) : TyOf K H (.str x) (.type "str")
  | flt (x : UInt64) : TyOf K H (.flt x) (.type "float")
  | lst {a : Addr} {xs : List V} (e : H a = some (.lst xs)) : TyOf K H (.ref a) (.type "list")
  | frz {a : Addr} {o : Obj} {xs : List V} (e : H a = some (.frz o (.lst xs))) : TyOf K H (.ref a) (.type "list")
  | tup {a : Addr} {xs : List V} (e : H a = some (.tup xs)) : TyOf K H (.ref a) (.type "tuple")
  | dK {a : Addr} {kvs : List (Key × V)} (e : H a = some (.dK kvs)) : TyOf K H (.ref a) (.type "dict")
  | dT {a : Addr} {kvs : List (List Key × V)} (e : H a = some (.dT kvs)) : TyOf K H (.ref a) (.type "dict")
  | ins {a C dx : Addr} {fs : List (Str × V)} (e : H a = some (.ins C dx fs)) (cl : Cls K C) (ha : PySem.W.findIn K (.ref C) "__class__" = some (some (.builtin "object.__class__")))
      (hn : PySem.W.specialIn K (.builtin "object.__class__") "__get__" = some (some (.builtin "getset_descriptor.__get__"))) (htk : PySem.W.takesIn K (.builtin "object.__class__") = some true)
      (hm : PySem.W.mroIn K C (.type "object") = some true) : TyOf K H (.ref a) (.ref C)
theorem isinst_ok {x : V} {u t : Value} (I : Inv X pins σ H s) (rx : RelV x u) (ty : TyOf X.K H x t) (e : PySem.W.kitOne X.K t c = some b) (h : ∀ tk, Q (.bool b) { s with toks := tk }) :
    wpAny (model X.prog X.w) A (call (.builtin "isinstance") [u, c]) Q E s := by
  cases ty with
  | non => cases (show u = Value.none from rx); exact PySem.W.kia_one PySem.W.kitx_none I.kIn True.intro e (fun z => nomatch z) h
  | bl y => cases (show u = Value.bool y from rx); exact PySem.W.kia_one PySem.W.kitx_bool I.kIn True.intro e (fun z => nomatch z) h
  | int i => obtain ⟨t, q⟩ := (show ∃ t, u = Value.int i t from rx); cases q; exact PySem.W.kia_one PySem.W.kitx_int I.kIn True.intro e (fun z => nomatch z) h
  | str y => obtain ⟨t, q⟩ := (show ∃ t, u = Value.str y t from rx); cases q; exact PySem.W.kia_one PySem.W.kitx_str I.kIn True.intro e (fun z => nomatch z) h
  | flt y => obtain ⟨t, q⟩ := (show ∃ t, u = Value.float y t from rx); cases q; exact PySem.W.kia_one PySem.W.kitx_float I.kIn True.intro e (fun z => nomatch z) h
  | @lst a xs ea =>
    cases (show u = Value.ref a from rx)
    obtain ⟨_, _, n, _, h1⟩ := (show ObjOk X.prog X.w H s.heap a (.lst xs) from I.hok a _ ea)
    exact PySem.W.kia_one PySem.W.kitx_list I.kIn ⟨_, h1, rfl⟩ e (fun z => nomatch z) h
  | @frz a ob xs ea =>
    cases (show u = Value.ref a from rx)
    obtain ⟨_, _, _, n, _, h1⟩ := (show ObjOk X.prog X.w H s.heap a (.frz ob (.lst xs)) from I.hok a _ ea)
    exact PySem.W.kia_one PySem.W.kitx_list I.kIn ⟨_, h1, rfl⟩ e (fun z => nomatch z) h
  | @tup a xs ea =>
    cases (show u = Value.ref a from rx)
    obtain ⟨_, _, _, p⟩ := (show ObjOk X.prog X.w H s.heap a (.tup xs) from I.hok a _ ea)
    obtain ⟨o, h1, h2, _⟩ := p
    exact PySem.W.kia_one PySem.W.kitx_tuple I.kIn ⟨o, h1, h2⟩ e (fun z => nomatch z) h
  | @dK a kvs ea =>
    cases (show u = Value.ref a from rx)
    obtain ⟨_, _, vs, _, p⟩ := (show ObjOk X.prog X.w H s.heap a (.dK kvs) from I.hok a _ ea)
    obtain ⟨o, es, ep, h1, h2, _⟩ := p
    exact PySem.W.kia_one PySem.W.kitx_dict I.kIn ⟨o, h1, h2.1⟩ e (fun z => nomatch z) h
  | @dT a kvs ea =>
    cases (show u = Value.ref a from rx)
    obtain ⟨_, _, xs, _, o, es, ep, h1, h2, _⟩ := (show ObjOk X.prog X.w H s.heap a (.dT kvs) from I.hok a _ ea)
    exact PySem.W.kia_one PySem.W.kitx_dict I.kIn ⟨o, h1, h2.1⟩ e (fun z => nomatch z) h
  | @ins a C dx fs ea cl ha hn htk hm =>
    cases (show u = Value.ref a from rx)
    obtain ⟨mA, O, _⟩ := ins_get I.hok ea
    obtain ⟨od, J, _⟩ := O.look
    exact PySem.W.kia_one (PySem.W.kitx_own (cl.get _) cl.hd ha hn htk hm) I.kIn J e (fun z => nomatch z) h
end
end L2
namespace L2
open PySem PySem.Spec PyProof.Rows
structure Room (k : Nat) (A : Around) : Prop where
  hd : A.handled = none
  dp : A.depth + 3 * k + 5 < recursionLimit
  un : A.units + 16 * k + 200 < cLine
theorem Room.mono {j k : Nat} {A : Around} (r : Room k A) (h : j ≤ k) : Room j A := ⟨r.hd, by have := r.dp; omega, by have := r.un; omega⟩
theorem Room.deeper {k : Nat} {A : Around} (r : Room (k + 1) A) (env : Env) : Room k (A.deeper env) :=
  ⟨r.hd, by have := r.dp; show A.depth + 1 + 3 * k + 5 < _; omega, by have := r.un; show A.units + 3 + 16 * k + 200 < _; omega⟩
theorem Room.depth {k : Nat} {A : Around} (r : Room k A) : A.depth < recursionLimit := by have := r.dp; omega
theorem Room.units {k : Nat} {A : Around} (r : Room k A) : A.units + 64 < cLine := by have := r.un; omega
def tNil : TA := fun _ H Q => Q [] H
def tCons (ta : TE) (tr : TA) : TA := fun σ H Q => ta σ H fun x H1 => tr σ H1 fun xs H2 => Q (x :: xs) H2
section
variable {X : Cx} {e : Expr} {es : List Expr} {te : TE} {t : TA} {pos : Pos}
theorem pa_nil : PA X [] tNil := fun _ _ _ _ H Q I h => Calls.spliced_nil ⟨[], H, I, .nil, h⟩
theorem pa_cons (ha : PE X e te) (hr : PA X es t) (hs : starEach (e :: es) X.env = (false, eval e X.env) :: starEach es X.env := by rfl) : PA X (e :: es) (tCons te t) := by
  intro pos pins s σ H Q I h
  rw [hs]
  show wpAny _ _ (spliced ((false, eval e X.env) :: backTo pos (starEach es X.env))) _ _ s
  refine Calls.spliced_cons (thn (ha pins s σ H _ I h) fun u s1 hm0 => ?_)
  obtain ⟨x, H1, I1, r1, q1⟩ := hm0
  refine thn (hr pos pins s1 σ H1 _ I1 q1) fun us s2 hm0 => ?_
  obtain ⟨xs, H2, I2, r2, q2⟩ := hm0
  exact ⟨x :: xs, H2, I2, .cons r1 r2, q2⟩
def tTup (t : TA) : TE := fun σ H Q => t σ H fun xs H1 => xs.length ≤ sizeLine ∧ ∀ p, H1 p = none → Q (.ref p) (upd H1 p (.tup xs))
def tLst (t : TA) : TE := fun σ H Q => t σ H fun xs H1 => xs.length ≤ sizeLine ∧ ∀ p, H1 p = none → Q (.ref p) (upd H1 p (.lst xs))
theorem pe_tup {x1} (h : PA X es t) : PE X (.Tuple es x1 pos) (tTup t) := by
  intro pins s σ H Q I hq
  refine wpAny_Tuple_spliced (thn (h pos pins s σ H _ I hq) fun us s1 hm0 => ?_)
  obtain ⟨xs, H1, I1, r, z, q⟩ := hm0
  refine ⟨by rw [← r.length]; exact z, ?_⟩
  have hf : H1 s1.heap.objs.size = none := I1.hok.fresh (Nat.le_refl _)
  refine ⟨.ref s1.heap.objs.size, upd H1 s1.heap.objs.size (.tup xs), I1.laid (t' := s1.toks) (fun b u e => Heap.get?_push_of_some _ e) (Nat.le_refl _) ?_, rfl, q _ hf⟩
  exact ⟨z, us, r, ⟨_, Heap.get?_push_size _ rfl, rfl, _, rfl⟩⟩
theorem pe_lst (h : PA X es t) : PE X (.List es pos) (tLst t) := by
  intro pins s σ H Q I hq
  refine wpAny_List_spliced (thn (h pos pins s σ H _ I hq) fun us s1 hm0 => ?_)
  obtain ⟨xs, H1, I1, r, z, q⟩ := hm0
  refine ⟨by rw [← r.length]; exact z, ?_⟩
  have hf : H1 s1.heap.objs.size = none := I1.hok.fresh (Nat.le_refl _)
  refine ⟨.ref s1.heap.objs.size, upd H1 s1.heap.objs.size (.lst xs), I1.laid (t' := s1.toks) (fun b u e => Heap.get?_push_of_some _ e) (Nat.le_refl _) ?_, rfl, q _ hf⟩
  exact ⟨z, us, 0, r, Heap.get?_push_size _ rfl⟩
end
abbrev Sp := List V → Hp → VK → XK → Prop
abbrev CXT := List Env → Hp → Shared → XK → Value → Shared → Prop
structure Env0 (P : Program) (w : World) (K : PySem.W.Frag) (mg : Str → Option Value) (base : Heap) (A : Around) (outer : List Env) (s : Shared) (H : Hp) : Prop where
  frames : A.frames = some outer
  mod : Mod K mg base
  bs : ∀ b o, base.get? b = some o → s.heap.get? b = some o ∧ H b = none
  bsz : base.objs.size ≤ s.heap.objs.size
  funs : s.heap.FunFrames base outer
  frf : ∀ b ∈ frs outer, H b = none
  hok : HOk P w H s.heap
  bare : AllBare s.gens
def CE (outer : List Env) (P : Program) (w : World) (H : Hp) (s : Shared) (Q : VK) (u : Value) (s' : Shared) : Prop :=
  ∃ v H', s'.os = s.os ∧ AllBare s'.gens ∧ Un (frs outer) [] H H' s.heap s'.heap ∧ HOk P w H' s'.heap ∧ RelV v u ∧ Q v H'
def CR (CX : CXT) (outer : List Env) (P : Program) (w : World) (H : Hp) (s : Shared) (Q : VK) (E : XK) (r : Result) (s' : Shared) : Prop :=
  match r with
  | .ok (.ret u) => CE outer P w H s Q u s'
  | .ok _ => False
  | .error e => CX outer H s E e s'
structure FnOk (P : Program) (w : World) (K : PySem.W.Frag) (mg : Str → Option Value) (base : Heap) (CX : CXT) (k : Nat) (f : Addr) (fd : FuncData) (ps : List Str) (sp : Sp) : Prop where
  len : ∀ vs H Q E, sp vs H Q E → vs.length = ps.length
  run : ∀ (A : Around) (outer : List Env) (s : Shared) (H : Hp) (args : Args) (us : List Value) (vs : List V) (Q : VK) (E : XK), Room k A → Env0 P w K mg base A outer s H → BindsTo s fd args (ps.zip us) → Vals vs us → sp vs H Q E →
    codeAny (model P w) A (.call (.ref f) args) (CR CX outer P w H s Q E) s
section
variable {X : Cx} {pins : List (Addr × Obj)} {σ : St} {H : Hp} {s s' : Shared}
theorem Inv.env0 (I : Inv X pins σ H s) : Env0 X.prog X.w X.K X.mg X.base X.A X.stack s H :=
  ⟨I.ok.frames, I.ok.mod, I.bs, Nat.le_trans I.ok.bsz I.sz, I.stack, I.stkFree, I.hok, I.bare⟩
theorem Inv.after {Q : VK} {u : Value} (I : Inv X pins σ H s) (h : CE X.stack X.prog X.w H s Q u s') : EP X pins σ Q u s' := by
  obtain ⟨v, H', os, bare, un, hok, r, q⟩ := h
  obtain ⟨hh, g, d, t, os'⟩ := s'
  obtain rfl : os' = s.os := os
  exact ⟨v, H', I.call (h' := hh) (g' := g) (d' := d) (t' := t) (ch := []) un hok bare (fun b z => absurd z (by simp)), r, q⟩
end
def tCall (sp : Sp) (dvs : List V) (E : XK) (t : TA) : TE := fun σ H Q => t σ H fun vs H1 => sp (vs ++ dvs) H1 Q E
def Binds (K : PySem.W.Frag) (fd : FuncData) (ps : List Str) (ds : List Value) : Prop :=
  ∀ (s : Shared) (us : List Value), K.In s.heap → (us ++ ds).length = ps.length → BindsTo s fd ⟨us, []⟩ (ps.zip (us ++ ds))
theorem Binds.all {K : PySem.W.Frag} {fd : FuncData} {ps : List Str} (h : ∀ us : List Value, us.length = ps.length → bindArgs fd ⟨us, []⟩ = pure (ps.zip us)) : Binds K fd ps [] := fun s us _ hl => by
  rw [List.append_nil] at hl ⊢
  exact .of_eq (h us hl)
def Passes (CX : CXT) (X : Cx) (E : XK) : Prop := ∀ (pins : List (Addr × Obj)) (σ : St) (H : Hp) (s : Shared) (e : Value) (s' : Shared), Inv X pins σ H s → CX X.stack H s E e s' → X.xe e s'
section
variable {X : Cx} {CX : CXT} {k : Nat} {f C : Addr} {fd : FuncData} {ps : List Str} {sp : Sp} {dvs : List V} {ds : List Value} {E : XK} {x m : Str} {p pos apos : Pos} {e o : Expr} {es : List Expr} {ta : TE} {t : TA}
theorem run_fn {pins : List (Addr × Obj)} {σ : St} {H : Hp} {s : Shared} {Q : VK} {us : List Value} {vs : List V} (F : FnOk X.prog X.w X.K X.mg X.base CX k f fd ps sp) (hr : Room k X.A) (hb : Binds X.K fd ps ds) (hd : Vals dvs ds) (hx : Passes CX X E)
    (I : Inv X pins σ H s) (r : Vals vs us) (h : sp (vs ++ dvs) H Q E) : wpAny (model X.prog X.w) X.A (call (.ref f) us) (EP X pins σ Q) X.xe s := by
  have r2 : Vals (vs ++ dvs) (us ++ ds) := r.append hd
  have hl : (us ++ ds).length = ps.length := by rw [← r2.length]; exact F.len _ _ _ _ h
  refine wpAny_call (codeAny_mono (F.run X.A X.stack s H ⟨us, []⟩ (us ++ ds) (vs ++ dvs) Q E hr I.env0 (hb s us I.kIn hl) r2 h) fun r s' hq => ?_)
  cases r with
  | error e => exact hx pins σ H s e s' I hq
  | ok fl =>
    cases fl with
    | ret u => exact I.after hq
    | next => exact False.elim hq
    | brk => exact False.elim hq
    | cont => exact False.elim hq
theorem pe_call (F : FnOk X.prog X.w X.K X.mg X.base CX k f fd ps sp) (hr : Room k X.A) (hg : Gl X x) (hm : X.mg x = some (.ref f)) (hk : PySem.W.keepIn X.K (.ref f) = true) (hb : Binds X.K fd ps ds) (hd : Vals dvs ds) (hx : Passes CX X E)
    (ha : PA X (e :: es) t) (hdb : (x == ("__debug__" : Str)) = false := by decide) (he : starEach (e :: es) X.env = (false, eval e X.env) :: starEach es X.env := by rfl) (hpl : (backTo pos (starEach es X.env)).any (·.1) = false := by rfl) :
    PE X (.Call (.Name x p) (e :: es) [] pos) (tCall sp dvs E t) := by
  intro pins s σ H Q I h
  refine wpAny_Call_Name_kw (ld_glob I hg hm ?_ hdb)
  refine PySem.W.callWith_K (h₀ := X.base) I.ok.mod.kin hk (thn (ha pos pins s σ H _ I h) fun us s1 hm0 => ?_) he hpl
  obtain ⟨vs, H1, I1, r, q⟩ := hm0
  refine ⟨I1.kIn, ?_⟩
  exact run_fn F hr hb hd hx I1 r q
end
def PK (X : Cx) (kws : List Keyword) (t : TA) : Prop :=
  ∀ (pos : Pos) (pins : List (Addr × Obj)) (s : Shared) (σ : St) (H : Hp) (Q : List V → Hp → Prop), Inv X pins σ H s → t σ H Q → wpAny (model X.prog X.w) X.A (evalAll ((backToKw pos (keywordEach kws X.env)).map (·.2))) (AP X pins σ Q) X.xe s
section
variable {X : Cx} {CX : CXT} {k : Nat} {f C : Addr} {fd : FuncData} {ps ks : List Str} {sp : Sp} {E : XK} {x m : Str} {p pos apos kpos : Pos} {e o : Expr} {es : List Expr} {kws : List Keyword} {te ta : TE} {t tk : TA} {nm : Option Str}
theorem pk_nil : PK X [] tNil := fun _ _ _ _ H Q I h => wpAny_evalAll_nil ⟨[], H, I, .nil, h⟩
theorem pk_cons (ha : PE X e te) (hr : PK X kws t) : PK X (⟨nm, e, kpos⟩ :: kws) (tCons te t) := by
  intro pos pins s σ H Q I h
  show wpAny _ _ (evalAll ((do let v ← eval e X.env; standAt pos; pure v) :: (backToKw pos (keywordEach kws X.env)).map (·.2))) _ _ s
  refine wpAny_evalAll_cons (wpAny_bind (thn (ha pins s σ H _ I h) fun u s1 hm0 => ?_))
  obtain ⟨x, H1, I1, r1, q1⟩ := hm0
  refine wpAny_bind (wpAny_standAt (wpAny_pure ?_))
  refine thn (hr pos pins s1 σ H1 _ I1 q1) fun us s2 hm0 => ?_
  obtain ⟨xs, H2, I2, r2, q2⟩ := hm0
  exact ⟨x :: xs, H2, I2, .cons r1 r2, q2⟩
variable {g : List Value → List Value → List Value} {gV : List V → List V → List V}
end
structure FnScope (N P : List Str) (sc : Scope) : Prop where
  kind : sc.kind = .function
  co : sc.isCoroutine = false
  gen : sc.isGenerator = false
  nd : N.Nodup
  pre : N.take P.length = P
  par : ∀ x ∈ P, sc.names.lookup x = some .local ∨ sc.names.lookup x = some .cell
  nofree : ∀ y ∈ sc.names, y.2 ≠ .free
theorem bindL_out {kindOf : Str → Option NameKind} {x : Str} : ∀ {binds : List (Str × Value)} {m : Str → Option Value}, (∀ v, (x, v) ∉ binds) → bindL kindOf binds m x = m x
  | [], _, _ => rfl
  | (n, v) :: r, m, h => by
    unfold bindL
    rw [bindL_out fun w hw => h w (List.mem_cons_of_mem _ hw)]
    split
    · have : x ≠ n := by rintro rfl; exact h v List.mem_cons_self
      simp [this]
    · rfl
theorem bindC_out {kindOf : Str → Option NameKind} {x : Str} : ∀ {binds : List (Str × Value)} {m : Str → Option Value}, (∀ v, (x, v) ∉ binds) → bindC kindOf binds m x = m x
  | [], _, _ => rfl
  | (n, v) :: r, m, h => by
    unfold bindC
    rw [bindC_out fun w hw => h w (List.mem_cons_of_mem _ hw)]
    split
    · rfl
    · have : x ≠ n := by rintro rfl; exact h v List.mem_cons_self
      simp [this]
theorem bindL_get {kindOf : Str → Option NameKind} {x : Str} {v : Value} : ∀ {P : List Str} {vs : List Value} {i : Nat} {m : Str → Option Value}, P.Nodup → P[i]? = some x → vs[i]? = some v → kindOf x = some .local →
    bindL kindOf (P.zip vs) m x = some v
  | [], _, _, _, _, h, _, _ => by simp at h
  | _ :: _, [], _, _, _, _, h, _ => by simp at h
  | p :: P, w :: vs, 0, m, nd, h1, h2, hk => by
    simp at h1 h2; subst h1; subst h2
    show bindL kindOf ((p, w) :: P.zip vs) m p = _
    unfold bindL
    rw [bindL_out fun v hv => (List.nodup_cons.mp nd).1 (List.of_mem_zip hv).1, if_pos hk]
    simp
  | p :: P, w :: vs, i + 1, m, nd, h1, h2, hk => by
    show bindL kindOf ((p, w) :: P.zip vs) m x = _
    unfold bindL
    exact bindL_get (i := i) (List.nodup_cons.mp nd).2 (by simpa using h1) (by simpa using h2) hk
theorem bindC_get {kindOf : Str → Option NameKind} {x : Str} {v : Value} : ∀ {P : List Str} {vs : List Value} {i : Nat} {m : Str → Option Value}, P.Nodup → P[i]? = some x → vs[i]? = some v → kindOf x ≠ some .local →
    bindC kindOf (P.zip vs) m x = some v
  | [], _, _, _, _, h, _, _ => by simp at h
  | _ :: _, [], _, _, _, _, h, _ => by simp at h
  | p :: P, w :: vs, 0, m, nd, h1, h2, hk => by
    simp at h1 h2; subst h1; subst h2
    show bindC kindOf ((p, w) :: P.zip vs) m p = _
    unfold bindC
    rw [bindC_out fun v hv => (List.nodup_cons.mp nd).1 (List.of_mem_zip hv).1, if_neg hk]
    simp
  | p :: P, w :: vs, i + 1, m, nd, h1, h2, hk => by
    show bindC kindOf ((p, w) :: P.zip vs) m x = _
    unfold bindC
    exact bindC_get (i := i) (List.nodup_cons.mp nd).2 (by simpa using h1) (by simpa using h2) hk
def start (N : List Str) (vs : List V) : St := vs.map some ++ List.replicate (N.length - vs.length) none
def cxOf (CX : CXT) (P : Program) (w : World) (K : PySem.W.Frag) (mg : Str → Option Value) (base : Heap) (N : List Str) (qual : Str) (scope : Scope) (f : Addr) (cd : Value) (A : Around) (outer : List Env) (s : Shared) (H : Hp) (E : XK) : Cx where
  prog := P
  w := w
  K := K
  mg := mg
  base := base
  A := A.deeper (envOfC qual scope s.heap.objs.size f cd)
  N := N
  s₀ := s
  H₀ := H
  env := envOfC qual scope s.heap.objs.size f cd
  outer := outer
  stack := envOfC qual scope s.heap.objs.size f cd :: outer
  ex := []
  calm := true
  fn := fun _ => true
  pn := []
  xe := fun e s' => wpAny (model P w) (A.deeper (envOfC qual scope s.heap.objs.size f cd)) (leaving (envOfC qual scope s.heap.objs.size f cd) e) (fun _ s'' => CX outer H s E e s'') (fun e' s'' => CX outer H s E e' s'') s'
theorem cell_has {sc : Scope} {n : Nat} {x : Str} (h : sc.names.lookup x = some .cell) : ∃ c, (cellsFrom n sc.names []).lookup x = some c := by
  have q := PySem.W.cellsFrom_some sc.names n [] (.inl h)
  exact Option.isSome_iff_exists.mp q
theorem inv_start {CX : CXT} {P : Program} {w : World} {K : PySem.W.Frag} {mg : Str → Option Value} {base : Heap} {N ps : List Str} {qual : Str} {scope : Scope} {f : Addr} {cd : Value} {A : Around} {outer : List Env} {s s1 : Shared} {H : Hp} {E : XK} {us : List Value} {vs : List V}
    (S : FnScope N ps scope) (hd : A.handled = none) (e0 : Env0 P w K mg base A outer s H) (hl : vs.length = ps.length) (r : Vals vs us)
    (x : InCallC s s.heap.objs.size (bindL (envOfC qual scope s.heap.objs.size f cd).kindOf (ps.zip us) fun _ => none) (cellsFrom (s.heap.objs.size + 1) scope.names []) (bindC (envOfC qual scope s.heap.objs.size f cd).kindOf (ps.zip us) fun _ => none) s1) :
    Inv (cxOf CX P w K mg base N qual scope f cd A outer s H E) [] (start N vs) H s1 := by
  have hpl : ps.length ≤ N.length := by have := congrArg List.length S.pre; rw [List.length_take] at this; omega
  obtain ⟨h1, tk, rfl, hk⟩ := x.done
  have noA : ∀ b : Addr, b ∉ (cxOf CX P w K mg base N qual scope f cd A outer s H E).ex := fun b z => absurd (show b ∈ ([] : List Addr) from z) (by simp)
  refine ⟨⟨e0.mod, S.kind, rfl, rfl, Nat.le_refl _, fun y z c h1 h2 => ?_, fun y hy => ?_, fun y c _ h => ?_, fun _ => hd, Around.frames_deeper e0.frames, .inr ⟨rfl, rfl⟩, fun b z => absurd z (noA b), e0.bs, e0.bsz, fun b _ _ => noA b, fun b z => absurd z (noA b), e0.funs, e0.frf⟩,
    rfl, e0.bare, Un.kept hk, ⟨_, x.toInCall.ns, fun i y v h1 h2 h3 => ?_⟩, fun y c h => ⟨_, x.cell y c h⟩, e0.hok.fresh (Nat.le_refl _), fun y c h => ?_, fun p hp => absurd (show p ∈ ([] : List (Addr × Obj)) from hp) (by simp), e0.hok.kept hk, ?_⟩
  · exact name_of_addr x.apart (PySem.mem_of_lookup h1) (PySem.mem_of_lookup h2)
  · have hy : scope.names.lookup y = some .cell ∨ scope.names.lookup y = some .free := hy
    rcases hy with hy | hy
    · exact cell_has hy
    · exact absurd rfl (S.nofree _ (PySem.mem_of_lookup hy))
  · exact Nat.le_of_lt (x.above y c (PySem.mem_of_lookup h))
  · have hi : i < vs.length := by
      unfold start at h2
      by_cases hi : i < vs.length
      · exact hi
      · rw [List.getElem?_append_right (by simpa using hi)] at h2
        rw [List.getElem?_replicate] at h2
        split at h2 <;> cases h2
    have ha : vs[i]? = some v := by
      unfold start at h2
      rw [List.getElem?_append_left (by simpa using hi), List.getElem?_map] at h2
      cases e : vs[i]? with
      | none => rw [e] at h2; cases h2
      | some a => rw [e] at h2; cases h2; rfl
    obtain ⟨u, hu, rv⟩ := r.get ha
    have hp : ps[i]? = some y := by
      rw [← S.pre, List.getElem?_take_of_lt (by omega)]; exact h1
    have ndP : ps.Nodup := by rw [← S.pre]; exact S.nd.sublist (List.take_sublist _ _)
    refine ⟨u, rv, ?_⟩
    rcases S.par y (List.mem_of_getElem? hp) with k | k
    · exact .inl ⟨k, bindL_get ndP hp hu k⟩
    · obtain ⟨c, e⟩ := cell_has (n := s.heap.objs.size + 1) k
      refine .inr ⟨.inl k, c, e, ?_⟩
      have q := x.cell y c e
      rw [bindC_get ndP hp hu (by show scope.names.lookup y ≠ _; rw [k]; decide)] at q
      exact q
  · exact e0.hok.fresh (Nat.le_of_lt (x.above y c (PySem.mem_of_lookup h)))
  · unfold start
    show _ = N.length
    rw [List.length_append, List.length_map, List.length_replicate]
    omega
theorem fn_of {CX : CXT} {P : Program} {w : World} {K : PySem.W.Frag} {mg : Str → Option Value} {base : Heap} {k : Nat} {f : Addr} {name qual : Str} {params : Arguments} {body : List Stmt} {scope : Scope} {dV kV doc pm cdv ct oc : Value} {an od : Option Addr}
    {osl : Array (Option Value)} {N ps : List Str} {sp : Sp} (lk : K.lookup f = some ⟨oc, od, .func (PySem.W.fnOf name qual params body scope dV kV doc pm an cdv ct), osl⟩) (hcd : PySem.W.codeIn K cdv qual = true) (S : FnScope N ps scope)
    (len : ∀ vs H Q E, sp vs H Q E → vs.length = ps.length)
    (hbody : ∀ (A : Around) (outer : List Env) (s : Shared) (H : Hp) (vs : List V) (Q : VK) (E : XK), Room k (A.deeper (envOfC qual scope s.heap.objs.size f cdv)) → sp vs H Q E →
      ∃ t, PSs (cxOf CX P w K mg base N qual scope f cdv A outer s H E) body t ∧ t { nx := fun _ H' => Q .non H', rt := Q } (start N vs) H) :
    FnOk P w K mg base CX (k + 1) f (PySem.W.fnOf name qual params body scope dV kV doc pm an cdv ct) ps sp := by
  refine ⟨len, fun A outer s H args us vs Q E hr e0 hb r hsp => ?_⟩
  have hl := len _ _ _ _ hsp
  have KX : K.In s.heap := e0.mod.kin.keeps fun b o e => (e0.bs b o e).1
  have lim : s.heap.NoLimit := e0.mod.nolimit.keeps fun b o e => (e0.bs b o e).1
  have hkind : ∀ y ∈ ps.zip us, scope.names.lookup y.1 = some .local ∨ (scope.names.lookup y.1 = some .cell ∧ ((cellsFrom (s.heap.objs.size + 1) scope.names []).lookup y.1).isSome = true) := fun ⟨n, v⟩ hy => by
    rcases S.par n (List.of_mem_zip hy).1 with q | q
    · exact .inl q
    · exact .inr ⟨q, PySem.W.cellsFrom_some _ _ _ (.inl q)⟩
  refine codeAny_call_function hr.depth (KX _ _ lk) rfl S.co S.gen rfl (PySem.W.codeRec_of KX hcd) (hb _ _ _ _ ?_)
  refine wpAny_newFunctionEnv_cells S.kind hkind fun env he s1 x => ?_
  subst he
  refine ⟨lim.keeps x.toInCall.keep, codeAny_func ?_⟩
  obtain ⟨t, ht, hq⟩ := hbody A outer s H vs Q E (hr.deeper _) hsp
  have I : Inv (cxOf CX P w K mg base N qual scope f cdv A outer s H E) [] (start N vs) H s1 := inv_start S hr.hd e0 hl r x
  refine wpAny_mono (ht [] s1 (start N vs) H _ I hq) (fun fl s' hs => ?_) fun e s' hs => hs
  have fin : ∀ {σ' : St} {H' : Hp} {v : V} {u : Value}, Inv (cxOf CX P w K mg base N qual scope f cdv A outer s H E) [] σ' H' s' → RelV v u → Q v H' → CE outer P w H s Q u s' :=
    fun {σ' H' v u} J rv q => ⟨v, H', J.os, J.bare, J.base, J.hok, rv, q⟩
  cases fl with
  | ret u =>
    obtain ⟨v, σ', H', J, rv, q⟩ := hs
    exact fin J rv q
  | next =>
    obtain ⟨σ', H', J, q⟩ := hs
    exact fin (v := V.non) (u := Value.none) J rfl q
  | brk =>
    obtain ⟨_, _, _, q⟩ := hs
    exact False.elim q
  | cont =>
    obtain ⟨_, _, _, q⟩ := hs
    exact False.elim q
end L2
namespace L2
open PySem PySem.Spec PyProof.Rows
section
variable {X : Cx} {x : Str} {p pos : Pos} {e : Expr} {es : List Expr} {t : TA} {id T : String} {r : List V → Hp → VK → Prop}
def tCB (r : List V → Hp → VK → Prop) (t : TA) : TE := fun σ H Q => t σ H fun vs H1 => r vs H1 Q
theorem pe_callB (hc : CallR X (.builtin id) r) (hg : Gl X x) (hm : X.mg x = none) (hv : bootBuiltins x = some (.builtin id)) (ha : PA X (e :: es) t) (hn : x ≠ "__name__" := by decide) (hdb : (x == ("__debug__" : Str)) = false := by decide)
    (he : starEach (e :: es) X.env = (false, eval e X.env) :: starEach es X.env := by rfl) (hpl : (backTo pos (starEach es X.env)).any (·.1) = false := by rfl) : PE X (.Call (.Name x p) (e :: es) [] pos) (tCB r t) := by
  intro pins s σ H Q I h
  refine wpAny_Call_Name_kw (ld_blt I hg hm hv ?_ hn hdb)
  refine PyProof.Rows.callWith_builtin1 (thn (ha pos pins s σ H _ I h) fun us s1 hm0 => ?_) he hpl
  obtain ⟨vs, H1, I1, r1, q1⟩ := hm0
  exact hc pins s1 σ H1 vs us Q I1 r1 q1
theorem pe_callTy (hc : CallR X (.type T) r) (hg : Gl X x) (hm : X.mg x = none) (hv : bootBuiltins x = some (.type T)) (ha : PA X (e :: es) t) (hn : x ≠ "__name__" := by decide) (hdb : (x == ("__debug__" : Str)) = false := by decide)
    (he : starEach (e :: es) X.env = (false, eval e X.env) :: starEach es X.env := by rfl) (hpl : (backTo pos (starEach es X.env)).any (·.1) = false := by rfl) : PE X (.Call (.Name x p) (e :: es) [] pos) (tCB r t) := by
  intro pins s σ H Q I h
  refine wpAny_Call_Name_kw (ld_blt I hg hm hv ?_ hn hdb)
  refine PyProof.Rows.callWith_type1 (thn (ha pos pins s σ H _ I h) fun us s1 hm0 => ?_) he hpl
  obtain ⟨vs, H1, I1, r1, q1⟩ := hm0
  exact hc pins s1 σ H1 vs us Q I1 r1 q1
end
end L2
namespace HT
open PySem PyProof.Rows
section
open PySem.SeqAt
open PySem.AutoSeq1 (wpAny_loadPart')
open PySem.MeetsSeq PySem.MeetsSeq2 PySem.MeetsSeq3
end
section
variable {prog : Program} {w : World} {A : Around} {E : Value → Shared → Prop} {s : Shared}
def sIx (n d : Nat) : Option Int → Nat
  | none => d
  | some v => if v < 0 then (v + (n : Int)).toNat else min v.toNat n
theorem sIx_none (n d : Nat) : sIx n d none = d := rfl
theorem sIx_nat (n d k : Nat) : sIx n d (some (k : Int)) = min k n := by
  show (if (k : Int) < 0 then ((k : Int) + (n : Int)).toNat else min (k : Int).toNat n) = min k n
  rw [if_neg (by omega), Int.toNat_natCast]
end
end HT
namespace L2
open PySem PySem.Spec PyProof.Rows
abbrev TO := St → Hp → (Option Int → Hp → Prop) → Prop
def PO (X : Cx) (e : Option Expr) (t : TO) : Prop :=
  ∀ (pins : List (Addr × Obj)) (s : Shared) (σ : St) (H : Hp) (Q : Option Int → Hp → Prop), Inv X pins σ H s → t σ H Q →
    wpAny (model X.prog X.w) X.A (evalPart e X.env) (fun u s' => ∃ o H', Inv X pins σ H' s' ∧ IsPart u o ∧ Q o H') X.xe s
def tNoPart : TO := fun _ H Q => Q none H
def tPart (t : TE) : TO := fun σ H Q => t σ H fun x H1 => ∃ i, x = .int i ∧ Q (some i) H1
theorem intsAre_of {ns : List Int} : ∀ {us : List Value}, Vals (ns.map V.int) us → IntsAre us ns := by
  induction ns with
  | nil => intro us r; rw [List.map_nil] at r; cases r; exact .nil
  | cons n ns ih =>
    intro us r
    rw [List.map_cons] at r
    cases r with
    | cons r1 r2 =>
      obtain ⟨t, e⟩ := r1
      subst e
      exact .cons n t (ih r2)
section
variable {X : Cx} {e : Expr} {te : TE} {lo hi : Option Expr} {tl th : TO} {pos p2 : Pos}
theorem po_none : PO X none tNoPart := by
  intro pins s σ H Q I h
  rw [evalPart_none]
  exact wpAny_pure ⟨none, H, I, .none, h⟩
theorem po_some (h : PE X e te) : PO X (some e) (tPart te) := by
  intro pins s σ H Q I hw
  rw [evalPart_some]
  refine thn (h pins s σ H _ I hw) fun u s1 hm0 => ?_
  obtain ⟨x, H1, I1, r1, q1⟩ := hm0
  obtain ⟨i, rfl, q⟩ := q1
  obtain ⟨t, rfl⟩ := r1
  exact ⟨some i, H1, I1, .int i t, q⟩
def SlR (X : Cx) (r : V → Option Int → Option Int → Hp → VK → Prop) : Prop :=
  ∀ (pins : List (Addr × Obj)) (s : Shared) (σ : St) (H : Hp) (x : V) (v vl vu : Value) (lo hi : Option Int) (sl : Addr) (Q : VK), Inv X pins σ H s → RelV x v → s.heap.IsSliceOf sl vl vu .none → IsPart vl lo → IsPart vu hi → r x lo hi H Q →
    ∃ T id, typeLookup (.type T) "__getitem__" = pure (some (.builtin id)) ∧ s.TypeIs v T ∧ wpAny (model X.prog X.w) X.A (getItem v (.ref sl)) (EP X pins σ Q) X.xe s
def tSl (r : V → Option Int → Option Int → Hp → VK → Prop) (te : TE) (tl th : TO) : TE := fun σ H Q => te σ H fun x H1 => tl σ H1 fun l H2 => th σ H2 fun u H3 => r x l u H3 Q
theorem pe_slice {r : V → Option Int → Option Int → Hp → VK → Prop} (hr : SlR X r) (he : PE X e te) (hl : PO X lo tl) (hu : PO X hi th) : PE X (.Subscript e (.Slice lo hi none p2) pos) (tSl r te tl th) := by
  intro pins s σ H Q I h
  refine Subscript_ (thn (he pins s σ H _ I h) fun v s1 hm0 => ?_)
  obtain ⟨x, H1, I1, r1, q1⟩ := hm0
  refine wpAny_Slice (thn (hl pins s1 σ H1 _ I1 q1) fun vl s2 hm0 => ?_)
  obtain ⟨l, H2, I2, pl, q2⟩ := hm0
  refine thn (hu pins s2 σ H2 _ I2 q2) fun vu s3 hm1 => ?_
  obtain ⟨u, H3, I3, pu, q3⟩ := hm1
  rw [evalPart_none]
  refine wpAny_pure ?_
  have I4 : Inv X pins σ H3 { s3 with heap := s3.heap.push { cls := .type "slice", data := .fields #[vl, vu, .none] } } := I3.kept (t' := s3.toks) fun b ob q => Heap.get?_push_of_some _ q
  obtain ⟨T, id, hT, ht, hg⟩ := hr pins { s3 with heap := s3.heap.push { cls := .type "slice", data := .fields #[vl, vu, .none] } } σ H3 x v vl vu l u s3.heap.objs.size Q I4 r1 (Heap.IsSliceOf.new ..) pl pu q3
  show wpAny (model X.prog X.w) X.A (subscriptTail e (.Slice lo hi none p2) v (.ref s3.heap.objs.size)) (EP X pins σ Q) X.xe { s3 with heap := s3.heap.push { cls := .type "slice", data := .fields #[vl, vu, .none] } }
  exact tail_any (ops := [.ref s3.heap.objs.size, v]) ht hT hg (by with_unfolding_all rfl)
def cutV (xs : List V) (lo hi : Option Int) : List V := (xs.drop (HT.sIx xs.length 0 lo)).take (HT.sIx xs.length xs.length hi - HT.sIx xs.length 0 lo)
theorem cutV_length (xs : List V) (lo hi : Option Int) : (cutV xs lo hi).length ≤ xs.length := by
  unfold cutV
  rw [List.length_take, List.length_drop]
  omega
end
end L2
namespace L2
open PySem PySem.Spec PyProof.Rows
def ixN (n : Nat) (i : Int) : Option Nat := if 0 ≤ i then (if i < n then some i.toNat else none) else if -(n : Int) ≤ i then some (i + n).toNat else none
def atI {α : Type} (xs : List α) (i : Int) : Option α := (ixN xs.length i).bind fun j => xs[j]?
theorem ixN_seq {n : Nat} {i : Int} {j : Nat} (h : ixN n i = some j) : seqIndex? i n = some j ∧ j < n ∧ -(n : Int) ≤ i ∧ i < n := by
  unfold ixN at h
  by_cases h0 : 0 ≤ i
  · rw [if_pos h0] at h
    by_cases h1 : i < n
    · rw [if_pos h1] at h
      have e : i.toNat = j := Option.some.inj h
      exact ⟨by rw [seqIndex_of h0 h1, e], by omega, by omega, h1⟩
    · rw [if_neg h1] at h; cases h
  · rw [if_neg h0] at h
    by_cases h1 : -(n : Int) ≤ i
    · rw [if_pos h1] at h
      have e : (i + n).toNat = j := Option.some.inj h
      exact ⟨by rw [seqIndex_neg (by omega) h1, e], by omega, h1, by omega⟩
    · rw [if_neg h1] at h; cases h
theorem atI_get {α : Type} {xs : List α} {i : Int} {v : α} (h : atI xs i = some v) : ∃ j, seqIndex? i xs.length = some j ∧ xs[j]? = some v ∧ j < xs.length ∧ -(xs.length : Int) ≤ i ∧ i < xs.length := by
  unfold atI at h
  cases e : ixN xs.length i with
  | none => rw [e] at h; cases h
  | some j =>
    rw [e] at h
    obtain ⟨h1, h2, h3, h4⟩ := ixN_seq e
    exact ⟨j, h1, h, h2, h3, h4⟩
theorem atI_nat {α : Type} {xs : List α} {j : Nat} {v : α} (h : xs[j]? = some v) : atI xs (j : Int) = some v := by
  have hj : j < xs.length := (List.getElem?_eq_some_iff.mp h).1
  have e : ixN xs.length (j : Int) = some j := by
    unfold ixN
    rw [if_pos (by omega), if_pos (by omega)]; simp
  unfold atI; rw [e]; exact h
def PlainIx (b : Expr) : Prop := ∀ o i, subscripted b false o i = operate [o, i] (getItem o i)
def IxR (X : Cx) (r : R2) : Prop :=
  ∀ (value slice : Expr) (pins : List (Addr × Obj)) (s : Shared) (σ : St) (H : Hp) (x y : V) (v u : Value) (Q : VK), Inv X pins σ H s → RelV x v → RelV y u → r x y H Q →
    subscripted slice false v u = operate [v, u] (getItem v u) → wpAny (model X.prog X.w) X.A (subscriptTail value slice v u) (EP X pins σ Q) X.xe s
def MtR (X : Cx) (id : String) (r : V → List V → Hp → VK → Prop) : Prop :=
  ∀ (pins : List (Addr × Obj)) (s : Shared) (σ : St) (H : Hp) (x : V) (xs : List V) (v : Value) (us : List Value) (Q : VK), Inv X pins σ H s → RelV x v → Vals xs us → r x xs H Q →
    wpAny (model X.prog X.w) X.A (call (.builtin id) (v :: us)) (EP X pins σ Q) X.xe s
section
variable {X : Cx} {a b : Expr} {ta tb : TE} {pos : Pos}
theorem pe_ix {r : R2} (hr : IxR X r) (ha : PE X a ta) (hb : PE X b tb) (hs : PlainIx b) : PE X (.Subscript a b pos) (tOp r ta tb) := by
  intro pins s σ H Q I h
  exact Subscript_ (binT ha hb I h fun v u s2 x y H2 I2 rx ry q => hr a b pins s2 σ H2 x y v u Q I2 rx ry q (hs _ _))
def rIxL (K : PySem.W.Frag) : R2 := fun x y H Q => ∃ p xs i v, x = .ref p ∧ y = .int i ∧ SqL K H p xs ∧ atI xs i = some v ∧ Q v H
def rIxT (K : PySem.W.Frag) : R2 := fun x y H Q => ∃ p xs i v, x = .ref p ∧ y = .int i ∧ SqT K H p xs ∧ atI xs i = some v ∧ Q v H
def rIxS : R2 := fun x y H Q => ∃ z i c, x = .str z ∧ y = .int i ∧ z.length ≤ sizeLine ∧ atI z.cps.toList i = some c ∧ Q (.str ⟨#[c]⟩) H
theorem ix_list : IxR X (rIxL X.K) := by
  intro value slice pins s σ H x y v u Q I rx ry h hs
  obtain ⟨p, xs, i, z, rfl, rfl, hq, he, q⟩ := h
  cases rx
  obtain ⟨t, rfl⟩ := ry
  obtain ⟨its, r, pl, hz⟩ := I.list hq
  obtain ⟨j, h1, h2, h3, h4, h5⟩ := atI_get he
  obtain ⟨w, ew, rw'⟩ := r.get h2
  have hl := r.length
  have hn := line63
  have fin : EP X pins σ Q w s := ⟨z, H, I, rw', q⟩
  by_cases h0 : 0 ≤ i
  · have hj : i.toNat = j := by
      rw [seqIndex_of h0 h5] at h1
      exact Option.some.inj h1
    exact item_listR pl.isList h0 (by omega) (by rw [hj]; simpa using ew) fin hs
  · have hj : (i + (its.toArray.size : Int)).toNat = j := by
      rw [seqIndex_neg (by omega) h4] at h1
      rw [List.size_toArray, ← hl]
      exact Option.some.inj h1
    exact subscriptTail_builtinR (x := w) pl.isList.typeIs slot_list_getitem.lookup
      (wpAny_getItem_list_neg (Q := fun r s' => r = w ∧ EP X pins σ Q r s') pl.isList (by omega) (by rw [List.size_toArray] <;> omega) (by omega) (by rw [hj]; simpa using ew) ⟨rfl, fin⟩) hs
theorem ix_tup : IxR X (rIxT X.K) := by
  intro value slice pins s σ H x y v u Q I rx ry h hs
  obtain ⟨p, xs, i, z, rfl, rfl, hq, he, q⟩ := h
  cases rx
  obtain ⟨t, rfl⟩ := ry
  obtain ⟨its, r, pl, hz⟩ := I.tuple hq
  obtain ⟨j, h1, h2, h3, h4, h5⟩ := atI_get he
  obtain ⟨w, ew, rw'⟩ := r.get h2
  have hl := r.length
  have hn := line63
  have fin : EP X pins σ Q w s := ⟨z, H, I, rw', q⟩
  exact subscriptTail_builtinR (x := w) pl.typeIs slot_tuple_getitem.lookup
    (getItem_tuple (j := j) (Q := fun r s' => r = w ∧ EP X pins σ Q r s') pl (by omega) (by omega) (by rw [List.size_toArray, ← hl]; exact h1) (by simpa using ew) ⟨rfl, fin⟩) hs
theorem ix_str : IxR X rIxS := by
  intro value slice pins s σ H x y v u Q I rx ry h hs
  obtain ⟨z, i, c, rfl, rfl, hz, he, q⟩ := h
  obtain ⟨t, rfl⟩ := rx
  obtain ⟨t', rfl⟩ := ry
  obtain ⟨j, h1, h2, h3, h4, h5⟩ := atI_get he
  have hl : z.cps.toList.length = z.length := by simp [Str.length]
  rw [hl] at h1 h4 h5
  have hn := line63
  exact tail_any (typeIs_str s z t) slot_str_getitem.lookup (getItem_str (c := c) (by
    have e1 : decide (i < -(2 ^ 63 : Int)) = false := decide_eq_false (by omega)
    have e2 : decide (i ≥ 2 ^ 63) = false := decide_eq_false (by omega)
    rw [e1, e2, Bool.or_false]) (by rw [h1]; simpa using h2) ⟨.str ⟨#[c]⟩, H, I.tok _, ⟨_, rfl⟩, q⟩) hs
theorem Inv.lst {pins : List (Addr × Obj)} {σ : St} {H : Hp} {s : Shared} {p : Addr} {xs : List V} (I : Inv X pins σ H s) (h : H p = some (.lst xs)) :
    ∃ (its : List Value) (n : Nat), Vals xs its ∧ s.heap.get? p = some { cls := .type "list", data := .seq its.toArray n } ∧ xs.length ≤ sizeLine := by
  obtain ⟨z, its, n, r, e⟩ := I.hok p _ h
  exact ⟨its, n, r, e, z⟩
theorem slice_bounds (lo hi : Option Int) (n : Nat) : (sliceBounds lo hi none n).1 = ((HT.sIx n 0 lo : Nat) : Int) ∧ (sliceBounds lo hi none n).2.1 = ((HT.sIx n n hi : Nat) : Int) ∧ (sliceBounds lo hi none n).2.2 = 1 := by
  refine ⟨?_, ?_, rfl⟩
  · cases lo with
    | none => simp [sliceBounds, HT.sIx]
    | some i =>
      simp only [sliceBounds, HT.sIx, Option.getD_none, show (1 : Int) > 0 by decide, if_true]
      by_cases h : i < 0
      · simp only [h, if_true] <;> omega
      · simp only [h, if_false] <;> omega
  · cases hi with
    | none => simp [sliceBounds, HT.sIx]
    | some i =>
      simp only [sliceBounds, HT.sIx, Option.getD_none, show (1 : Int) > 0 by decide, if_true]
      by_cases h : i < 0
      · simp only [h, if_true] <;> omega
      · simp only [h, if_false] <;> omega
theorem slicePick_cut (its : List Value) (lo hi : Option Int) : slicePick its.toArray lo hi none = ((its.drop (HT.sIx its.length 0 lo)).take (HT.sIx its.length its.length hi - HT.sIx its.length 0 lo)).toArray := by
  obtain ⟨h1, h2, h3⟩ := slice_bounds lo hi its.toArray.size
  unfold slicePick
  rw [h1, h2, h3]
  simp only [sliceRange_one, pick_run, List.size_toArray] <;> rfl
def rSlL (K : PySem.W.Frag) : V → Option Int → Option Int → Hp → VK → Prop := fun x lo hi H Q => ∃ a xs, x = .ref a ∧ SqL K H a xs ∧ ∀ p, H p = none → Q (.ref p) (upd H p (.lst (cutV xs lo hi)))
theorem sl_list : SlR X (rSlL X.K) := by
  intro pins s σ H x v vl vu lo hi sl Q I rx hs pl pu h
  obtain ⟨a, xs, rfl, hx, q⟩ := h
  cases rx
  obtain ⟨its, r, ht, hz⟩ := I.list hx
  have hlen := r.length
  refine ⟨"list", _, slot_list_getitem.lookup, ht.isList.typeIs, ?_⟩
  refine wpAny_getItem_list_slice ht.isList hs pl pu .none (by simp) ?_ (by rw [List.size_toArray] <;> omega)
  rw [slicePick_cut, ← hlen]
  refine ⟨.ref s.heap.objs.size, _, I.laid (t' := s.toks) (o := .lst (cutV xs lo hi)) (fun b ob q => Heap.get?_push_of_some _ q) (Nat.le_refl _) ?_, rfl, q _ (I.hok.fresh (Nat.le_refl _))⟩
  exact ⟨Nat.le_trans (cutV_length xs lo hi) hz, _, 0, (r.drop (HT.sIx xs.length 0 lo)).take (HT.sIx xs.length xs.length hi - HT.sIx xs.length 0 lo), Heap.get?_push_size _ rfl⟩
def flatV : V → Bool
  | .non => true
  | .bl _ => true
  | .int _ => true
  | .str _ => true
  | _ => false
def eqV : V → V → Bool
  | .non, .non => true
  | .bl a, .bl b => a == b
  | .bl a, .int b => (if a then 1 else 0) == b
  | .int a, .bl b => a == (if b then 1 else 0)
  | .int a, .int b => a == b
  | .str a, .str b => a == b
  | _, _ => false
theorem eqAt_V {A : Around} {s : Shared} {y x : V} {u v : Value} (ry : RelV y u) (rx : RelV x v) (fy : flatV y = true) (fx : flatV x = true) : SeqAt.EqAt A s u v (eqV y x) := by
  cases y with
  | non =>
    cases ry
    cases x with
    | non => cases rx; exact SeqAt.EqAt.same _
    | bl b => cases rx; exact SeqAt.EqAt.none_bool b
    | int b => obtain ⟨t, rfl⟩ := rx; exact SeqAt.EqAt.none_int b t
    | str b => obtain ⟨t, rfl⟩ := rx; exact SeqAt.EqAt.none_str b t
    | _ => exact absurd (show false = true from fx) Bool.false_ne_true
  | bl a =>
    cases ry
    cases x with
    | non => cases rx; exact SeqAt.EqAt.bool_none a
    | bl b => cases rx; exact SeqAt.EqAt.bool_bool a b
    | int b => obtain ⟨t, rfl⟩ := rx; exact SeqAt.EqAt.bool_int a b t
    | str b => obtain ⟨t, rfl⟩ := rx; exact SeqAt.EqAt.bool_str a b t
    | _ => exact absurd (show false = true from fx) Bool.false_ne_true
  | int a =>
    obtain ⟨t', rfl⟩ := ry
    cases x with
    | non => cases rx; exact SeqAt.EqAt.int_none a t'
    | bl b => cases rx; exact SeqAt.EqAt.int_bool a t' b
    | int b => obtain ⟨t, rfl⟩ := rx; exact SeqAt.EqAt.int_int a t' b t
    | str b => obtain ⟨t, rfl⟩ := rx; exact SeqAt.EqAt.int_str a t' b t
    | _ => exact absurd (show false = true from fx) Bool.false_ne_true
  | str a =>
    obtain ⟨t', rfl⟩ := ry
    cases x with
    | non => cases rx; exact SeqAt.EqAt.str_none a t'
    | bl b => cases rx; exact SeqAt.EqAt.str_bool a t' b
    | int b => obtain ⟨t, rfl⟩ := rx; exact SeqAt.EqAt.str_int a t' b t
    | str b => obtain ⟨t, rfl⟩ := rx; exact SeqAt.EqAt.str_str a t' b t
    | _ => exact absurd (show false = true from fx) Bool.false_ne_true
  | _ => exact absurd (show false = true from fy) Bool.false_ne_true
def eqU (x : V) (u : Value) : Bool := match u with
  | .none => eqV .non x
  | .bool b => eqV (.bl b) x
  | .int i _ => eqV (.int i) x
  | .str z _ => eqV (.str z) x
  | _ => false
theorem eqU_of {x y : V} {u : Value} (r : RelV y u) (f : flatV y = true) : eqU x u = eqV y x := by
  cases y with
  | non => cases r; rfl
  | bl b => cases r; rfl
  | int i => obtain ⟨t, rfl⟩ := r; rfl
  | str z => obtain ⟨t, rfl⟩ := r; rfl
  | _ => exact absurd (show false = true from f) Bool.false_ne_true
theorem any_eqU {x : V} : ∀ {xs : List V} {us : List Value}, Vals xs us → xs.all flatV = true → us.any (eqU x) = xs.any fun y => eqV y x
  | _, _, .nil, _ => rfl
  | y :: xs, u :: us, .cons r t, f => by
    rw [List.all_cons, Bool.and_eq_true] at f
    rw [List.any_cons, List.any_cons, eqU_of r f.1, any_eqU t f.2]
theorem mem_eqAt {A : Around} {s : Shared} {x : V} {v : Value} (rx : RelV x v) (fx : flatV x = true) : ∀ {xs : List V} {us : List Value}, Vals xs us → xs.all flatV = true → ∀ u ∈ us, SeqAt.EqAt A s u v (eqU x u)
  | _, _, .nil, _ => fun u hu => by cases hu
  | y :: xs, u :: us, .cons r t, f => fun u' hu => by
    rw [List.all_cons, Bool.and_eq_true] at f
    rcases List.mem_cons.mp hu with rfl | hu
    · rw [eqU_of r f.1]; exact eqAt_V r rx f.1 fx
    · exact mem_eqAt rx fx t f.2 u' hu
def inV (x : V) (xs : List V) : Bool := xs.any fun y => eqV y x
def rIn (K : PySem.W.Frag) (neg : Bool) : R2 := fun x y H Q => ∃ p xs, y = .ref p ∧ (SqL K H p xs ∨ SqT K H p xs) ∧ flatV x = true ∧ xs.all flatV = true ∧ Q (.bl (if neg then !inV x xs else inV x xs)) H
theorem op_notIn_seq : OpR X (compareOp .NotIn) (rIn X.K true) := by
  intro pins s σ H x y v u Q I rx ry h
  obtain ⟨p, xs, rfl, hq, fx, fs, q⟩ := h
  cases ry
  rcases hq with hq | hq
  · obtain ⟨its, r, pl, hz⟩ := I.list hq
    refine SeqAt.notIn_listAt (eqU x) pl.isList (fun w hw => mem_eqAt rx fx r fs w (by simpa using hw)) ⟨.bl _, H, I, rfl, ?_⟩
    rw [show its.toArray.any (eqU x) = its.any (eqU x) by simp, any_eqU r fs]
    exact q
  · obtain ⟨its, r, pl, hz⟩ := I.tuple hq
    refine SeqAt.notIn_tupleAt (eqU x) pl (fun w hw => mem_eqAt rx fx r fs w (by simpa using hw)) ⟨.bl _, H, I, rfl, ?_⟩
    rw [show its.toArray.any (eqU x) = its.any (eqU x) by simp, any_eqU r fs]
    exact q
theorem call_len_seq : CallR X (.builtin "len") (fun xs H Q => ∃ p ys, xs = [.ref p] ∧ (SqL X.K H p ys ∨ SqT X.K H p ys) ∧ Q (.int ys.length) H) := by
  intro pins s σ H xs us Q I r h
  obtain ⟨p, ys, rfl, hq, q⟩ := h
  obtain ⟨u, rfl, rx⟩ := vals1 r
  cases rx
  have hn := line63
  rcases hq with hq | hq
  · obtain ⟨its, r', pl, hz⟩ := I.list hq
    have hlen := r'.length
    exact Calls.call_len_list pl.isList (by simp only [List.size_toArray] <;> omega) ⟨.int ys.length, H, I.tok _, ⟨s.toks + 1, by rw [List.size_toArray, hlen]⟩, q⟩
  · obtain ⟨its, r', pl, hz⟩ := I.tuple hq
    have hlen := r'.length
    exact len_tuple pl (by simp only [List.size_toArray] <;> omega) ⟨.int ys.length, H, I.tok _, ⟨s.toks + 1, by rw [List.size_toArray, hlen]⟩, q⟩
theorem call_len_str : CallR X (.builtin "len") (fun xs H Q => ∃ z, xs = [.str z] ∧ z.length ≤ sizeLine ∧ Q (.int z.length) H) := by
  intro pins s σ H xs us Q I r h
  obtain ⟨z, rfl, hz, q⟩ := h
  obtain ⟨u, rfl, t, rfl⟩ := vals1 r
  have hn := line63
  exact len_str (by omega) ⟨.int z.length, H, I.tok _, ⟨_, rfl⟩, q⟩
def tyV (K : PySem.W.Frag) (T : String) (x : V) (H : Hp) : Prop := match x with
  | .str _ => T = "str"
  | .int _ => T = "int"
  | .ref p => (T = "list" ∧ ∃ xs, SqL K H p xs) ∨ (T = "tuple" ∧ ∃ o, K.lookup p = some o ∧ o.cls = .type "tuple" ∧ o.dict = none) ∨
      (T = "dict" ∧ ((∃ kvs, H p = some (.dK kvs)) ∨ ∃ kvs, H p = some (.dT kvs))) ∨ (T = "set" ∧ ∃ S n, H p = some (.set S n))
  | _ => False
theorem tyV_is {pins : List (Addr × Obj)} {σ : St} {H : Hp} {s : Shared} {T : String} {x : V} {v : Value} (I : Inv X pins σ H s) (r : RelV x v) (ty : tyV X.K T x H) :
    s.TypeIs v T ∧ ∀ a, v = .ref a → ∃ ob, s.heap.get? a = some ob ∧ ob.dict = none := by
  cases x with
  | str z =>
    obtain ⟨t, rfl⟩ := r
    cases (show T = "str" from ty)
    exact ⟨typeIs_str s z t, fun _ e => nomatch e⟩
  | int i =>
    obtain ⟨t, rfl⟩ := r
    cases (show T = "int" from ty)
    exact ⟨typeIs_int s i t, fun _ e => nomatch e⟩
  | ref p =>
    cases r
    rcases ty with ⟨rfl, xs, hq⟩ | ⟨rfl, o, hk, hc, hd⟩ | ⟨rfl, hk⟩ | ⟨rfl, S, n, hk⟩
    · obtain ⟨its, _, pl, _⟩ := I.list hq
      refine ⟨pl.isList.typeIs, fun a e => ?_⟩
      cases e
      obtain ⟨o, n, e, c, hd, _⟩ := pl
      exact ⟨o, e, hd⟩
    · refine ⟨⟨o, I.kIn p o hk, hc⟩, fun a e => ?_⟩
      cases e
      exact ⟨o, I.kIn _ o hk, hd⟩
    · have z : ∃ o, s.heap.get? p = some o ∧ o.ExactDict := by
        rcases hk with ⟨kvs, hk⟩ | ⟨kvs, hk⟩
        · obtain ⟨_, _, _, _, o, _, _, e, ex, _⟩ := I.hok p _ hk
          exact ⟨o, e, ex⟩
        · obtain ⟨_, _, _, _, o, _, _, e, ex, _⟩ := I.hok p _ hk
          exact ⟨o, e, ex⟩
      obtain ⟨o, e, ex⟩ := z
      refine ⟨⟨o, e, ex.1⟩, fun a e2 => ?_⟩
      cases e2
      exact ⟨o, e, ex.2.1⟩
    · obtain ⟨o, _, _, _, e, ex, _⟩ := I.hok p _ hk
      refine ⟨⟨o, e, ex.1⟩, fun a e2 => ?_⟩
      cases e2
      exact ⟨o, e, ex.2.1⟩
  | _ => exact False.elim ty
def tBM0 (K : PySem.W.Frag) (T : String) (r : V → List V → Hp → VK → Prop) (to : TE) : TE := fun σ H Q => to σ H fun x H1 => tyV K T x H1 ∧ r x [] H1 Q
def tBM (K : PySem.W.Frag) (T : String) (r : V → List V → Hp → VK → Prop) (to : TE) (t : TA) : TE := fun σ H Q => to σ H fun x H1 => tyV K T x H1 ∧ t σ H1 fun xs H2 => r x xs H2 Q
variable {o e : Expr} {es : List Expr} {to : TE} {t : TA} {name : Str} {apos cpos : Pos} {T id : String} {r : V → List V → Hp → VK → Prop}
theorem pe_bm0 (pa : PlainAttrs T) (slot : Slot T name id) (hty : typeOf (.builtin id) = pure (.type "method_descriptor")) (hm : MtR X id r) (ho : PE X o to)
    (hbase : attributeBase o name X.env (eval o X.env) = eval o X.env := by rfl) (hline : (apos.endLine == cpos.line) = true := by rfl) : PE X (.Call (.Attribute o name apos) [] [] cpos) (tBM0 X.K T r to) := by
  intro pins s σ H Q I h
  refine wpAny_Call_method0_late hbase hline (thn (ho pins s σ H _ I h) fun v s1 hm0 => ?_)
  obtain ⟨x, H1, I1, r1, ty, q1⟩ := hm0
  obtain ⟨h1, h2⟩ := tyV_is I1 r1 ty
  exact ⟨T, id, pa, slot, hty, h1, h2, Calls.callWith_builtin rfl (PySem.evalArgs_none (hm pins s1 σ H1 x [] v [] Q I1 r1 .nil q1))⟩
theorem pe_bm (pa : PlainAttrs T) (slot : Slot T name id) (hty : typeOf (.builtin id) = pure (.type "method_descriptor")) (hm : MtR X id r) (ho : PE X o to) (ha : PA X (e :: es) t)
    (hbase : attributeBase o name X.env (eval o X.env) = eval o X.env := by rfl)
    (hfew : ((backTo cpos (starEach (e :: es) X.env)).all (fun x => !x.1) && (backToKw cpos (keywordEach [] X.env)).all (fun x => x.1.isSome)
      && decide ((e :: es).length + ([] : List Keyword).length + (if ([] : List Keyword).isEmpty then 0 else 1) < 30)) = true := by rfl)
    (hline : (apos.endLine == cpos.line) = true := by rfl) (hs : starEach (e :: es) X.env = (false, eval e X.env) :: starEach es X.env := by rfl) (hplain : (backTo cpos (starEach es X.env)).any (·.1) = false := by rfl) :
    PE X (.Call (.Attribute o name apos) (e :: es) [] cpos) (tBM X.K T r to t) := by
  intro pins s σ H Q I h
  refine wpAny_Call_method_late hbase hfew hline rfl (thn (ho pins s σ H _ I h) fun v s1 hm0 => ?_)
  obtain ⟨x, H1, I1, r1, ty, q1⟩ := hm0
  obtain ⟨h1, h2⟩ := tyV_is I1 r1 ty
  refine ⟨T, id, pa, slot, hty, h1, h2, ?_⟩
  have hA := ha cpos pins s1 σ H1 _ I1 q1
  rw [hs] at hA ⊢
  refine Calls.callWith_builtin (by show (false || (backTo cpos (starEach es X.env)).any (·.1)) = false; rw [hplain] <;> rfl) (Calls.evalArgs_plain ?_)
  refine thn hA fun us s2 hm0 => ?_
  obtain ⟨vs, H2, I2, r2, q2⟩ := hm0
  exact hm pins s2 σ H2 x vs v us Q I2 r1 r2 q2
/- xs.append(e), list.index on a module's tuple .. are MtR facts of 06m -/
end
end L2
namespace L2
open PySem PySem.Spec PyProof.Rows
def MtM (X : Cx) (id : String) (r : V → List V → Hp → VK → Prop) : Prop :=
  ∀ (pins : List (Addr × Obj)) (s : Shared) (σ : St) (H : Hp) (x : V) (xs : List V) (v : Value) (us : List Value) (Q : VK), Inv X pins σ H s → RelV x v → Vals xs us → r x xs H Q →
    wpAny (model X.prog X.w) X.A (call (.builtin id) (v :: us)) (EP X pins σ Q) X.xe s
theorem Vals.one {x : V} {us : List Value} (h : Vals [x] us) : ∃ u, us = [u] ∧ RelV x u := by
  cases h with
  | cons r e => cases e; exact ⟨_, rfl, r⟩
theorem Vals.two {x y : V} {us : List Value} (h : Vals [x, y] us) : ∃ u v, us = [u, v] ∧ RelV x u ∧ RelV y v := by
  cases h with
  | cons r e =>
    obtain ⟨v, e1, q⟩ := Vals.one e
    subst e1
    exact ⟨_, _, rfl, r, q⟩
theorem Vals.zero : ∀ {us : List Value}, Vals [] us → us = []
  | _, .nil => rfl
section
variable {X : Cx} {pins : List (Addr × Obj)} {σ : St} {H : Hp} {s : Shared} {l b : Addr} {xs ys zs : List V}
theorem Inv.lset {its its' : List Value} {n : Nat} {f : Array Value → Array Value} {t' : Nat} (I : Inv X pins σ H s) (hH : H l = some (.lst xs))
    (e : s.heap.get? l = some { cls := .type "list", data := .seq its.toArray n }) (hf : f its.toArray = its'.toArray) (hv : Vals ys its') (hz : ys.length ≤ sizeLine) :
    Inv X pins σ (upd H l (.lst ys)) { s with heap := s.heap.update l (Obj.mapSeq f), toks := t' } := by
  have q := PySem.IsL.update e f
  rw [hf] at q
  refine I.write (x := l) (e := l) (by rw [hH]; exact trivial) (.inl rfl) (fun b' u hb hu => (Heap.get?_update_other s.heap (Obj.mapSeq f) (Ne.symm hb)).trans hu) ⟨_, q⟩ ?_
  exact ⟨hz, its', _, hv, q⟩
theorem Inv.lnew {its : List Value} {t' : Nat} (I : Inv X pins σ H s) (hv : Vals ys its) (hz : ys.length ≤ sizeLine) :
    Inv X pins σ (upd H s.heap.objs.size (.lst ys)) { s with heap := s.heap.push { cls := .type "list", data := .seq its.toArray }, toks := t' } :=
  I.laid (fun _ _ q => Heap.get?_push_of_some _ q) (Nat.le_refl _) ⟨hz, its, 0, hv, Heap.get?_push_size _ rfl⟩
theorem Inv.fresh (I : Inv X pins σ H s) : H s.heap.objs.size = none := I.hok.fresh (Nat.le_refl _)
theorem Inv.lstM (I : Inv X pins σ H s) (hH : H l = some (.lst xs)) : xs.length ≤ sizeLine ∧ ∃ (its : List Value) (n : Nat), Vals xs its ∧ xs.length = its.length ∧ s.heap.get? l = some { cls := .type "list", data := .seq its.toArray n } := by
  obtain ⟨z, its, n, r, e⟩ := I.hok l _ hH
  exact ⟨z, its, n, r, r.length, e⟩
end
section
variable {X : Cx}
def rAppend : V → List V → Hp → VK → Prop := fun x vs H Q => ∃ l xs y, x = .ref l ∧ vs = [y] ∧ H l = some (.lst xs) ∧ xs.length < sizeLine ∧ Q .non (upd H l (.lst (xs ++ [y])))
theorem mt_append : MtM X "list.append" rAppend := by
  intro pins s σ H x vs v us Q I rx rv h
  obtain ⟨l, xs, y, rfl, rfl, hH, hz, q⟩ := h
  cases rx
  obtain ⟨u, rfl, ru⟩ := rv.one
  obtain ⟨z, its, n, r, hl, e⟩ := I.lstM hH
  refine call_meets F.slot_list_append ⟨_, e, rfl⟩ F.entry_list_append (F.args_list_append_2 _ _) (PySem.list_append l its.toArray n u (by rw [List.size_toArray]; omega)) ⟨e, ?_⟩
  refine ⟨.non, _, I.lset (its' := its ++ [u]) hH e (by simp) (r.append (.cons ru .nil)) ?_, rfl, q⟩
  rw [List.length_append, List.length_singleton]
  omega
def rClear : V → List V → Hp → VK → Prop := fun x vs H Q => ∃ l xs, x = .ref l ∧ vs = [] ∧ H l = some (.lst xs) ∧ Q .non (upd H l (.lst []))
theorem mt_clear : MtM X "list.clear" rClear := by
  intro pins s σ H x vs v us Q I rx rv h
  obtain ⟨l, xs, rfl, rfl, hH, q⟩ := h
  cases rx
  have hus := rv.zero
  subst hus
  obtain ⟨z, its, n, r, hl, e⟩ := I.lstM hH
  refine call_meets F.slot_list_clear ⟨_, e, rfl⟩ F.entry_list_clear (F.args_list_clear_1 _) (AutoSeq1.list_clear_list_0 l its.toArray n (by rw [List.size_toArray]; omega)) ⟨e, ?_⟩
  exact ⟨.non, _, I.lset (its' := []) (ys := []) hH e rfl .nil (Nat.zero_le _), rfl, q⟩
def rCat : R2 := fun x y H Q => ∃ l b xs zs, x = .ref l ∧ y = .ref b ∧ H l = some (.lst xs) ∧ H b = some (.lst zs) ∧ xs.length + zs.length ≤ sizeLine ∧ ∀ p, H p = none → Q (.ref p) (upd H p (.lst (xs ++ zs)))
theorem op_cat : OpR X (binaryOp .Add) rCat := by
  intro pins s σ H x y v u Q I rx ry h
  obtain ⟨l, b, xs, zs, rfl, rfl, hH, hB, hz, q⟩ := h
  cases rx
  cases ry
  obtain ⟨z, its, n, r, hl, e⟩ := I.lstM hH
  obtain ⟨z2, its2, n2, r2, hl2, e2⟩ := I.lstM hB
  refine PySem.P.add_list e e2 ?_ (by rw [List.size_toArray, List.size_toArray]; omega)
  have ea : its.toArray ++ its2.toArray = (its ++ its2).toArray := by simp
  rw [ea]
  exact ⟨.ref _, _, I.lnew (t' := s.toks) (r.append r2) (by rw [List.length_append]; omega), rfl, q _ I.fresh⟩
end
section
variable {prog : Program} {w : World} {A : Around} {E : Value → Shared → Prop} {s : Shared}
set_option maxRecDepth 100000 in
end
section
variable {X : Cx}
end
end L2
namespace L2
open PySem PySem.Spec PyProof.Rows
section
variable {κ : Type} [DecidableEq κ]
def valV (kvs : List (κ × V)) (k : κ) : Option V := (kvs.find? fun kv => decide (kv.1 = k)).map (·.2)
def putK (kvs : List (κ × V)) (k : κ) (v : V) : List (κ × V) :=
  if (kvs.any fun kv => decide (kv.1 = k)) = true then kvs.map (fun kv => if kv.1 = k then (kv.1, v) else kv) else kvs ++ [(k, v)]
theorem valV_pos {p : κ × V} {r : List (κ × V)} {k : κ} (e : p.1 = k) : valV (p :: r) k = some p.2 := by simp [valV, List.find?_cons, e]
theorem valV_neg {p : κ × V} {r : List (κ × V)} {k : κ} (e : ¬ p.1 = k) : valV (p :: r) k = valV r k := by simp [valV, List.find?_cons, e]
theorem length_putK (kvs : List (κ × V)) (k : κ) (v : V) : (putK kvs k v).length ≤ kvs.length + 1 := by
  unfold putK
  split
  · rw [List.length_map]; omega
  · rw [List.length_append, List.length_cons, List.length_nil]; omega
theorem RelO.isSome_eq {o : Option V} {u : Option Value} (r : RelO o u) : o.isSome = u.isSome := by
  cases o with
  | none => cases u with
    | none => rfl
    | some _ => exact (show False from r).elim
  | some _ => cases u with
    | none => exact (show False from r).elim
    | some _ => rfl
theorem KV.val {kvs : List (κ × V)} {vs : List (κ × Value)} (r : KV kvs vs) (k : κ) : RelO (valV kvs k) (valueAt vs k) := by
  unfold KV at r
  induction r with
  | nil => exact True.intro
  | @cons p q ps qs h t ih =>
    obtain ⟨h1, h2⟩ := h
    by_cases e : p.1 = k
    · have e' : q.1 = k := h1.symm.trans e
      have b : valueAt (q :: qs) k = some q.2 := by simp [valueAt, List.find?_cons, e']
      rw [valV_pos e, b]; exact h2
    · have e' : ¬ q.1 = k := fun z => e (h1.trans z)
      have b : valueAt (q :: qs) k = valueAt qs k := by simp [valueAt, List.find?_cons, e']
      rw [valV_neg e, b]; exact ih
theorem KV.any {kvs : List (κ × V)} {vs : List (κ × Value)} (r : KV kvs vs) (k : κ) : (kvs.any fun kv => decide (kv.1 = k)) = vs.any fun kv => decide (kv.1 = k) := by
  unfold KV at r
  induction r with
  | nil => rfl
  | cons h t ih => rw [List.any_cons, List.any_cons, ih, h.1]
theorem KV.repl {kvs : List (κ × V)} {vs : List (κ × Value)} (r : KV kvs vs) (k : κ) {y : V} {u : Value} (ry : RelV y u) :
    KV (kvs.map fun kv => if kv.1 = k then (kv.1, y) else kv) (vs.map fun kv => if kv.1 = k then (kv.1, u) else kv) := by
  unfold KV at r ⊢
  induction r with
  | nil => exact .nil
  | @cons p q ps qs h t ih =>
    rw [List.map_cons, List.map_cons]
    refine .cons ?_ ih
    obtain ⟨h1, h2⟩ := h
    by_cases e : p.1 = k
    · rw [if_pos e, if_pos (h1.symm.trans e)]; exact ⟨h1, ry⟩
    · rw [if_neg e, if_neg (fun z => e (h1.trans z))]; exact ⟨h1, h2⟩
theorem KV.put {kvs : List (κ × V)} {vs : List (κ × Value)} (r : KV kvs vs) (k : κ) {y : V} {u : Value} (ry : RelV y u) : KV (putK kvs k y) (stored vs k u) := by
  unfold putK stored
  rw [r.any k]
  by_cases e : (vs.any fun kv => decide (kv.1 = k)) = true
  · rw [if_pos e, if_pos e]; exact r.repl k ry
  · rw [if_neg e, if_neg e]; exact Paired.snoc r ⟨rfl, ry⟩
theorem KV.length {kvs : List (κ × V)} {vs : List (κ × Value)} (r : KV kvs vs) : kvs.length = vs.length := Paired.length r
end
theorem kV_is {P : Program} {w : World} {k : Key} {u : Value} (r : RelV (kV k) u) : (mixKind P w).is k u = true := by
  cases k with
  | inl i => obtain ⟨t, e⟩ := (show ∃ t, u = Value.int i t from r); subst e; exact mixKind_int P w i t
  | inr x => obtain ⟨t, e⟩ := (show ∃ t, u = Value.str x t from r); subst e; exact mixKind_str P w x t
theorem items_are {P : Program} {w : World} : ∀ {ks : List Key} {us : List Value}, Vals (ks.map kV) us → ItemsAre (mixKind P w) ks us
  | [], _, r => by rw [List.map_nil] at r; cases r; exact .nil
  | k :: ks, _, r => by
    rw [List.map_cons] at r
    cases r with
    | cons h t => exact .cons (kV_is h) (items_are t)
abbrev KT (H : Hp) : List (List Key × V) → List (List Key × Addr × Value) → Prop := Paired fun p q => p.1 = q.1 ∧ H q.2.1 = some (.tup (p.1.map kV)) ∧ RelV p.2 q.2.2
theorem KT.val {H : Hp} {kvs : List (List Key × V)} {xs : List (List Key × Addr × Value)} (r : KT H kvs xs) (k : List Key) : RelO (valV kvs k) ((atKey xs k).map (·.2)) := by
  induction r with
  | nil => exact True.intro
  | @cons p q ps qs h t ih =>
    obtain ⟨h1, _, h2⟩ := h
    by_cases e : p.1 = k
    · have e' : q.1 = k := h1.symm.trans e
      have b : atKey (q :: qs) k = some q.2 := by simp [atKey, List.find?_cons, e']
      rw [valV_pos e, b]; exact h2
    · have e' : ¬ q.1 = k := fun z => e (h1.trans z)
      have b : atKey (q :: qs) k = atKey qs k := by simp [atKey, List.find?_cons, e']
      rw [valV_neg e, b]; exact ih
section
variable {P : Program} {w : World} {H : Hp} {h : Heap} {a : Addr}
theorem rd_of {u : HO} (ok : HOk P w H h) (e : Rd H a u) : ObjOk P w H h a u := e.ok ok
theorem dk_rd {kvs : List (Key × V)} (ok : HOk P w H h) (e : Rd H a (.dK kvs)) : kvs.length ≤ sizeLine ∧ (a == sysModules) = false ∧ ∃ vs, KV kvs vs ∧ h.DictOf (mixKind P w) a vs :=
  show ObjOk P w H h a (.dK kvs) from rd_of ok e
theorem key_of {ks : List Key} (ok : HOk P w H h) (e : H a = some (.tup (ks.map kV))) : (tupleKind (mixKind P w)).is h ks a := by
  obtain ⟨_, its, r, o, h1, h2, n, h3⟩ := (show ObjOk P w H h a (.tup (ks.map kV)) from ok a _ e)
  exact ⟨o, its.toArray, n, h1, h2, h3, by simpa using items_are r⟩
theorem dt_rd {kvs : List (List Key × V)} (ok : HOk P w H h) (e : Rd H a (.dT kvs)) : kvs.length ≤ sizeLine ∧ (a == sysModules) = false ∧
    ∃ xs, KT H kvs xs ∧ h.DictOfH (tupleKind (mixKind P w)) a xs := by
  obtain ⟨z, y, xs, r, o, es, ep, h1, h2, h3, h4, h5⟩ := (show ObjOk P w H h a (.dT kvs) from rd_of ok e)
  refine ⟨z, y, xs, r, o, es, ep, h1, h2, h3, h4, fun x hx => ?_, h5⟩
  have all : ∀ {l : List (List Key × V)} {m : List (List Key × Addr × Value)}, KT H l m → ∀ x ∈ m, (tupleKind (mixKind P w)).is h x.1 x.2.1 := by
    intro l m q
    induction q with
    | nil => intro x hx; exact nomatch hx
    | @cons p q ps qs hq t ih =>
      intro x hx
      rcases List.mem_cons.mp hx with e | hx
      · subst e
        exact key_of ok (by rw [← hq.1]; exact hq.2.1)
      · exact ih x hx
  exact all r x hx
end
def DGet (H : Hp) (a : Addr) (y : V) (r : Option V) : Prop :=
  (∃ kvs k, Rd H a (.dK kvs) ∧ y = kV k ∧ r = valV kvs k) ∨ ∃ kvs k b, Rd H a (.dT kvs) ∧ y = .ref b ∧ H b = some (.tup (k.map kV)) ∧ r = valV kvs k
section
variable {X : Cx} {pins : List (Addr × Obj)} {σ : St} {H : Hp} {s : Shared} {a : Addr} {y v : V} {u r : Value} {o : Option V} {A : Around} {E : Value → Shared → Prop}
theorem Inv.big (I : Inv X pins σ H s) : sysModules < s.heap.objs.size := by
  have h : mainGlobals < s.heap.objs.size := (I.mod.glob.keeps I.bk).lt
  exact Nat.lt_trans (by decide) h
theorem d_getItem {Q : Value → Shared → Prop} (hu : A.units + 1 < cLine) (I : Inv X pins σ H s) (g : DGet H a y (some v)) (ry : RelV y u) (h : ∀ w' s', Inv X pins σ H s' → RelV v w' → Q w' s') :
    wpAny (model X.prog X.w) A (getItem (.ref a) u) Q E s := by
  rcases g with ⟨kvs, k, e, ey, l⟩ | ⟨kvs, k, b, e, ey, eb, l⟩
  · subst ey
    obtain ⟨z, hd, vs, rel, dd⟩ := dk_rd I.hok e
    obtain ⟨w', hw, rw'⟩ := RelO.some_of (v := v) (o := valueAt vs k) (by rw [l]; exact rel.val k)
    exact wpAny_getItem_of (kV_is ry) dd.mapOf hw (h w' _ (I.tok _) rw')
  · subst ey
    cases (show u = Value.ref b from ry)
    obtain ⟨z, hd, xs, rel, dd⟩ := dt_rd I.hok e
    obtain ⟨w', hw, rw'⟩ := RelO.some_of (v := v) (o := (atKey xs k).map (·.2)) (by rw [l]; exact rel.val k)
    obtain ⟨p, hp, hp2⟩ := Option.map_eq_some_iff.mp hw
    refine wpAny_getItem_heap (tupleKind_room_in1 hu) (key_of I.hok eb) dd hp ?_
    rw [hp2]
    exact h w' _ (I.tok _) rw'
theorem d_notIn {Q : Value → Shared → Prop} (hu : A.units + 1 < cLine) (I : Inv X pins σ H s) (g : DGet H a y o) (ry : RelV y u) (h : ∀ s', Inv X pins σ H s' → Q (.bool (!o.isSome)) s') :
    wpAny (model X.prog X.w) A (compareOp .NotIn u (.ref a)) Q E s := by
  rcases g with ⟨kvs, k, e, ey, l⟩ | ⟨kvs, k, b, e, ey, eb, l⟩
  · subst ey
    obtain ⟨z, hd, vs, rel, dd⟩ := dk_rd I.hok e
    refine wpAny_notIn_of (kV_is ry) hd dd.mapOf ?_
    rw [← (rel.val k).isSome_eq, ← l]
    exact h _ (I.tok _)
  · subst ey
    cases (show u = Value.ref b from ry)
    obtain ⟨z, hd, xs, rel, dd⟩ := dt_rd I.hok e
    refine wpAny_notIn_heap (tupleKind_room_in1 hu) (key_of I.hok eb) hd dd ?_
    have q := (rel.val k).isSome_eq
    rw [Option.isSome_map] at q
    rw [← q, ← l]
    exact h _ (I.tok _)
theorem dk_new {P : Program} {w : World} {H' : Hp} {h' : Heap} {kvs : List (Key × V)} {vs : List (Key × Value)} (z : kvs.length ≤ sizeLine) (hd : (a == sysModules) = false) (rel : KV kvs vs) (dd : h'.DictOf (mixKind P w) a vs) :
    ObjOk P w H' h' a (.dK kvs) := ⟨z, hd, vs, rel, dd⟩
end
section
variable {X : Cx} {pins : List (Addr × Obj)} {σ : St} {H : Hp} {s : Shared} {a : Addr} {kvs : List (Key × V)} {k : Key} {u : Value} {A : Around} {E : Value → Shared → Prop}
theorem d_len {Q : Value → Shared → Prop} (I : Inv X pins σ H s) (e : Rd H a (.dK kvs)) (h : ∀ t s', Inv X pins σ H s' → Q (.int kvs.length t) s') : wpAny (model X.prog X.w) A (call (.builtin "len") [.ref a]) Q E s := by
  obtain ⟨z, hd, vs, rel, dd⟩ := dk_rd I.hok e
  refine call_len_dict hd dd (by rw [← rel.length]; rw [sizeLine_eq] at z; omega) ?_
  rw [← rel.length]
  exact h _ _ (I.tok _)
end
def NoSl (i : Expr) : Prop := ∀ ov iv, subscripted i false ov iv = operate [ov, iv] (getItem ov iv)
theorem subD_of {prog : Program} {w : World} {A : Around} {E : Value → Shared → Prop} {s : Shared} {env : Env} {value slice : Expr} {pos : Pos} {T id : String} {Q : Value → Shared → Prop}
    (hl : typeLookup (.type T) "__getitem__" = pure (some (.builtin id))) (hs : NoSl slice)
    (h : wpAny (model prog w) A (eval value env) (fun o s₁ => wpAny (model prog w) A (eval slice env) (fun i s₂ => s₂.TypeIs o T ∧ wpAny (model prog w) A (getItem o i) Q E s₂) E s₁) E s) :
    wpAny (model prog w) A (eval (.Subscript value slice pos) env) Q E s := by
  refine Subscript_ (wpAny_mono h (fun o s₁ h₁ => wpAny_mono h₁ (fun i s₂ h₂ => ?_) fun _ _ x => x) fun _ _ x => x)
  obtain ⟨hT, h₂⟩ := h₂
  unfold subscriptTail
  refine wpAny_bind ?_
  rw [getitemInPython_of_ne hT.not_modules]
  refine wpAny_bind (wpAny_specialOf hT hl ?_)
  have fin : wpAny (model prog w) A (subscripted slice false o i) (fun r s₃ => wpAny (model prog w) A (letTemporaryGo value o r >>= fun _ => pure r) Q E s₃) E s₂ := by
    rw [hs o i]
    exact wpAny_operating (wpAny_mono h₂ (fun r s₃ h₃ => wpAny_bind (wpAny_letTemporaryGo (wpAny_pure h₃))) fun _ _ x => x)
  first
    | exact wpAny_pure (wpAny_bind fin)
    | exact wpAny_bind (wpAny_pure (wpAny_bind fin))
    | exact wpAny_bind fin
theorem dict_typeIs {X : Cx} {pins : List (Addr × Obj)} {σ : St} {H : Hp} {s : Shared} {a : Addr} {y : V} {o : Option V} (I : Inv X pins σ H s) (g : DGet H a y o) : s.TypeIs (.ref a) "dict" := by
  rcases g with ⟨kvs, k, e, _, _⟩ | ⟨kvs, k, b, e, _, _, _⟩
  · obtain ⟨_, _, vs, _, dd⟩ := dk_rd I.hok e
    exact dd.typeIs
  · obtain ⟨_, _, xs, _, dd⟩ := dt_rd I.hok e
    exact dd.typeIs
def tDGet (td ty : TE) : TE := fun σ H Q => td σ H fun x H1 => ty σ H1 fun y H2 => ∃ a v, x = .ref a ∧ DGet H2 a y (some v) ∧ Q v H2
def tDNotIn (ty td : TE) : TE := fun σ H Q => ty σ H fun y H1 => td σ H1 fun x H2 => ∃ a o, x = .ref a ∧ DGet H2 a y o ∧ Q (.bl (!o.isSome)) H2
section
variable {X : Cx} {o i e value : Expr} {pos pos' tpos : Pos} {td ty tv : TE}
theorem pe_dget (hu : X.A.units + 1 < cLine) (ho : PE X o td) (hi : PE X i ty) (hs : NoSl i) : PE X (.Subscript o i pos) (tDGet td ty) := by
  intro pins s σ H Q I h
  refine subD_of PySem.F.slot_dict_getitem.lookup hs (thn (ho pins s σ H _ I h) fun u s1 hm0 => ?_)
  obtain ⟨x, H1, I1, rx, q1⟩ := hm0
  refine thn (hi pins s1 σ H1 _ I1 q1) fun iv s2 hm1 => ?_
  obtain ⟨y, H2, I2, ry, a, v, ex, g, q2⟩ := hm1
  subst ex
  obtain rfl : u = Value.ref a := rx
  exact ⟨dict_typeIs I2 g, d_getItem hu I2 g ry fun w' s3 I3 rw' => ⟨v, H2, I3, rw', q2⟩⟩
theorem pc_dnotin (hu : X.A.units + 1 < cLine) (hi : PE X i ty) (ho : PE X o td) : PC X .NotIn i o (tDNotIn ty td) := by
  intro pins s σ H Q I h
  refine thn (hi pins s σ H _ I h) fun iv s1 hm0 => ?_
  obtain ⟨y, H1, I1, ry, q1⟩ := hm0
  refine thn (ho pins s1 σ H1 _ I1 q1) fun u s2 hm1 => ?_
  obtain ⟨x, H2, I2, rx, a, ov, ex, g, q2⟩ := hm1
  subst ex
  obtain rfl : u = Value.ref a := rx
  exact d_notIn hu I2 g ry fun s3 I3 => ⟨.bl (!ov.isSome), H2, I3, rfl, q2⟩
end
section
variable {X : Cx} {pos : Pos}
end
section
variable {X : Cx} {pins : List (Addr × Obj)} {σ : St} {H : Hp} {s : Shared} {a : Addr} {y d : V} {u r : Value} {o : Option V} {A : Around} {E : Value → Shared → Prop}
end
section
variable {X : Cx} {o e f : Expr} {apos cpos : Pos} {td ty tx : TE}
end
section
variable {X : Cx} {pins : List (Addr × Obj)} {σ : St} {H : Hp} {s : Shared} {a : Addr} {kvs : List (Key × V)} {A : Around} {E : Value → Shared → Prop}
end
section
variable {X : Cx} {pins : List (Addr × Obj)} {σ : St} {H : Hp} {s : Shared} {a : Addr} {y : V} {u : Value} {A : Around} {E : Value → Shared → Prop}
end
end L2
namespace Att
open PySem PySem.W PySem.Calls PyProof.Rows
theorem ints_of_wellAll {P : Params} {h : Heap} : ∀ (ns : List Int) (vs : List Value), WellAll P h vs (ns.map WData.int) → IntsAre vs ns := by
  intro ns
  induction ns with
  | nil =>
    intro vs w
    rw [List.map_nil] at w
    cases w
    exact .nil
  | cons n ns ih =>
    intro vs w
    rw [List.map_cons] at w
    cases w with
    | cons a b =>
      cases a
      exact .cons _ _ (ih _ b)
theorem script_of {l : OpenLaw} {n : Nat} (hn : l.most = some n) {P : Params} {h : Heap} {args : List WData} {vals : List Value}
    (hpre : l.row.toRowW.claim.pre args = true) (hwl : WellAll P h vals args) :
    ∃ a vs ns, vals = [Value.ref a] ∧ args = [WData.list (ns.map WData.int)] ∧ h.get? a = some { cls := .type "list", data := .seq vs.toArray } ∧ IntsAre vs ns ∧ ns.length ≤ n := by
  have hsh : WShape.hasAll [] args [.list .int] = true := (pre_splitW hpre).1
  have hc : l.pre.holds [] { args := args } = true := (pre_splitW hpre).2
  obtain ⟨d, r, rfl, h1, h2⟩ := hasAllW_cons hsh
  obtain rfl := hasAllW_nil h2
  obtain ⟨xs, rfl, h3⟩ := hasW_list h1
  obtain ⟨ns, rfl⟩ := items_int h3
  have hlen : ns.length ≤ n := by
    unfold OpenLaw.pre at hc
    have h4 : (WTm.not (.lt (.lit (.int (n : Int))) (.len (.arg 0)))).holds [] { args := [.list (ns.map .int)] } = true := by
      have h4 := (holds_andW hc).1
      rw [hn] at h4
      exact h4
    have h5 := condW_of h4 (w_not (w_lt w_lit (w_len_list (w_arg rfl))))
    rw [List.length_map] at h5
    refine Nat.le_of_not_lt fun q => ?_
    have q' : (n : Int) < ((ns.length : Nat) : Int) := by omega
    first
      | (rw [decide_eq_true q'] at h5; exact absurd h5 (by decide))
      | (simp at h5; omega)
  cases hwl with
  | cons w1 w2 =>
    cases w2
    cases w1 with
    | list ho hall => exact ⟨_, _, ns, rfl, rfl, ho, ints_of_wellAll ns _ hall, hlen⟩
theorem post_true (l : OpenLaw) (args : List WData) : l.row.toRowW.claim.post args (.bool true) args = true :=
  postW_of (r := l.row.toRowW) (X := (true == true))
    (show WShape.has [] (.bool true) .bool = true by first | rfl | decide | simp [WShape.has, WShape.arms, WShape.armsAll])
    (show (WTm.eq .res (.lit (.bool true))).value [] { args := args, res := some (.bool true), after := args } = some (.bool (true == true)) from w_eq_bool (w_res rfl) w_lit) rfl
theorem attach_call {l : OpenLaw} {n : Nat} {q : Program} {loose : List Str} {XP : (Str → Option Value) → Heap → Prop} {YP : World → Heap → Prop} {d : DefRec}
    (hn : l.most = some n) (hdf : d.params.defaults = [])
    (call : ∀ (w : World) (s₀ s₁ : Shared) (mg mb : Str → Option Value) (fa : Addr) (o : Obj) (pm cd doc : Value) (a : Addr) (vs : List Value) (ns : List Int),
      Ground q loose [] XP w s₀ mg mb s₁.heap → YP w s₁.heap →
      s₁.heap.get? fa = some o → o.data = .func (docDef d.name d.params d.body d.scope pm cd doc) → s₁.heap.CodeRec cd d.name → mg d.name = some (.ref fa) →
      s₁.heap.get? a = some { cls := .type "list", data := .seq vs.toArray } → IntsAre vs ns → ns.length ≤ n → s₁.gens = #[] →
      codeAny (model l.prog w) callerA (.call (.ref fa) ⟨[.ref a], []⟩) (fun r s' => r = .ok (.ret (.bool true)) ∧ OldK s₁.heap s'.heap ∧ s'.os = s₁.os ∧ AllBare s'.gens) s₁) :
    WalkO q loose XP YP l.row.toRowW d [] (fun f vs => PySem.call f vs) := by
  intro w s₀ s₁ mg mb G Y fa o pm cd doc dV kV ho hd hcd hD hmg hg args vals as hpre hlay hrd hwl hlo
  obtain rfl : dV = .none := Dflts.none hD hdf
  obtain rfl : kV = .none := Dflts.noKw hD
  obtain ⟨a, vs, ns, rfl, rfl, hobj, hints, hlen⟩ := script_of hn hpre hwl
  refine enter_call (codeAny_mono (call w s₀ s₁ mg mb fa o pm cd doc a vs ns G Y ho (fd_plain hd) hcd hmg hobj hints hlen hg) fun r s' hq => ?_)
  obtain ⟨rfl, h2, h3, h4⟩ := hq
  exact ⟨.inl ⟨.bool true, .bool true, [], rfl, fun _ => rfl, .bool true, post_true l _, fun _ => ⟨List.Pairwise.nil, fun _ hm => (nomatch hm)⟩⟩, h2, h3, h4⟩
section
variable {prog : Program} {w : World} {A : Around} {E : Value → Shared → Prop} {s : Shared} {K : Frag}
end
end Att
namespace L2
open PySem PySem.Spec PyProof.Rows
theorem vals_ints : ∀ {vs : List Value} {ns : List Int}, IntsAre vs ns → Vals (ns.map V.int) vs
  | _, _, .nil => .nil
  | _, _, .cons n t h => .cons ⟨t, rfl⟩ (vals_ints h)
def Only (H : Hp) : Prop := ∀ b, H b = none ∨ ∃ o xs, H b = some (.frz o (.lst xs))
theorem law_call {P : Program} {w : World} {K : PySem.W.Frag} {mg mb : Str → Option Value} {CX : CXT} {k : Nat} {fa a : Addr} {fd : FuncData} {x : Str} {sp : Sp} {s₁ : Shared} {vs : List Value} {ns : List Int}
    (KX : K.In s₁.heap) (hns : s₁.heap.Ns mainGlobals mg) (hb : s₁.heap.Ns builtinsNs mb) (hbb : ∀ x : Str, x ≠ "__name__" → mb x = bootBuiltins x) (hlim : s₁.heap.NoLimit) (hg : s₁.gens = #[])
    (ha : s₁.heap.get? a = some { cls := .type "list", data := .seq vs.toArray }) (hi : IntsAre vs ns) (hl : ns.length ≤ sizeLine) (hr : Room k callerA)
    (F : ∀ base : Heap, K.In base → base.Ns mainGlobals mg → FnOk P w K mg base CX k fa fd [x] sp) (hbind : ∀ (s : Shared) (u : Value), BindsTo s fd ⟨[u], []⟩ [(x, u)])
    (hsp : ∀ H : Hp, Only H → SqL K H a (ns.map V.int) → sp [.ref a] H (fun v _ => v = .bl true) fun _ _ _ => False)
    (hCX : ∀ H e s', CX [] H s₁ (fun _ _ _ => False) e s' → False) :
    codeAny (model P w) callerA (.call (.ref fa) ⟨[.ref a], []⟩) (fun r s' => r = .ok (.ret (.bool true)) ∧ OldK s₁.heap s'.heap ∧ s'.os = s₁.os ∧ AllBare s'.gens) s₁ := by
  have rv := vals_ints hi
  have lenV := hi.length
  have core : ∀ H : Hp, Only H → SqL K H a (ns.map V.int) → HOk P w H s₁.heap → (∀ b, H b ≠ none → b = a) → (H a ≠ none → K.lookup a = none) →
      codeAny (model P w) callerA (.call (.ref fa) ⟨[.ref a], []⟩) (fun r s' => r = .ok (.ret (.bool true)) ∧ OldK s₁.heap s'.heap ∧ s'.os = s₁.os ∧ AllBare s'.gens) s₁ := by
    intro H hO hS hok hA hK
    have base_of : ∀ {b : Addr} {o : Obj}, s₁.heap.get? b = some o → H b = none → (hidT s₁.heap H).get? b = some o := fun e n => hidT_get e n
    have noA : ∀ {b : Addr} {o : Obj} {es : Array DictEntry} {ep : Nat}, s₁.heap.get? b = some o → o.data = .dict es ep → H b = none := fun {b o es ep} e d => by
      cases q : H b with
      | none => rfl
      | some u =>
        have e' : b = a := hA b (by rw [q]; simp)
        subst e'
        rw [ha] at e; cases e
        have d' : Data.seq vs.toArray _ = Data.dict es ep := d
        cases d'
    have nsK : ∀ {b : Addr} {m : Str → Option Value}, s₁.heap.Ns b m → (hidT s₁.heap H).Ns b m := fun {b m} ⟨o, es, ep, e, d, r⟩ => ⟨o, es, ep, base_of e (noA e d), d, r⟩
    have hKb : K.In (hidT s₁.heap H) := fun b o e => base_of (KX b o e) (by
      cases q : H b with
      | none => rfl
      | some u =>
        have e' : b = a := hA b (by rw [q]; simp)
        subst e'
        rw [hK (by rw [q]; simp)] at e; cases e)
    have hM : Mod K mg (hidT s₁.heap H) := ⟨hKb, nsK hns, ⟨mb, nsK hb, hbb⟩, let ⟨mc, h1, h2⟩ := hlim; ⟨mc, nsK h1, h2⟩⟩
    have e0 : Env0 P w K mg (hidT s₁.heap H) callerA [] s₁ H := ⟨rfl, hM, fun b o e => of_hidT e, Nat.le_of_eq (hidT_size _ _), trivial, fun b hb => absurd (show b ∈ ([] : List Addr) from hb) (by simp), hok, .of_eq hg⟩
    refine codeAny_mono ((F _ hKb (nsK hns)).run callerA [] s₁ H ⟨[.ref a], []⟩ [.ref a] [.ref a] _ _ hr e0 (hbind s₁ (.ref a)) (.cons rfl .nil) (hsp H hO hS)) fun r s' h => ?_
    cases r with
    | error e => exact (hCX H e s' h).elim
    | ok fl =>
      cases fl with
      | next => exact False.elim h
      | brk => exact False.elim h
      | cont => exact False.elim h
      | ret u =>
        obtain ⟨v, H', os, bare, un, hok', r', q⟩ := h
        have q' : v = .bl true := q
        subst q'
        obtain rfl : u = Value.bool true := r'
        refine ⟨rfl, OldK.of_keep fun b o e => ?_, os, bare⟩
        cases q : H b with
        | none => exact un.keep b o e q (by intro z; exact absurd (show b ∈ ([] : List Addr) from z) (by simp)) (by simp)
        | some u =>
          rcases hO b with z | ⟨ob, xs, z⟩
          · rw [q] at z; cases z
          · have z2 := un.frzs b ob _ z
            obtain ⟨e1, _⟩ := hok b _ z
            obtain ⟨e2, _⟩ := hok' b _ z2
            rw [e] at e1; cases e1
            exact e2
  cases hk : K.lookup a with
  | some o =>
    have e := KX a o hk
    rw [ha] at e
    cases e
    refine core (fun _ => none) (fun _ => .inl rfl) (.inr ⟨_, vs.toArray, _, hk, rfl, rfl, rfl, by rw [List.size_toArray, lenV]; exact hl, by simpa using rv⟩) (fun b u z => by have z' : (none : Option HO) = some u := z; cases z') (fun b z => absurd rfl z) fun z => absurd rfl z
  | none =>
    refine core (fun b => if b = a then some (.frz { cls := .type "list", data := .seq vs.toArray } (.lst (ns.map V.int))) else none) (fun b => ?_) (.inl (.inr ⟨{ cls := .type "list", data := .seq vs.toArray }, if_pos rfl⟩)) (fun b u z => ?_) (fun b z => ?_) fun _ => hk
    · by_cases hb : b = a
      · exact .inr ⟨_, _, if_pos hb⟩
      · exact .inl (if_neg hb)
    · by_cases hb : b = a
      · have z' := (if_pos hb).symm.trans z
        cases z'
        subst hb
        exact ⟨ha, by rw [List.length_map]; exact hl, vs, _, rv, ha⟩
      · have z' := (if_neg hb).symm.trans z
        cases z'
    · by_cases hb : b = a
      · exact hb
      · exact absurd (if_neg hb) z
end L2
namespace L2
open PySem PySem.Spec PyProof.Rows
theorem walk_of {l : PySem.W.OpenLaw} {n k : Nat} {q : Program} {loose : List Str} {XP : (Str → Option Value) → Heap → Prop} {YP : World → Heap → Prop} {d : DefRec} {K : Params → PySem.W.Frag} {CX : World → CXT} {sp : World → Sp} {x : Str}
    (hn : l.most = some n) (hn2 : n ≤ sizeLine) (hdf : d.params.defaults = []) (hr : Room k callerA)
    (hY : ∀ (w : World) (h : Heap), YP w h → (K w.params).In h)
    (F : ∀ (w : World) (mg : Str → Option Value) (fa : Addr) (h : Heap), (K w.params).In h → h.Ns mainGlobals mg → mg d.name = some (.ref fa) →
      ∃ fd : FuncData, (∀ (s : Shared) (u : Value), BindsTo s fd ⟨[u], []⟩ [(x, u)]) ∧
        ∀ base : Heap, (K w.params).In base → base.Ns mainGlobals mg → FnOk l.prog w (K w.params) mg base (CX w) k fa fd [x] (sp w))
    (hsp : ∀ (w : World) (H : Hp) (a : Addr) (ns : List Int), ns.length ≤ n → Only H → SqL (K w.params) H a (ns.map V.int) → sp w [.ref a] H (fun v _ => v = .bl true) fun _ _ _ => False)
    (hCX : ∀ (w : World) (H : Hp) (s : Shared) (e : Value) (s' : Shared), CX w [] H s (fun _ _ _ => False) e s' → False) :
    PySem.W.WalkO q loose XP YP l.row.toRowW d [] (fun f vs => PySem.call f vs) := by
  refine Att.attach_call hn hdf fun w s₀ s₁ mg mb fa o pm cd doc a vs ns G Y ho hd hcd hmg hobj hints hlen hg => ?_
  have KX := hY w _ Y
  obtain ⟨fd, hb, hF⟩ := F w mg fa _ KX G.T.g hmg
  exact law_call KX G.T.g G.T.b G.T.builtins G.T.nolimit hg hobj hints (Nat.le_trans hlen hn2) hr hF hb (fun H hO hS => hsp w H a ns hlen hO hS) fun H e s' => hCX w H s₁ e s'
end L2
/- THE LAST THEOREM (shape; LID, My.* are yours):
   My.Adr: a structure of the addresses that your layer names (classes, functions); My.Txt K t: a structure (Prop) of the equations over K;
   My.txt_mk : {K} {implicit addresses ..} (e1 : nsIn K mainGlobals "law" = some (some (.ref f))) (e2 : K.lookup f = some ⟨oc, od, .func (fnOf "law" "law" params body scope dV kV doc pm an cdv ct), sl⟩) (e3 : codeIn K cdv "law" = true) .. : ∃ t, My.Txt K t
set_option maxRecDepth 100000 in
set_option maxHeartbeats 0 in
theorem PySem.Challenge.cw_LID_holds : PySem.Challenge.rw_LID.Holds := by
  w_on; o_law; k_head; (case hw => w_witness2)
  k_fill
  refine L2.walk_of (l := PySem.Challenge.rw_LID) (n := 63) (k := 40) (x := "script") (CX := fun w => ..) (sp := fun _ => My.sp_law) rfl (by decide) rfl ⟨rfl, by decide, by decide⟩ (fun w h Y => PySem.W.kIn_of Y) ?F ?S ?C
  case F =>
    intro w mg fa h KX G hmg
    have T : ∃ t, My.Txt (L2.KOf KX) t := by
      dsimp only [L2.KOf]                          -- K must stand as «<heap const> w.params» for k_is
      refine' My.txt_mk ?e1 ?e2 ?e3 ..
      (case e1 => PySem.W.k_is)                    -- in the order: a name -> its address -> its object -> its parts
      (case e2 => PySem.W.k_is)
      ..
    obtain ⟨t, T⟩ := T
    have e0 := hmg.symm.trans (PySem.W.mg_of KX G T.law)
    cases e0                                       -- fa is the law's own address
    exact ⟨_, fun s u => .of_eq rfl, fun base kb nb => My.law_fn T kb nb⟩     -- if «.of_eq rfl» comes too early: refine' ⟨_, ?b, fun base kb nb => My.law_fn T kb nb⟩; exact fun s u => .of_eq rfl
  case S => exact fun w H a ns hl hO hS => ..
  case C => exact ..
(the tactic k_is has no namespace: write k_is) -/
namespace L2
open PySem PySem.Spec PyProof.Rows
def defArgs (s : Stmt) : Arguments := match s with
  | .FunctionDef _ a _ _ _ _ _ _ _ _ => a
  | _ => { posonlyargs := [], args := [], vararg := none, kwonlyargs := [], kw_defaults := [], kwarg := none, defaults := [] }
def defBody (s : Stmt) : List Stmt := match s with
  | .FunctionDef _ _ b _ _ _ _ _ _ _ => b
  | _ => []
def defScope (s : Stmt) : Scope := match s with
  | .FunctionDef _ _ _ _ _ _ sc _ _ _ => sc
  | _ => { kind := .function, names := [], isGenerator := false, isCoroutine := false }
abbrev CX0 : CXT := fun _ _ _ _ _ _ => False
abbrev E0 : XK := fun _ _ _ => False
theorem pass0 {X : Cx} : Passes CX0 X E0 := fun _ _ _ _ _ _ _ h => h.elim
structure Fun (K : PySem.W.Frag) (x qual : Str) (st : Stmt) (f : Addr) (fd : FuncData) : Prop where
  ex : ∃ (oc : Value) (od : Option Addr) (kV doc pm : Value) (an : Option Addr) (cdv ct : Value) (osl : Array (Option Value)),
    fd = PySem.W.fnOf x qual (defArgs st) (defBody st) (defScope st) .none kV doc pm an cdv ct ∧ K.lookup f = some ⟨oc, od, .func fd, osl⟩ ∧ PySem.W.codeIn K cdv qual = true
  kp : PySem.W.keepIn K (.ref f) = true
section
variable {P : Program} {w : World} {K : PySem.W.Frag} {mg : Str → Option Value} {base : Heap}
theorem Fun.ok {x qual : Str} {st : Stmt} {f : Addr} {fd : FuncData} {N ps : List Str} {k : Nat} {sp : Sp} (F : Fun K x qual st f fd) (S : FnScope N ps (defScope st)) (len : ∀ vs H Q E, sp vs H Q E → vs.length = ps.length)
    (hbody : ∀ (cdv : Value) (A : Around) (outer : List Env) (s : Shared) (H : Hp) (vs : List V) (Q : VK) (E : XK), Room k (A.deeper (envOfC qual (defScope st) s.heap.objs.size f cdv)) → sp vs H Q E →
      ∃ t, PSs (cxOf CX0 P w K mg base N qual (defScope st) f cdv A outer s H E).nox (defBody st) t ∧ t { nx := fun _ H' => Q .non H', rt := Q } (start N vs) H) : FnOk P w K mg base CX0 (k + 1) f fd ps sp := by
  obtain ⟨oc, od, kV, doc, pm, an, cdv, ct, osl, rfl, lk, hcd⟩ := F.ex
  refine fn_of lk hcd S len fun A outer s H vs Q E hr hsp => ?_
  obtain ⟨t, h, q⟩ := hbody cdv A outer s H vs Q E hr hsp
  exact ⟨t, h.nox, q⟩
theorem Fun.binds {x qual : Str} {st : Stmt} {f : Addr} {fd : FuncData} {ps : List Str} (F : Fun K x qual st f fd)
    (h : ∀ (kV doc pm : Value) (an : Option Addr) (cdv ct : Value) (us : List Value), us.length = ps.length → bindArgs (PySem.W.fnOf x qual (defArgs st) (defBody st) (defScope st) .none kV doc pm an cdv ct) ⟨us, []⟩ = pure (ps.zip us)) : Binds K fd ps [] := by
  obtain ⟨oc, od, kV, doc, pm, an, cdv, ct, osl, rfl, lk, hcd⟩ := F.ex
  exact .all (h kV doc pm an cdv ct)
theorem fun_mk {x qual : Str} {st : Stmt} {f : Addr} {oc : Value} {od an : Option Addr} {osl : Array (Option Value)} {kV doc pm cdv ct : Value} (l : K.lookup f = some ⟨oc, od, .func (PySem.W.fnOf x qual (defArgs st) (defBody st) (defScope st) .none kV doc pm an cdv ct), osl⟩)
    (c : PySem.W.codeIn K cdv qual = true) (k : PySem.W.keepIn K (.ref f) = true) : Fun K x qual st f (PySem.W.fnOf x qual (defArgs st) (defBody st) (defScope st) .none kV doc pm an cdv ct) := ⟨⟨oc, od, kV, doc, pm, an, cdv, ct, osl, rfl, l, c⟩, k⟩
end
section
variable {X : Cx}
theorem pv (i : Nat) {x : Str} {pos : Pos} (hN : X.N[i]? = some x := by rfl) (hv : Vis X.env.scope x := by first | exact Or.inl rfl | exact Or.inr (Or.inl rfl) | exact Or.inr (Or.inr rfl)) (hd : (x == ("__debug__" : Str)) = false := by decide)
    (hcd : (x == ("__classdict__" : Str)) = false := by decide) : PE X (.Name x pos) (tVar i) := pe_var hN hv hd hcd
theorem call_lenD : CallR X (.builtin "len") (fun xs H Q => ∃ a kvs, xs = [V.ref a] ∧ H a = some (.dK kvs) ∧ Q (.int kvs.length) H) := by
  intro pins s σ H xs us Q I r h
  obtain ⟨a, kvs, rfl, ha, q⟩ := h
  obtain ⟨u, rfl, ru⟩ := vals1 r
  cases ru
  exact d_len I (.inl ha) fun t s' I' => ⟨.int kvs.length, H, I', ⟨t, rfl⟩, q⟩
end
theorem iteF {A B : Prop} (h : B) : if false = true then A else B := by
  rw [if_neg Bool.false_ne_true]
  exact h
theorem iteT {A B : Prop} (h : A) : if true = true then A else B := by
  rw [if_pos rfl]
  exact h
theorem ite2 {c A B : Prop} [Decidable c] (h1 : c → A) (h2 : ¬ c → B) : if c then A else B := by
  by_cases h : c
  · rw [if_pos h]
    exact h1 h
  · rw [if_neg h]
    exact h2 h
def Same (H H' : Hp) : Prop := ∀ b o, H b = some o → H' b = some o
theorem Same.refl (H : Hp) : Same H H := fun _ _ h => h
theorem Same.trans {H H1 H2 : Hp} (a : Same H H1) (b : Same H1 H2) : Same H H2 := fun c o h => b c o (a c o h)
theorem Same.free {H H' : Hp} (e : Same H H') {l : Addr} (h : H' l = Option.none) : H l = Option.none := by
  cases q : H l with
  | none => rfl
  | some o =>
    rw [e l o q] at h
    cases h
theorem Same.seq {K : PySem.W.Frag} {H H' : Hp} {a : Addr} {xs : List V} (e : Same H H') (h : SqL K H a xs) : SqL K H' a xs := by
  rcases h with (h | ⟨o, h⟩) | h
  · exact .inl (.inl (e _ _ h))
  · exact .inl (.inr ⟨o, e _ _ h⟩)
  · exact .inr h
section
variable {κ : Type} [DecidableEq κ]
end
end L2
set_option Elab.async false
set_option linter.all false
set_option maxRecDepth 100000
set_option maxHeartbeats 4000000
namespace L2
open PySem PySem.Spec PyProof.Rows
theorem clos_aux {env : Env} : ∀ (names : List (Str × NameKind)) (cs : List (Str × Addr)), (∀ x ∈ names, x.2 = .free → ∃ c, env.cells.lookup x.1 = some c) → (∀ x c, cs.lookup x = some c → env.cells.lookup x = some c) →
    ∃ cl : List (Str × Addr), (forIn names cs fun x r => if (x.snd == NameKind.free) = true then (do let a ← cellOf env x.fst; pure (ForInStep.yield ((x.fst, a) :: r)) : Sem (ForInStep (List (Str × Addr)))) else pure (ForInStep.yield r)) = pure cl ∧
      (∀ x c, cl.lookup x = some c → env.cells.lookup x = some c) ∧ ∀ x, ((x, NameKind.free) ∈ names ∨ ∃ c, cs.lookup x = some c) → ∃ c, cl.lookup x = some c
  | [], cs, _, h2 => ⟨cs, rfl, h2, fun x hx => hx.elim (fun z => nomatch z) id⟩
  | (n, k) :: r, cs, h1, h2 => by
    rw [List.forIn_cons]
    by_cases hk : k = .free
    · subst hk
      obtain ⟨c, hc⟩ := h1 (n, .free) List.mem_cons_self rfl
      obtain ⟨cl, e, q1, q2⟩ := clos_aux r ((n, c) :: cs) (fun x hx => h1 x (List.mem_cons_of_mem _ hx)) (fun x d hd => by
        rw [List.lookup_cons] at hd
        split at hd
        · rename_i hx
          cases hd
          have : x = n := by simpa using hx
          subst this; exact hc
        · exact h2 x d hd)
      refine ⟨cl, ?_, q1, fun x hx => q2 x ?_⟩
      · simp only [beq_self_eq_true, if_true]
        rw [show cellOf env n = pure c by unfold cellOf; rw [hc]]
        simp only [pure_bind]
        exact e
      · rcases hx with hx | ⟨d, hd⟩
        · rcases List.mem_cons.mp hx with z | z
          · cases z
            exact .inr ⟨c, by rw [List.lookup_cons]; simp⟩
          · exact .inl z
        · refine .inr ?_
          rw [List.lookup_cons]
          split
          · exact ⟨_, rfl⟩
          · exact ⟨d, hd⟩
    · obtain ⟨cl, e, q1, q2⟩ := clos_aux r cs (fun x hx => h1 x (List.mem_cons_of_mem _ hx)) h2
      have hb : (k == NameKind.free) = false := by simpa using hk
      refine ⟨cl, ?_, q1, fun x hx => q2 x ?_⟩
      · simp only [hb, Bool.false_eq_true, if_false, pure_bind]
        exact e
      · rcases hx with hx | hx
        · rcases List.mem_cons.mp hx with z | z
          · cases z; exact absurd rfl hk
          · exact .inl z
        · exact .inr hx
theorem clos_of {env : Env} {scope : Scope} (h : ∀ x ∈ scope.names, x.2 = .free → ∃ c, env.cells.lookup x.1 = some c) :
    ∃ cl : List (Str × Addr), closureFor scope env = pure cl ∧ (∀ x c, cl.lookup x = some c → env.cells.lookup x = some c) ∧ ∀ x, (x, NameKind.free) ∈ scope.names → ∃ c, cl.lookup x = some c := by
  obtain ⟨cl, e, q1, q2⟩ := clos_aux scope.names [] h (fun x c z => by simp at z)
  refine ⟨cl, ?_, q1, fun x hx => q2 x (.inl hx)⟩
  simp only [closureFor]
  rw [e]
  rfl
theorem comp_loop {prog : Program} {w : World} {A : Around} {R : Result → Shared → Prop} {s : Shared} {elt target iter : Expr} {ifs : List Expr} {scope : Scope} {pos : Pos} {it acc : Value} {env : Env} (I : Nat → Shared → Prop)
    (turn : ∀ n s, I n s → wpAny (model prog w) A (pyNext it) (fun r s₁ => match r with
      | none => R (.ok .next) s₁
      | some v => wpAny (model prog w) A (letOwnedTupleGo target it v) (fun _ s₁' => wpAny (model prog w) A (assign target env v) (fun _ s₂ =>
          wpAny (model prog w) A (forIn ifs true fun c r => if r = true then do let ok ← isTrue c env (eval c env); pure (ForInStep.yield ok) else pure (ForInStep.yield r)) (fun ok s₃ =>
            if ok = true then wpAny (model prog w) A (eval elt env) (fun x s₄ =>
              wpAny (model prog w) A (call (.builtin "list.append") [acc, x]) (fun _ s₅ => ∃ m, m < n ∧ I m s₅) (fun _ _ => False) s₄) (fun _ _ => False) s₃
            else ∃ m, m < n ∧ I m s₃) (fun _ _ => False) s₂) (fun _ _ => False) s₁') (fun _ _ => False) s₁) (fun _ _ => False) s)
    (n : Nat) (h : I n s) :
    codeAny (model prog w) A (.compLoop (.ListComp elt [⟨target, iter, ifs, 0⟩] scope pos) 0 it acc env) R s := by
  refine codeAny_loop rfl I (fun n s hI => ?_) n h
  show wpAny _ A ((compTurn (.ListComp elt [⟨target, iter, ifs, 0⟩] scope pos) 0 it acc env).onRaise (fun x => do noteFrame x env; theTreesLotGoes x)) _ _ s
  refine wpAny_noted ?_
  rw [compTurn_list]
  refine wpAny_bind (wpAny_standAt (wpAny_bind (wpAny_mono (turn n s hI) (fun r s₁ h₁ => ?_) fun _ _ h' => h'.elim)))
  cases r with
  | none => exact wpAny_pure h₁
  | some v =>
    refine wpAny_bind (wpAny_mono h₁ (fun _ s₁' h₁' => ?_) fun _ _ h' => h'.elim)
    refine wpAny_bind (wpAny_mono h₁' (fun _ s₂ h₂ => wpAny_bind (wpAny_mono h₂ (fun ok s₃ h₃ => ?_) fun _ _ h' => h'.elim)) fun _ _ h' => h'.elim)
    cases ok with
    | false => exact wpAny_pure ⟨rfl, h₃⟩
    | true =>
      exact wpAny_bind (wpAny_bind (wpAny_mono h₃ (fun x s₄ h₄ => wpAny_bind (wpAny_mono h₄ (fun _ s₅ h₅ => wpAny_pure (wpAny_pure ⟨rfl, h₅⟩)) fun _ _ h' => h'.elim)) fun _ _ h' => h'.elim))
end L2
set_option maxRecDepth 100000
namespace L2
open PySem PySem.Spec PyProof.Rows
abbrev compCx (X : Cx) (scope : Scope) (N : List Str) (cl : List (Str × Addr)) (C : Addr) (s : Shared) (H : Hp) (ex : List Addr) (pn : List (Addr × Obj)) : Cx where
  prog := X.prog
  w := X.w
  K := X.K
  mg := X.mg
  base := X.base
  A := X.A
  N := N
  s₀ := s
  H₀ := H
  env := compEnvC scope cl C X.env
  outer := X.stack
  stack := X.stack
  ex := ex
  calm := X.calm
  fn := fun _ => false
  pn := pn
  xe := fun _ _ => False
def PTs (X : Cx) (ifs : List Expr) (t : TT) : Prop :=
  ∀ (pins : List (Addr × Obj)) (s : Shared) (σ : St) (H : Hp) (Q : Bool → Hp → Prop), Inv X pins σ H s → t σ H Q →
    wpAny (model X.prog X.w) X.A (forIn ifs true fun c r => if r = true then do let ok ← isTrue c X.env (eval c X.env); pure (ForInStep.yield ok) else pure (ForInStep.yield r)) (TP X pins σ Q) X.xe s
def tYes : TT := fun _ H Q => Q true H
theorem pts_nil {X : Cx} : PTs X [] tYes := fun _ _ _ H _ I h => wpAny_tests_nil ⟨H, I, h⟩
theorem pts_one {X : Cx} {c : Expr} {t : TT} (h : PT X c t) : PTs X [c] t := fun pins s σ H Q I hq => wpAny_tests_one (h pins s σ H Q I hq)
abbrev TTg := V → Hp → (List V → Prop) → Prop
def PTg (X : Cx) (k : Nat) (tg : Expr) (tt : TTg) : Prop :=
  ∀ (pins : List (Addr × Obj)) (s : Shared) (σ : St) (H : Hp) (v : V) (u : Value) (Q : List V → Prop), Inv X pins σ H s → k ≤ σ.length → RelV v u → tt v H Q →
    wpAny (model X.prog X.w) X.A (assign tg X.env u) (fun _ s' => ∃ ws, ws.length = k ∧ Q ws ∧ Inv X pins (ws.map some ++ σ.drop k) H s') X.xe s
def ttName : TTg := fun v _ Q => Q [v]
theorem ptg_name {X : Cx} {x : Str} {pos : Pos} (hN : X.N.Nodup) (hi : X.N[0]? = some x) (hx : X.env.scope.names.lookup x = some .local) : PTg X 1 (.Name x pos) ttName := by
  intro pins s σ H v u Q I hl r h
  refine wpAny_assign_Name (store_ok I hN hi (.inl hx) r (fun s' I' => ⟨[v], rfl, h, ?_⟩) (.inr hx))
  cases σ with
  | nil => simp at hl
  | cons a t => exact I'
end L2
set_option maxRecDepth 100000
set_option maxHeartbeats 400000
namespace L2
open PySem PySem.Spec PyProof.Rows
def ttTup (K : PySem.W.Frag) (n : Nat) : TTg := fun v H Q => ∃ a xs, v = .ref a ∧ SqT K H a xs ∧ xs.length = n ∧ Q xs
theorem set_two {α : Type} (a b : α) : ∀ (σ : List α), 2 ≤ σ.length → (σ.set 0 a).set 1 b = [a, b] ++ σ.drop 2
  | _ :: _ :: _, _ => rfl
theorem len_two {α : Type} : ∀ (xs : List α), xs.length = 2 → ∃ a b, xs = [a, b]
  | [a, b], _ => ⟨a, b, rfl⟩
theorem ptg_tup2 {X : Cx} {x y : Str} {p1 p2 pos : Pos} {k : Nat} (hc : X.calm = true) (hN : X.N.Nodup) (h0 : X.N[0]? = some x) (h1 : X.N[1]? = some y) (hx : X.env.scope.names.lookup x = some .local) (hy : X.env.scope.names.lookup y = some .local) :
    PTg X 2 (.Tuple [.Name x p1, .Name y p2] k pos) (ttTup X.K 2) := by
  have g : PG X (.Tuple [.Name x p1, .Name y p2] k pos) (gTup X.K 2 (gCons (gName 0) (gCons (gName 1) gNil))) := by
    have a1 : PG X (.Name x p1) (gName 0) := pg_name hN h0 (.inl hx) (.inr hx)
    have a2 : PG X (.Name y p2) (gName 1) := pg_name hN h1 (.inl hy) (.inr hy)
    have a3 : PGs X [.Name x p1, .Name y p2] (gCons (gName 0) (gCons (gName 1) gNil)) := pgs_cons a1 (pgs_cons a2 pgs_nil)
    exact pg_tup hc a3
  intro pins s σ H v u Q I hl r h
  obtain ⟨a, xs, rfl, hq, hlen, q⟩ := h
  obtain ⟨x0, x1, e⟩ := len_two xs hlen
  subst e
  have w : gTup X.K 2 (gCons (gName 0) (gCons (gName 1) gNil)) (.ref a) σ H (fun σ' H' => σ' = (σ.set 0 (some x0)).set 1 (some x1) ∧ H' = H) := ⟨a, [x0, x1], rfl, hq, rfl, x0, [x1], rfl, x1, [], rfl, rfl, rfl, rfl⟩
  refine thn (g pins s σ H _ _ _ I r w) ?_
  intro _ s' z
  obtain ⟨σ', H', I', e1, e2⟩ := z
  subst e2
  rw [set_two _ _ _ hl] at e1
  subst e1
  exact ⟨[x0, x1], rfl, q, I'⟩
end L2
set_option Elab.async false
set_option linter.all false
set_option maxRecDepth 100000
set_option maxHeartbeats 1000000
namespace L2
open PySem PySem.Spec PyProof.Rows
theorem HOk.adopt {P : Program} {w : World} {H : Hp} {h : Heap} {a : Addr} {o : HO} (x : HOk P w H h) (hn : H a = none) (new : ObjOk P w (upd H a o) h a o) : HOk P w (upd H a o) h := fun b u e => by
  by_cases hb : b = a
  · subst hb; rw [upd_same] at e; cases e; exact new
  · rw [upd_ne hb] at e
    exact (x b u e).stay (fun c v _ q => q) (fun c q => by rw [upd_ne (ne_of_none q hn)]; exact q) fun c xs q => by rw [upd_ne (ne_of_none q hn)]; exact q
theorem relabel_free {env : Env} {x : Str} : ∀ {names : List (Str × NameKind)}, names.lookup x = some .free →
    (names.map fun (n, k) => if (k == NameKind.free && env.scope.kind == .function && env.kindOf n == some .cell) then (n, NameKind.cell) else (n, k)).lookup x = some .cell ∨
    (names.map fun (n, k) => if (k == NameKind.free && env.scope.kind == .function && env.kindOf n == some .cell) then (n, NameKind.cell) else (n, k)).lookup x = some .free
  | [], h => by simp at h
  | (n, k) :: r, h => by
    have ih := @relabel_free env x r
    show (List.lookup x ((if (k == NameKind.free && env.scope.kind == .function && env.kindOf n == some .cell) = true then (n, NameKind.cell) else (n, k)) :: _) = _) ∨ (List.lookup x ((if (k == NameKind.free && env.scope.kind == .function && env.kindOf n == some .cell) = true then (n, NameKind.cell) else (n, k)) :: _) = _)
    cases hx : x == n with
    | true =>
      simp only [List.lookup_cons, hx] at h
      cases h
      split
      · left; simp [List.lookup_cons, hx]
      · right; simp [List.lookup_cons, hx]
    | false =>
      simp only [List.lookup_cons, hx] at h
      split
      · simp only [List.lookup_cons, hx]; exact ih h
      · simp only [List.lookup_cons, hx]; exact ih h
theorem relabel_back {env : Env} {x : Str} : ∀ {names : List (Str × NameKind)}, (∀ y ∈ names, y.2 ≠ .cell) →
    ((names.map fun (n, k) => if (k == NameKind.free && env.scope.kind == .function && env.kindOf n == some .cell) then (n, NameKind.cell) else (n, k)).lookup x = some .cell ∨
    (names.map fun (n, k) => if (k == NameKind.free && env.scope.kind == .function && env.kindOf n == some .cell) then (n, NameKind.cell) else (n, k)).lookup x = some .free) → (x, NameKind.free) ∈ names
  | [], _, h => by simp at h
  | (n, k) :: r, hc, h => by
    have ih := @relabel_back env x r (fun y hy => hc y (List.mem_cons_of_mem _ hy))
    have hk : k ≠ .cell := hc (n, k) List.mem_cons_self
    have h' : (List.lookup x ((if (k == NameKind.free && env.scope.kind == .function && env.kindOf n == some .cell) = true then (n, NameKind.cell) else (n, k)) :: _) = _) ∨ (List.lookup x ((if (k == NameKind.free && env.scope.kind == .function && env.kindOf n == some .cell) = true then (n, NameKind.cell) else (n, k)) :: _) = _) := h
    cases hx : x == n with
    | true =>
      have e : x = n := by simpa using hx
      subst e
      by_cases hc2 : (k == NameKind.free && env.scope.kind == .function && env.kindOf x == some .cell) = true
      · have : k = .free := by
          have := (Bool.and_eq_true_iff.mp (Bool.and_eq_true_iff.mp hc2).1).1
          simpa using this
        subst this; exact List.mem_cons_self
      · rw [if_neg hc2] at h'
        simp only [List.lookup_cons, hx] at h'
        rcases h' with h' | h'
        · exact absurd (Option.some.inj h') hk
        · cases h'; exact List.mem_cons_self
    | false =>
      refine List.mem_cons_of_mem _ (ih ?_)
      split at h' <;> (simp only [List.lookup_cons, hx] at h'; exact h')
structure CompOk (scope psc : Scope) (N PN : List Str) (k : Nat) (cap : List Nat) : Prop where
  kind : scope.kind = .function
  len : N.length = k + cap.length
  cell : ∀ y ∈ scope.names, y.2 ≠ .cell
  loc : ∀ y ∈ scope.names, y.2 = .local → scope.names.lookup y.1 = some .local
  free : ∀ y ∈ scope.names, y.2 = .free → psc.names.lookup y.1 = some .cell ∨ psc.names.lookup y.1 = some .free
  cap : ∀ j ∈ List.range cap.length, ∃ x i, N[k + j]? = some x ∧ cap[j]? = some i ∧ PN[i]? = some x ∧ scope.names.lookup x = some .free
  free2 : ∀ y ∈ scope.names, y.2 = .free → scope.names.lookup y.1 = some .free
def capS (σ : St) (cap : List Nat) : St := cap.map fun j => (σ[j]?).join
def tComp (wi : TI) (tt : TTg) (tc : TT) (te : TE) (cap : List Nat) : TE := fun σ H Q => wi σ H fun J H1 =>
  ∃ W : Nat → Nat → List V → Hp → Prop, (∃ m, W 0 m [] H1) ∧ ∀ i m ys H2, W i m ys H2 →
    (J.stop i H2 ∧ ys.length ≤ sizeLine ∧ ∀ p, H2 p = none → Q (.ref p) (upd H2 p (.lst ys))) ∨
    (J.go i H2 ∧ ∃ N : List V → Hp → Prop, (∀ ys' H', N ys' H' → ys'.length ≤ sizeLine ∧ ∃ m', m' < m ∧ W (i + 1) m' ys' H') ∧
      ∀ x H3, J.yld i H2 x H3 → tt x H3 fun ws => tc (ws.map some ++ capS σ cap) H3 fun b H4 =>
        if b = true then te (ws.map some ++ capS σ cap) H4 fun y H5 => N (ys ++ [y]) H5 else N ys H4)
structure Blk (X : Cx) (pins : List (Addr × Obj)) (H : Hp) (s : Shared) (C : Addr) : Prop where
  ns : ∃ m, s.heap.Ns C m
  un : H C = none
  ne : C ≠ X.env.locals
  new : X.s₀.heap.objs.size ≤ C
  cells : ∀ x c, X.env.cells.lookup x = some c → c ≠ C
  pins : ∀ p ∈ X.pn ++ pins, p.1 ≠ C
theorem Blk.turn {X : Cx} {pins : List (Addr × Obj)} {H : Hp} {σ : St} {s : Shared} {C : Addr} {h' : Heap} (B : Blk X pins H s C) (I : Inv X pins σ H s) (hs : Heap.SameBut C s.heap h') : Inv X pins σ H { s with heap := h' } :=
  I.turned (t' := s.toks) (fun b o hb e => hs.extBut b o hb e) B.un B.ne (.inr B.new) B.cells B.pins
theorem comp_start {X : Cx} {pins : List (Addr × Obj)} {σ : St} {H : Hp} {s : Shared} {scope : Scope} {N : List Str} {k : Nat} {cap : List Nat} {cl : List (Str × Addr)} {h₁ : Heap} {fp : List Addr} {tk : Nat} (I : Inv X pins σ H s) (S : CompOk scope X.env.scope N X.N k cap)
    (hcl1 : ∀ x c, cl.lookup x = some c → X.env.cells.lookup x = some c) (hcl2 : ∀ x, (x, NameKind.free) ∈ scope.names → ∃ c, cl.lookup x = some c)
    (hf : ∀ b ∈ fp, FpOk X pins H b) (ho : ∀ b ∈ fp, ∃ o, s.heap.get? b = some o)
    {m : Str → Option Value} (hns : h₁.Ns (s.heap.objs.size + 1) m)
    (hsb : ∀ b o, (s.heap.push { cls := .type "list", data := .seq #[] }).get? b = some o → h₁.get? b = some o) :
    Inv (compCx X scope N cl (s.heap.objs.size + 1) { s with heap := s.heap.push { cls := .type "list", data := .seq #[] } } H (s.heap.objs.size :: fp) (X.pn ++ pins))
      [(s.heap.objs.size, { cls := .type "list", data := .seq #[] })] (List.replicate k none ++ capS σ cap) H { s with heap := h₁, toks := tk } := by
  have Ik : Inv X pins σ H { s with heap := s.heap.push { cls := .type "list", data := .seq #[] } } := I.kept (t' := s.toks) fun b o e => Heap.get?_push_of_some _ e
  have hold : ∀ b o, s.heap.get? b = some o → h₁.get? b = some o := fun b o e => hsb b o (Heap.get?_push_of_some _ e)
  have ltD : ∀ {b o}, s.heap.get? b = some o → b < s.heap.objs.size := fun e => Heap.lt_size e
  have sizeP : (s.heap.push { cls := .type "list", data := .seq #[] }).objs.size = s.heap.objs.size + 1 := Heap.size_push ..
  have nD : H s.heap.objs.size = none := I.fresh
  have nC : H (s.heap.objs.size + 1) = none := I.hok.fresh (Nat.le_succ _)
  have cellLt : ∀ x c, X.env.cells.lookup x = some c → c < s.heap.objs.size := fun x c e => by
    obtain ⟨v, q⟩ := I.cell x c e
    exact q.lt
  have stkNe : ∀ b, b ≠ X.env.locals → b ∉ X.fs → b ∉ frs X.stack := fun b h1 h2 hb => (List.mem_cons.mp (I.stkSub b hb)).elim h1 h2
  have fpLt : ∀ b ∈ fp, b < s.heap.objs.size := fun b hb => by obtain ⟨o, e⟩ := ho b hb; exact Heap.lt_size e
  have hfn : ∀ {x : Str}, scope.names.lookup x = some .free → (x, NameKind.free) ∈ scope.names := fun e => PySem.mem_of_lookup e
  refine ⟨⟨I.ok.mod, S.kind, I.ok.glob, I.ok.blt, ?_, fun x y c h1 h2 => I.ok.inj x y c (hcl1 x c h1) (hcl1 y c h2), fun x hx => hcl2 x (relabel_back S.cell hx), fun x c z => (by cases z), I.ok.hd, I.ok.frames, .inl rfl, ?_, ?_, ?_, ?_, ?_, Ik.stack, I.stkFree⟩,
    rfl, I.bare, Un.kept hsb, ?_, ?_, nC, fun x c e => I.freeC x c (hcl1 x c e), ?_, I.hok.kept hold, ?_⟩
  · exact Nat.le_of_eq sizeP
  · intro b hb
    rcases List.mem_cons.mp hb with rfl | hb
    · exact ⟨Nat.ne_of_lt (Nat.lt_succ_self _), fun x c e => Nat.ne_of_lt (cellLt x c (hcl1 x c e))⟩
    · exact ⟨Nat.ne_of_lt (Nat.lt_succ_of_lt (fpLt b hb)), fun x c e => (hf b hb).2.2.2.2.1 x c (hcl1 x c e)⟩
  · intro b o e
    obtain ⟨e1, e2⟩ := I.bs b o e
    exact ⟨Heap.get?_push_of_some _ e1, e2⟩
  · show X.base.objs.size ≤ (s.heap.push _).objs.size
    rw [sizeP]
    exact Nat.le_succ_of_le (Nat.le_trans I.ok.bsz I.sz)
  · intro b o e hb
    obtain ⟨e1, e2⟩ := I.bs b o e
    rcases List.mem_cons.mp hb with rfl | hb
    · exact absurd (ltD e1) (Nat.lt_irrefl _)
    · rcases (hf b hb).2.2.2.1 with z | z
      · exact I.ok.noex b o e z
      · exact absurd (Nat.lt_of_lt_of_le (Heap.lt_size (I.ok.bs b o e).1) z) (Nat.lt_irrefl _)
  · intro b hb
    rcases List.mem_cons.mp hb with rfl | hb
    · exact stkNe _ (Nat.ne_of_gt I.lt) (I.nofs (Nat.le_refl _))
    · exact stkNe b (hf b hb).2.1 (hf b hb).2.2.1
  · refine ⟨m, hns, fun i x v h1 h2 h3 => ?_⟩
    have hik : k ≤ i := by
      refine Nat.le_of_not_lt fun hlt => ?_
      rw [List.getElem?_append_left (by simpa using hlt), List.getElem?_replicate] at h2
      split at h2 <;> cases h2
    obtain ⟨j, rfl⟩ := Nat.exists_eq_add_of_le hik
    rw [List.getElem?_append_right (by simp), List.length_replicate, Nat.add_sub_cancel_left] at h2
    have hj : j < cap.length := by
      have := (List.getElem?_eq_some_iff.mp h2).1
      simpa [capS] using this
    obtain ⟨x', i, e1, e2, e3, e4⟩ := S.cap j (List.mem_range.mpr hj)
    rw [show N[k + j]? = some x from h1] at e1
    cases e1
    have h2' : σ[i]? = some (some v) := by
      unfold capS at h2
      rw [List.getElem?_map, e2] at h2
      have h2' : (σ[i]?).join = some v := Option.some.inj h2
      cases q : σ[i]? with
      | none => rw [q] at h2'; cases h2'
      | some z => rw [q] at h2'; exact congrArg some h2'
    have hfm := hfn e4
    have pk := S.free _ hfm rfl
    obtain ⟨m0, _, hl⟩ := I.loc
    obtain ⟨u, r, lk⟩ := hl i x v e3 h2' (pk.elim (fun z => .inr (.inl z)) fun z => .inr (.inr z))
    refine ⟨u, r, ?_⟩
    rcases lk with ⟨kl, _⟩ | ⟨_, c, e, ic⟩
    · rcases pk with z | z
      · have : X.env.scope.names.lookup x = some .local := kl
        rw [z] at this; cases this
      · have : X.env.scope.names.lookup x = some .local := kl
        rw [z] at this; cases this
    · obtain ⟨c', ec⟩ := hcl2 x hfm
      have := hcl1 x c' ec
      rw [e] at this; cases this
      refine .inr ⟨?_, c, ec, ?_⟩
      · exact relabel_free e4
      · obtain ⟨ob, h3, h4⟩ := ic
        exact ⟨ob, hold _ _ h3, h4⟩
  · intro x c e
    obtain ⟨v, ob, h3, h4⟩ := I.cell x c (hcl1 x c e)
    exact ⟨v, ob, hold _ _ h3, h4⟩
  · intro p hp
    rcases List.mem_append.mp hp with hp | hp
    · obtain ⟨e, n, ne, nf, d⟩ := I.pin p hp
      exact ⟨hold _ _ e, n, Nat.ne_of_lt (Nat.lt_succ_of_lt (ltD e)), stkNe _ ne nf, d⟩
    · have : p = (s.heap.objs.size, { cls := .type "list", data := .seq #[] }) := by simpa using hp
      subst this
      refine ⟨hsb _ _ (Heap.get?_push_size _ rfl), nD, Nat.ne_of_lt (Nat.lt_succ_self _), stkNe _ (Nat.ne_of_gt I.lt) (I.nofs (Nat.le_refl _)), fun v z => by cases z⟩
  · show _ = N.length
    rw [S.len]
    simp [capS]
end L2
set_option Elab.async false
set_option linter.all false
set_option maxRecDepth 100000
set_option maxHeartbeats 1000000
namespace L2
open PySem PySem.Spec PyProof.Rows
theorem comp_core {X : Cx} {elt tg iter : Expr} {ifs : List Expr} {scope : Scope} {pos : Pos} {N : List Str} {k : Nat} {cap : List Nat} {wi : TI} {tt : TTg} {tc : TT} {te : TE} {cl : List (Str × Addr)}
    (hc : X.calm = true) (hi : PI X tg iter wi) (hg : ∀ cl C s H ex pn, PTg (compCx X scope N cl C s H ex pn) k tg tt) (ht : ∀ cl C s H ex pn, PTs (compCx X scope N cl C s H ex pn) ifs tc)
    (he : ∀ cl C s H ex pn, PE (compCx X scope N cl C s H ex pn) elt te) (S : CompOk scope X.env.scope N X.N k cap)
    (hcl1 : ∀ x c, cl.lookup x = some c → X.env.cells.lookup x = some c) (hcl2 : ∀ x, (x, NameKind.free) ∈ scope.names → ∃ c, cl.lookup x = some c)
    {pins : List (Addr × Obj)} {s : Shared} {σ : St} {H : Hp} {Q : VK} (I : Inv X pins σ H s) (h : tComp wi tt tc te cap σ H Q) {RR : Value → Addr → Result → Shared → Prop}
    (hRR : ∀ D C s1 H', Inv X pins σ H' s1 → Blk X pins H' s1 C → Q (.ref D) H' → RR (.ref D) C (.ok .next) s1) :
    wpAny (model X.prog X.w) X.A (eval iter X.env) (fun x s₁ => wpAny (model X.prog X.w) X.A (pyIter x) (fun it s₂ => wpAny (model X.prog X.w) X.A (newList []) (fun acc s₃ =>
      wpAny (model X.prog X.w) X.A (newFunctionEnv scope X.env.globals cl [] X.env.qual none .none (some X.env)) (fun cenv s₄ =>
        codeAny (model X.prog X.w) X.A (.compStart (.ListComp elt [⟨tg, iter, ifs, 0⟩] scope pos) 0 it acc { cenv with scope := relabel scope X.env }) (RR acc cenv.locals) s₄) X.xe s₃) X.xe s₂) X.xe s₁) X.xe s := by
  refine thn (hi pins s σ H _ I h) fun v s1 h1 => thn h1 fun itv s2 h2 => ?_
  obtain ⟨it, fp, tn, J, H2, e, I2, T, st2, f2, W, ⟨m0, w0⟩, turn⟩ := h2
  subst e
  refine wpAny_newObj_type (wpAny_newFunctionEnv S.cell (by intro y hy; simp at hy) (fun h₁ hns₁ hsb₁ => ?_) S.kind)
  dsimp only at hns₁ hsb₁ ⊢
  have hP : s2.heap.push { cls := .type "list", dict := none, data := .seq ([] : List Value).toArray } = s2.heap.push { cls := .type "list", data := .seq #[] } := rfl
  rw [hP] at hns₁ hsb₁ ⊢
  have hC : (s2.heap.push { cls := .type "list", data := .seq #[] }).objs.size = s2.heap.objs.size + 1 := Heap.size_push ..
  rw [hC] at hns₁ hsb₁ ⊢
  have hsb : ∀ b o, (s2.heap.push { cls := .type "list", data := .seq #[] }).get? b = some o → h₁.get? b = some o := fun b o e =>
    hsb₁.extBut b o (by have := Heap.lt_size e; rw [hC] at this; exact Nat.ne_of_lt this) (Heap.get?_push_of_some _ e)
  have hob : ∀ b ∈ fp, ∃ o, s2.heap.get? b = some o := fun b hb => by obtain ⟨o, e, _⟩ := T.obj _ _ st2 b hb; exact ⟨o, e⟩
  have IY := comp_start (N := N) (k := k) (cap := cap) (tk := s2.toks + ([] : List (Str × Value)).length) I2 S hcl1 hcl2 f2 hob hns₁ hsb
  generalize hY : compCx X scope N cl (s2.heap.objs.size + 1) { s2 with heap := s2.heap.push { cls := .type "list", data := .seq #[] } } H2 (s2.heap.objs.size :: fp) (X.pn ++ pins) = Y at IY
  have yp : Y.prog = X.prog := by rw [← hY]
  have yw : Y.w = X.w := by rw [← hY]
  have yK : Y.K = X.K := by rw [← hY]
  have yA : Y.A = X.A := by rw [← hY]
  have yc : Y.calm = true := by rw [← hY]; exact hc
  have yl : Y.env.locals = s2.heap.objs.size + 1 := by rw [← hY]; rfl
  have yenv : Y.env = compEnvC scope cl (s2.heap.objs.size + 1) X.env := by rw [← hY]
  have yex : Y.ex = s2.heap.objs.size :: fp := by rw [← hY]
  have yfs : Y.fs = frs X.stack := by rw [← hY]
  have ypn : Y.pn = X.pn ++ pins := by rw [← hY]
  have ycl : Y.env.cells = cl := by rw [← hY]; rfl
  have yxe : Y.xe = fun _ _ => False := by rw [← hY]
  have gT : PTg Y k tg tt := by rw [← hY]; exact hg _ _ _ _ _ _
  have gC : PTs Y ifs tc := by rw [← hY]; exact ht _ _ _ _ _ _
  have gE : PE Y elt te := by rw [← hY]; exact he _ _ _ _ _ _
  have yH : Y.H₀ = H2 := by rw [← hY]
  have ys0 : Y.s₀ = { s2 with heap := s2.heap.push { cls := .type "list", data := .seq #[] } } := by rw [← hY]
  have fpLt : ∀ b ∈ fp, b < s2.heap.objs.size := fun b hb => by obtain ⟨o, e⟩ := hob b hb; exact Heap.lt_size e
  have pinLt : ∀ p ∈ X.pn ++ pins, p.1 < s2.heap.objs.size := fun p hp => Heap.lt_size (I2.pin p hp).1
  have cellLt : ∀ x c, X.env.cells.lookup x = some c → c < s2.heap.objs.size := fun x c e => by
    obtain ⟨v, q⟩ := I2.cell x c e
    exact q.lt
  have stkNe : ∀ b, b ≠ X.env.locals → b ∉ X.fs → b ∉ frs X.stack := fun b h1 h2 hb => (List.mem_cons.mp (I2.stkSub b hb)).elim h1 h2
  have fpY : ∀ {H' : Hp} {pl : List (Addr × Obj)}, (∀ b ∈ fp, H' b = none) → (∀ p ∈ pl, p.1 = s2.heap.objs.size) → ∀ b ∈ fp, FpOk Y pl H' b := fun {H' pl} hn hpl b hb => by
    refine ⟨hn b hb, ?_, ?_, .inl ?_, fun x c e => ?_, fun p hp => ?_⟩
    · rw [yl]; exact Nat.ne_of_lt (Nat.lt_succ_of_lt (fpLt b hb))
    · rw [yfs]; exact stkNe b (f2 b hb).2.1 (f2 b hb).2.2.1
    · rw [yex]; exact List.mem_cons_of_mem _ hb
    · rw [ycl] at e; exact (f2 b hb).2.2.2.2.1 x c (hcl1 x c e)
    · rcases List.mem_append.mp hp with hp | hp
      · rw [ypn] at hp; exact (f2 b hb).2.2.2.2.2 p hp
      · rw [hpl p hp]; exact Nat.ne_of_gt (fpLt b hb)
  have loop : ∀ s₃ : Shared, s₃ = { s2 with heap := h₁, toks := s2.toks + ([] : List (Str × Value)).length } →
      codeAny (model X.prog X.w) X.A (.compLoop (.ListComp elt [⟨tg, iter, ifs, 0⟩] scope pos) 0 (.ref it) (.ref s2.heap.objs.size) (compEnvC scope cl (s2.heap.objs.size + 1) X.env)) (RR (.ref s2.heap.objs.size) (s2.heap.objs.size + 1)) s₃ := by
    rintro s₃ rfl
    refine comp_loop (fun n s' => ∃ i ys its H' c, Inv Y [(s2.heap.objs.size, { cls := .type "list", data := .seq (List.toArray its) c })] (List.replicate k none ++ capS σ cap) H' s' ∧ tn i s'.heap ∧ (∀ b ∈ fp, H' b = none) ∧ Vals ys its ∧ W i n ys H') ?_ m0
      ⟨0, [], [], H2, _, IY, T.keep _ _ _ st2 fun b hb o e => hsb b o (Heap.get?_push_of_some _ e), fun b hb => (f2 b hb).1, .nil, w0⟩
    rintro n s3 ⟨i, ys, its, H3, c3, I3, st3, fr3, rv3, w3⟩
    have onlyD : ∀ p ∈ [(s2.heap.objs.size, ({ cls := .type "list", data := .seq its.toArray c3 } : Obj))], p.1 = s2.heap.objs.size := fun p hp => by
      have : p = (s2.heap.objs.size, { cls := .type "list", data := .seq its.toArray c3 }) := by simpa using hp
      rw [this]
    have pinD : ∀ {pl : List (Addr × Obj)} {σ' : St} {H' : Hp} {s' : Shared}, Inv Y ([(s2.heap.objs.size, ({ cls := .type "list", data := .seq its.toArray c3 } : Obj))] ++ pl) σ' H' s' → s'.heap.get? s2.heap.objs.size = some { cls := .type "list", data := .seq its.toArray c3 } ∧ H' s2.heap.objs.size = none := fun I' => by
      obtain ⟨e, n, _⟩ := I'.pin (s2.heap.objs.size, { cls := .type "list", data := .seq its.toArray c3 }) (List.mem_append_right _ (List.mem_append_left _ (by simp)))
      exact ⟨e, n⟩
    rcases turn i n ys H3 w3 with ⟨stop, hz, qn⟩ | ⟨go, Nx, hNx, step⟩
    · have hd := T.done Y yp yw yK yc i _ s3 _ H3 (fun _ _ => False) I3 (fpY fr3 onlyD) st3 stop
      rw [yA] at hd
      refine thn hd fun r s4 hm0 => ?_
      obtain ⟨hr, I4⟩ := hm0
      subst hr
      obtain ⟨eD, nD⟩ := pinD (pl := []) (by simpa using I4)
      have nC : H3 (s2.heap.objs.size + 1) = none := by have := I4.free; rw [yl] at this; exact this
      obtain ⟨mC, nsC, _⟩ := I4.loc
      rw [yl] at nsC
      have U := I4.base
      rw [yfs, yex, yH, ys0] at U
      have old : ∀ {b o}, s2.heap.get? b = some o → b < s2.heap.objs.size := fun e => Heap.lt_size e
      have Un2 : Un (frs X.stack) (s2.heap.objs.size :: fp) H2 (upd H3 s2.heap.objs.size (.lst ys)) s2.heap s4.heap :=
        ⟨fun b o e n hb hx => U.keep b o (Heap.get?_push_of_some _ e) n hb hx, fun b o e n hb hx => U.slot b o (Heap.get?_push_of_some _ e) n hb hx,
          fun b o e n hx => by rw [upd_ne (Nat.ne_of_lt (old e))]; exact U.free b o (Heap.get?_push_of_some _ e) n hx, fun b o e hx => U.there b o (Heap.get?_push_of_some _ e) hx,
          fun b xs e => by have q := U.tups b xs e; rw [upd_ne (ne_of_none q nD)]; exact q, fun b o u e => by have q := U.frzs b o u e; rw [upd_ne (ne_of_none q nD)]; exact q,
          fun b ps e => by obtain ⟨mo, q⟩ := U.tbls b ps e; exact ⟨mo, by rw [upd_ne (ne_of_none q nD)]; exact q⟩⟩
      have hok4 := I4.hok
      rw [yp, yw] at hok4
      have IX : Inv X pins σ (upd H3 s2.heap.objs.size (.lst ys)) s4 := by
        refine I2.call' (ch := s2.heap.objs.size :: fp) ?_ Un2 (hok4.adopt nD ⟨hz, its, c3, rv3, eD⟩) I4.bare fun b hb => ?_
        · have := I4.os; rw [ys0] at this; exact this
        · rcases List.mem_cons.mp hb with rfl | hb
          · exact ⟨.inr I2.sz, Nat.ne_of_gt I2.lt, fun x c e => Nat.ne_of_lt (cellLt x c e), fun p hp => Nat.ne_of_lt (pinLt p hp)⟩
          · exact ⟨(f2 b hb).2.2.2.1, (f2 b hb).2.1, (f2 b hb).2.2.2.2.1, (f2 b hb).2.2.2.2.2⟩
      refine hRR _ _ s4 _ IX ⟨⟨mC, nsC⟩, ?_, ?_, Nat.le_succ_of_le I2.sz, fun x c e => Nat.ne_of_lt (Nat.lt_succ_of_lt (cellLt x c e)), fun p hp => Nat.ne_of_lt (Nat.lt_succ_of_lt (pinLt p hp))⟩ (qn _ nD)
      · rw [upd_ne (Nat.succ_ne_self _)]; exact nC
      · exact Nat.ne_of_gt (Nat.lt_succ_of_lt I2.lt)
    · have hd := T.item Y yp yw yK yc i _ s3 _ H3 (fun _ _ => False) I3 (fpY fr3 onlyD) st3 go
      rw [yA] at hd
      refine thn hd fun r s4 hm0 => ?_
      obtain ⟨u, hr, h4⟩ := hm0
      subst hr
      refine thn h4 fun _ s5 hm0 => ?_
      obtain ⟨x, H5, I5, r5, y5, st5, fr5⟩ := hm0
      have I5' := I5.pinned (fpY fr5 onlyD) (T.obj _ _ st5)
      have a5 := gT _ s5 _ H5 x u _ I5' (by simp) r5 (step x H5 y5)
      rw [yp, yw, yA, yxe, yenv] at a5
      refine thn a5 fun _ s6 hm0 => ?_
      obtain ⟨ws, hlw, q6, I6⟩ := hm0
      have dr : (List.replicate k (none : Option V) ++ capS σ cap).drop k = capS σ cap := by
        rw [List.drop_append_of_le_length (by simp)]; simp
      rw [dr] at I6
      have a6 := gC _ s6 _ H5 _ I6 q6
      rw [yp, yw, yA, yxe, yenv] at a6
      refine thn a6 fun ok s7 hm0 => ?_
      obtain ⟨H7, I7, q7⟩ := hm0
      have wk : ∀ (j : Nat) v, (List.replicate k (none : Option V) ++ capS σ cap)[j]? = some (some v) → (ws.map some ++ capS σ cap)[j]? = some (some v) := fun j v e => by
        have hik : k ≤ j := by
          refine Nat.le_of_not_lt fun hlt => ?_
          rw [List.getElem?_append_left (by simpa using hlt), List.getElem?_replicate] at e
          split at e <;> cases e
        rw [List.getElem?_append_right (by simpa using hik), List.length_replicate] at e
        rw [List.getElem?_append_right (by simpa [hlw] using hik), List.length_map, hlw]
        exact e
      have wl : (List.replicate k (none : Option V) ++ capS σ cap).length = (ws.map some ++ capS σ cap).length := by simp [hlw]
      have stn : ∀ {H' : Hp} {s' : Shared}, Inv Y ([(s2.heap.objs.size, ({ cls := .type "list", data := .seq its.toArray c3 } : Obj))] ++ pinsAt fp s5.heap) (ws.map some ++ capS σ cap) H' s' → tn (i + 1) s'.heap ∧ ∀ b ∈ fp, H' b = none := fun {H' s'} I' => by
        refine ⟨T.keep _ _ _ st5 fun b hb o e => (I'.pin (b, o) (List.mem_append_right _ (List.mem_append_right _ (mem_pinsAt hb e)))).1, fun b hb => ?_⟩
        obtain ⟨o, e, d⟩ := T.obj _ _ st5 b hb
        exact (I'.pin (b, o) (List.mem_append_right _ (List.mem_append_right _ (mem_pinsAt hb e)))).2.1
      cases ok with
      | false =>
        obtain ⟨_, m', hm, w'⟩ := hNx _ _ q7
        obtain ⟨t7, f7⟩ := stn I7
        exact ⟨m', hm, i + 1, ys, its, H7, c3, (I7.weak wl wk).unpinned, t7, f7, rv3, w'⟩
      | true =>
        have a7 := gE _ s7 _ H7 _ I7 q7
        rw [yp, yw, yA, yxe, yenv] at a7
        rw [if_pos rfl]
        refine thn a7 fun yv s8 hm0 => ?_
        obtain ⟨y, H8, I8, r8, q8⟩ := hm0
        obtain ⟨hz8, m', hm, w'⟩ := hNx _ _ q8
        rw [List.length_append, List.length_singleton] at hz8
        obtain ⟨eD, nD⟩ := pinD I8
        obtain ⟨t8, f8⟩ := stn I8
        refine wpAny_list_append_plain (hsz := by rw [List.size_toArray, ← rv3.length]; omega) ⟨c3, eD⟩ fun h9 pl9 sb9 => ?_
        obtain ⟨c9, e9⟩ := pl9
        have I8' : Inv Y [] (List.replicate k none ++ capS σ cap) H8 s8 := (I8.weak wl wk).pins_of fun p hp => by cases hp
        have I9 : Inv Y [] (List.replicate k none ++ capS σ cap) H8 { s8 with heap := h9 } :=
          I8'.turned (t' := s8.toks) (it := s2.heap.objs.size) (fun b o hb e => sb9.extBut b o hb e) nD (by rw [yl]; exact Nat.ne_of_lt (Nat.lt_succ_self _)) (.inl (by rw [yex]; exact List.mem_cons_self)) (fun x c e => by rw [ycl] at e; exact Nat.ne_of_lt (cellLt x c (hcl1 x c e)))
            fun p hp => by
              rw [List.append_nil, ypn] at hp
              exact Nat.ne_of_lt (pinLt p hp)
        have e9' : h9.get? s2.heap.objs.size = some { cls := .type "list", data := .seq (its ++ [yv]).toArray c9 } := by rw [e9]; simp
        refine ⟨m', hm, i + 1, ys ++ [y], its ++ [yv], H8, c9, I9.pins_of fun p hp => ?_, T.keep _ _ _ t8 fun b hb o e => sb9.extBut b o (Nat.ne_of_lt (fpLt b hb)) e, f8, rv3.append (.cons r8 .nil), w'⟩
        have : p = (s2.heap.objs.size, { cls := .type "list", data := .seq (its ++ [yv]).toArray c9 }) := by simpa using hp
        subst this
        refine ⟨e9', nD, ?_, ?_, fun v z => by cases z⟩
        · rw [yl]; exact Nat.ne_of_lt (Nat.lt_succ_self _)
        · rw [yfs]; exact stkNe _ (Nat.ne_of_gt I2.lt) (I2.nofs (Nat.le_refl _))
  exact codeAny_compStart_list (loop _ rfl) (T.self _ 0 _ _ _ (T.keep _ _ _ st2 fun b hb o e => hsb b o (Heap.get?_push_of_some _ e)) (loop _ rfl))
section
variable {X : Cx} {elt tg iter : Expr} {ifs : List Expr} {scope : Scope} {pos : Pos} {N : List Str} {k : Nat} {cap : List Nat} {wi : TI} {tt : TTg} {tc : TT} {te : TE}
theorem pe_comp (hc : X.calm = true) (S : CompOk scope X.env.scope N X.N k cap) (hi : PI X tg iter wi) (hg : ∀ cl C s H ex pn, PTg (compCx X scope N cl C s H ex pn) k tg tt) (ht : ∀ cl C s H ex pn, PTs (compCx X scope N cl C s H ex pn) ifs tc)
    (he : ∀ cl C s H ex pn, PE (compCx X scope N cl C s H ex pn) elt te) (hs : ∀ x, foldedSetIterable iter X.env x = pure x := by intro _; rfl) :
    PE X (.ListComp elt [⟨tg, iter, ifs, 0⟩] scope pos) (tComp wi tt tc te cap) := by
  intro pins s σ H Q I h
  obtain ⟨cl, hclos, hcl1, hcl2⟩ := clos_of (scope := scope) (env := X.env) fun y hy hf => I.ok.has y.1 (S.free y hy hf)
  rw [eval_ListComp]
  refine wpAny_comprehension_free (use := none) rfl hs hclos S.kind S.loc ?_
  refine comp_core hc hi hg ht he S hcl1 hcl2 I h fun D C s1 H' I1 B q => ?_
  obtain ⟨m, hm⟩ := B.ns
  exact ⟨m, hm, fun h' sb => ⟨.ref D, H', B.turn I1 sb, rfl, q⟩⟩
theorem ps_setC {i : Nat} {y : Str} {py spos : Pos} (hc : X.calm = true) (S : CompOk scope X.env.scope N X.N k cap) (hN : X.N.Nodup) (hiy : X.N[i]? = some y) (hy : X.env.scope.names.lookup y = some .local) (hi : PI X tg iter wi)
    (hg : ∀ cl C s H ex pn, PTg (compCx X scope N cl C s H ex pn) k tg tt) (ht : ∀ cl C s H ex pn, PTs (compCx X scope N cl C s H ex pn) ifs tc)
    (he : ∀ cl C s H ex pn, PE (compCx X scope N cl C s H ex pn) elt te)
    (hsw : swapsWith (.ListComp elt [⟨tg, iter, ifs, 0⟩] scope pos) (some (.Name y py)) spos.line X.env = pure true := by rfl) (hs : ∀ x, foldedSetIterable iter X.env x = pure x := by intro _; rfl) :
    PS X (.Assign [.Name y py] (.ListComp elt [⟨tg, iter, ifs, 0⟩] scope pos) spos) (tAsg (tComp wi tt tc te cap) (gName i)) := by
  intro pins s σ H D I h
  obtain ⟨cl, hclos, hcl1, hcl2⟩ := clos_of (scope := scope) (env := X.env) fun y hy hf => I.ok.has y.1 (S.free y hy hf)
  rw [exec_Assign_Name_used _ _ _ _ hsw]
  refine wpAny_bind (wpAny_standAt (wpAny_bind ?_))
  show wpAny _ X.A (do let _ ← comprehension (.ListComp elt [⟨tg, iter, ifs, 0⟩] scope pos) scope X.env _ (newList []) false (eval iter X.env) (some (assign (.Name y py) X.env))) _ _ s
  refine wpAny_bind (wpAny_mono (wpAny_comprehension_free (use := some (assign (.Name y py) X.env)) (Q := fun _ s' => SP X pins D .next s') rfl hs hclos S.kind S.loc ?_) (fun _ s' hq => wpAny_pure (wpAny_pure hq)) fun _ _ e => e)
  refine comp_core hc hi hg ht he S hcl1 hcl2 I h fun Da C s1 H' I1 B q => ?_
  show wpAny _ X.A (assign (.Name y py) X.env (.ref Da)) _ _ _
  refine wpAny_assign_Name (store_ok2 (v := .ref Da) I1 hN hiy (.inl hy) rfl (fun s' I' z => ?_) (.inr hy))
  obtain ⟨a, hsb, ha⟩ := z
  have hCa : C ≠ a := by
    rcases ha with rfl | ha
    · exact B.ne
    · exact fun e => B.cells _ _ ha e.symm
  obtain ⟨m, hm⟩ := B.ns
  refine ⟨m, hm.sameBut hsb hCa, fun h' sb => ?_⟩
  exact ⟨_, H', I'.turned (t' := s'.toks) (fun b o hb e => sb.extBut b o hb e) B.un B.ne (.inr B.new) B.cells B.pins, q⟩
end
end L2
set_option Elab.async false
set_option linter.all false
set_option maxRecDepth 100000
set_option maxHeartbeats 1000000
namespace L2
open PySem PySem.Spec PyProof.Rows
abbrev Rel (α : Type) := Hp → α → V → Prop
def rInt : Rel Int := fun _ i v => v = .int i
def rLst {α : Type} (R : Rel α) : Rel (List α) := fun H xs v => ∃ a vs, v = .ref a ∧ H a = some (.lst vs) ∧ Paired (R H) xs vs
def rT2 {α β : Type} (R : Rel α) (S : Rel β) : Rel (α × β) := fun H p v => ∃ a x y, v = .ref a ∧ H a = some (.tup [x, y]) ∧ R H p.1 x ∧ S H p.2 y
structure MonoR {α : Type} (R : Rel α) : Prop where
  go : ∀ (H H' : Hp) (x : α) (v : V), Same H H' → R H x v → R H' x v
theorem MonoR.up {α : Type} {R : Rel α} (m : MonoR R) {H H' : Hp} {x : α} {v : V} (s : Same H H') (h : R H x v) : R H' x v := m.go H H' x v s h
theorem mono_int : MonoR rInt := ⟨fun _ _ _ _ _ h => h⟩
theorem paired_mono {α : Type} {R : Rel α} (m : MonoR R) {H H' : Hp} (s : Same H H') {xs : List α} {vs : List V} (p : Paired (R H) xs vs) : Paired (R H') xs vs := Paired.mapP p fun _ _ q => m.up s q
theorem mono_lst {α : Type} {R : Rel α} (m : MonoR R) : MonoR (rLst R) := ⟨fun H H' x v s h => by
  obtain ⟨a, vs, e, h1, p⟩ := h
  exact ⟨a, vs, e, s _ _ h1, paired_mono m s p⟩⟩
theorem mono_t2 {α β : Type} {R : Rel α} {S : Rel β} (m : MonoR R) (n : MonoR S) : MonoR (rT2 R S) := ⟨fun H H' x v s h => by
  obtain ⟨a, x, y, e, h1, p, q⟩ := h
  exact ⟨a, x, y, e, s _ _ h1, m.up s p, n.up s q⟩⟩
theorem Paired.at {α β : Type} {F : α → β → Prop} : ∀ {xs : List α} {ys : List β} {i : Nat} {x : α}, Paired F xs ys → xs[i]? = some x → ∃ y, ys[i]? = some y ∧ F x y
  | _, _, _, _, .nil, e => by simp at e
  | _, _, 0, _, .cons r _, e => by simp at e; subst e; exact ⟨_, rfl, r⟩
  | _, _, i + 1, x, .cons _ t, e => by
    obtain ⟨u, h1, h2⟩ := Paired.at (i := i) (x := x) t (by simpa using e)
    exact ⟨u, by simpa using h1, h2⟩
theorem Paired.app {α β : Type} {F : α → β → Prop} : ∀ {xs xs' : List α} {ys ys' : List β}, Paired F xs ys → Paired F xs' ys' → Paired F (xs ++ xs') (ys ++ ys')
  | _, _, _, _, .nil, s => s
  | _, _, _, _, .cons r t, s => .cons r (Paired.app t s)
structure EqOk {α : Type} (n : Nat) (R : Rel α) : Prop where
  go : ∀ (X : Cx) (pins : List (Addr × Obj)) (σ : St) (H : Hp) (s : Shared) (A : Around) (x : α) (v w : V) (u1 u2 : Value),
    Inv X pins σ H s → A.units + n < cLine → R H x v → R H x w → RelV v u1 → RelV w u2 → SeqAt.EqAt A s u1 u2 true
theorem EqOk.at {α : Type} {n : Nat} {R : Rel α} (h : EqOk n R) {X : Cx} {pins : List (Addr × Obj)} {σ : St} {H : Hp} {s : Shared} {A : Around} {x : α} {v w : V} {u1 u2 : Value} (I : Inv X pins σ H s) (hu : A.units + n < cLine) (h1 : R H x v) (h2 : R H x w) (r1 : RelV v u1) (r2 : RelV w u2) : SeqAt.EqAt A s u1 u2 true :=
  h.go X pins σ H s A x v w u1 u2 I hu h1 h2 r1 r2
structure RcOk {α : Type} (n : Nat) (R : Rel α) : Prop where
  go : ∀ (X : Cx) (pins : List (Addr × Obj)) (σ : St) (H : Hp) (s : Shared) (A : Around) (x : α) (v w : V) (u1 u2 : Value),
    Inv X pins σ H s → A.units + n < cLine → R H x v → R H x w → RelV v u1 → RelV w u2 → SeqAt.RcAt A s u1 u2 true ∧ SeqAt.RcNeAt A s u1 u2 false
theorem RcOk.at {α : Type} {n : Nat} {R : Rel α} (h : RcOk n R) {X : Cx} {pins : List (Addr × Obj)} {σ : St} {H : Hp} {s : Shared} {A : Around} {x : α} {v w : V} {u1 u2 : Value} (I : Inv X pins σ H s) (hu : A.units + n < cLine) (h1 : R H x v) (h2 : R H x w) (r1 : RelV v u1) (r2 : RelV w u2) : SeqAt.RcAt A s u1 u2 true ∧ SeqAt.RcNeAt A s u1 u2 false :=
  h.go X pins σ H s A x v w u1 u2 I hu h1 h2 r1 r2
theorem EqOk.up {α : Type} {m n : Nat} {R : Rel α} (h : EqOk m R) (hm : m ≤ n) : EqOk n R := ⟨fun X pins σ H s A x v w u1 u2 I hu => h.go X pins σ H s A x v w u1 u2 I (by omega)⟩
theorem eqok_int : EqOk 0 rInt := by
  refine ⟨fun X pins σ H s A x v w u1 u2 I hu h1 h2 r1 r2 => ?_⟩
  have e1 : v = .int x := h1
  have e2 : w = .int x := h2
  subst e1; subst e2
  have := eqAt_V (A := A) (s := s) r1 r2 rfl rfl
  simpa [eqV] using this
theorem all_true (n : Nat) : (List.range n).all (fun _ => true) = true := by simp
theorem vals_two {α : Type} {R : Rel α} {H : Hp} {xs : List α} {vs ws : List V} {us1 us2 : List Value} (p1 : Paired (R H) xs vs) (p2 : Paired (R H) xs ws) (r1 : Vals vs us1) (r2 : Vals ws us2) :
    us1.length = us2.length ∧ ∀ (j : Nat) (a b : Value), us1[j]? = some a → us2[j]? = some b → ∃ x v w, R H x v ∧ R H x w ∧ RelV v a ∧ RelV w b := by
  induction p1 generalizing ws us1 us2 with
  | nil =>
    cases p2
    cases r1; cases r2
    exact ⟨rfl, fun j a b e => by simp at e⟩
  | cons h t ih =>
    cases p2 with
    | cons h' t' =>
      cases r1 with
      | cons q1 s1 =>
        cases r2 with
        | cons q2 s2 =>
          obtain ⟨e, f⟩ := ih t' s1 s2
          refine ⟨by simp [e], fun j a b ea eb => ?_⟩
          cases j with
          | zero => simp at ea eb; subst ea; subst eb; exact ⟨_, _, _, h, h', q1, q2⟩
          | succ j => exact f j a b (by simpa using ea) (by simpa using eb)
theorem rcok_lst {α : Type} {n : Nat} {R : Rel α} (h : EqOk n R) : RcOk (n + 1) (rLst R) := by
  refine ⟨fun X pins σ H s A xs v w u1 u2 I hu h1 h2 r1 r2 => ?_⟩
  obtain ⟨a, vs, e1, ha, p1⟩ := h1
  obtain ⟨b, ws, e2, hb, p2⟩ := h2
  subst e1; subst e2
  cases r1; cases r2
  obtain ⟨its, n1, rv1, o1, z1⟩ := I.lst ha
  obtain ⟨its2, n2, rv2, o2, z2⟩ := I.lst hb
  obtain ⟨el, f⟩ := vals_two p1 p2 rv1 rv2
  have hl1 : s.heap.IsList a its.toArray := ⟨_, o1, rfl, n1, rfl⟩
  have hl2 : s.heap.IsList b its2.toArray := ⟨_, o2, rfl, n2, rfl⟩
  have he : ∀ j (h1 : j < its.toArray.size) (h2 : j < its2.toArray.size), SeqAt.EqAt A.in1 s its.toArray[j] its2.toArray[j] ((fun _ => true) j) := fun j h1 h2 => by
    obtain ⟨x, v, w, q1, q2, q3, q4⟩ := f j (its.toArray[j]) (its2.toArray[j]) (by simp) (by simp)
    exact h.at I (by show A.units + 1 + n < cLine; omega) q1 q2 q3 q4
  have A1 := SeqAt.RcAt.lists hl1 hl2 (by simpa using el) (by omega) he
  have A2 := SeqAt.RcNeAt.lists hl1 hl2 (by simpa using el) (by omega) he
  rw [all_true] at A1 A2
  exact ⟨A1, A2⟩
theorem eqok_of {α : Type} {n : Nat} {R : Rel α} (h : RcOk n R) (href : ∀ {H : Hp} {x : α} {v : V}, R H x v → ∃ a, v = .ref a) : EqOk n R := by
  refine ⟨fun X pins σ H s A x v w u1 u2 I hu h1 h2 r1 r2 => ?_⟩
  obtain ⟨a, rfl⟩ := href h1
  obtain ⟨b, rfl⟩ := href h2
  have q := (h.at I hu h1 h2 r1 r2).1
  cases r1; cases r2
  by_cases e : a = b
  · subst e; exact SeqAt.EqAt.same _
  · exact SeqAt.EqAt.of_refs e q
theorem eqok_lst {α : Type} {n : Nat} {R : Rel α} (h : EqOk n R) : EqOk (n + 1) (rLst R) := eqok_of (rcok_lst h) fun z => by obtain ⟨a, _, e, _⟩ := z; exact ⟨a, e⟩
theorem rcok_t2 {α β : Type} {n : Nat} {R : Rel α} {S : Rel β} (h : EqOk n R) (g : EqOk n S) : RcOk (n + 1) (rT2 R S) := by
  refine ⟨fun X pins σ H s A xs v w u1 u2 I hu h1 h2 r1 r2 => ?_⟩
  obtain ⟨a, x1, y1, e1, ha, p1, q1⟩ := h1
  obtain ⟨b, x2, y2, e2, hb, p2, q2⟩ := h2
  subst e1; subst e2
  cases r1; cases r2
  obtain ⟨z1, its, rv1, t1⟩ := I.hok a _ ha
  obtain ⟨z2, its2, rv2, t2⟩ := I.hok b _ hb
  obtain ⟨c1, c2, rfl, rc1, rc2⟩ := rv1.two
  obtain ⟨d1, d2, rfl, rd1, rd2⟩ := rv2.two
  have he : ∀ j (h1 : j < [c1, c2].toArray.size) (h2 : j < [d1, d2].toArray.size), SeqAt.EqAt A.in1 s [c1, c2].toArray[j] [d1, d2].toArray[j] ((fun _ => true) j) := fun j h1 h2 => by
    have hj : j = 0 ∨ j = 1 := by have : j < 2 := h1; (clear hu z1 z2 h1 h2; omega)
    rcases hj with rfl | rfl
    · exact h.at I (by show A.units + 1 + n < cLine; omega) p1 p2 rc1 rd1
    · exact g.at I (by show A.units + 1 + n < cLine; omega) q1 q2 rc2 rd2
  have A1 := SeqAt.RcAt.tuples t1 t2 (by omega) he
  have A2 := SeqAt.RcNeAt.tuples t1 t2 (by omega) he
  simpa [all_true] using And.intro A1 A2
theorem eqok_t2 {α β : Type} {n : Nat} {R : Rel α} {S : Rel β} (h : EqOk n R) (g : EqOk n S) : EqOk (n + 1) (rT2 R S) := eqok_of (rcok_t2 h g) fun z => by obtain ⟨a, _, _, e, _⟩ := z; exact ⟨a, e⟩
section
variable {X : Cx}
theorem op_eqR {α : Type} {n : Nat} {R : Rel α} (ok : RcOk n R) (hu : X.A.units + n < cLine) : OpR X (compareOp .Eq) (fun v w H Q => ∃ x, R H x v ∧ R H x w ∧ Q (.bl true) H) := by
  intro pins s σ H v w u1 u2 Q I r1 r2 h
  obtain ⟨x, h1, h2, q⟩ := h
  exact (ok.at I hu h1 h2 r1 r2).1 _ _ _ _ ⟨.bl true, H, I, rfl, q⟩
def kindV (H : Hp) : V → String → Prop
  | .non, T => T = "NoneType"
  | .bl _, T => T = "bool"
  | .int _, T => T = "int"
  | .str _, T => T = "str"
  | .ref a, T => (T = "list" ∧ ((∃ xs, H a = some (.lst xs)) ∨ ∃ o xs, H a = some (.frz o (.lst xs)))) ∨ (T = "tuple" ∧ ∃ xs, H a = some (.tup xs)) ∨ (T = "dict" ∧ ∃ kvs, H a = some (.dK kvs))
  | _, _ => False
theorem kindV.ty {K : PySem.W.Frag} {H : Hp} {x : V} {T : String} (h : kindV H x T) : TyOf K H x (.type T) := by
  cases x with
  | non => cases (show T = "NoneType" from h); exact .non
  | bl b => cases (show T = "bool" from h); exact .bl b
  | int i => cases (show T = "int" from h); exact .int i
  | str z => cases (show T = "str" from h); exact .str z
  | ref a =>
    rcases h with ⟨rfl, ⟨xs, e⟩ | ⟨o, xs, e⟩⟩ | ⟨rfl, xs, e⟩ | ⟨rfl, kvs, e⟩
    · exact .lst e
    · exact .frz e
    · exact .tup e
    · exact .dK e
  | _ => exact False.elim h
theorem call_isi {T : String} : CallR X (.builtin "isinstance") (fun xs H Q => ∃ x S b, xs = [x, .ty T] ∧ kindV H x S ∧ PySem.W.kitOne X.K (.type S) (.type T) = some b ∧ Q (.bl b) H) := by
  intro pins s σ H xs us Q I r h
  obtain ⟨x, S, b, rfl, hk, e, q⟩ := h
  obtain ⟨u, c, rfl, ru, rc⟩ := r.two
  cases (show c = Value.type T from rc)
  exact isinst_ok I ru hk.ty e fun tk => ⟨.bl b, H, I.tok _, rfl, q⟩
theorem isi_same {K : PySem.W.Frag} (T : String) : PySem.W.kitOne K (.type T) (.type T) = some true := by
  unfold PySem.W.kitOne
  rw [if_pos (by simp)]
theorem isi_int_bool {K : PySem.W.Frag} : PySem.W.kitOne K (.type "int") (.type "bool") = some false := rfl
end
end L2
set_option Elab.async false
set_option linter.all false
set_option maxRecDepth 100000
set_option maxHeartbeats 1000000
namespace L2
open PySem PySem.Spec PyProof.Rows
def compOkB (scope psc : Scope) (N PN : List Str) (k : Nat) (cap : List Nat) : Bool :=
  (scope.kind == .function) && (N.length == k + cap.length) &&
  (scope.names.all fun y => (y.2 != .cell) && (y.2 != .local || scope.names.lookup y.1 == some .local) &&
    (y.2 != .free || (scope.names.lookup y.1 == some .free && (psc.names.lookup y.1 == some .cell || psc.names.lookup y.1 == some .free)))) &&
  ((List.range cap.length).all fun j => match N[k + j]?, cap[j]? with
    | some x, some i => PN[i]? == some x && scope.names.lookup x == some .free
    | _, _ => false)
theorem compOk_of {scope psc : Scope} {N PN : List Str} {k : Nat} {cap : List Nat} (h : compOkB scope psc N PN k cap = true) : CompOk scope psc N PN k cap := by
  unfold compOkB at h
  simp only [Bool.and_eq_true] at h
  obtain ⟨⟨⟨h1, h2⟩, h3⟩, h4⟩ := h
  rw [List.all_eq_true] at h3 h4
  have q : ∀ y ∈ scope.names, y.2 ≠ .cell ∧ (y.2 = .local → scope.names.lookup y.1 = some .local) ∧ (y.2 = .free → scope.names.lookup y.1 = some .free ∧ (psc.names.lookup y.1 = some .cell ∨ psc.names.lookup y.1 = some .free)) := fun y hy => by
    have := h3 y hy
    simp only [Bool.and_eq_true, Bool.or_eq_true, bne_iff_ne, beq_iff_eq] at this
    obtain ⟨⟨a, b⟩, c⟩ := this
    exact ⟨a, fun e => b.elim (fun z => absurd e z) id, fun e => c.elim (fun z => absurd e z) id⟩
  refine ⟨by simpa using h1, by simpa using h2, fun y hy => (q y hy).1, fun y hy => (q y hy).2.1, fun y hy e => ((q y hy).2.2 e).2, fun j hj => ?_, fun y hy e => ((q y hy).2.2 e).1⟩
  have := h4 j hj
  split at this
  · rename_i x i e1 e2
    simp only [Bool.and_eq_true, beq_iff_eq] at this
    exact ⟨x, i, e1, e2, this.1, this.2⟩
  · cases this
section
variable {X : Cx} {elt tg iter : Expr} {ifs : List Expr} {scope : Scope} {pos : Pos} {wi : TI} {tt : TTg} {tc : TT} {te : TE}
theorem pe_lc (psc : Scope) (PN N : List Str) (k : Nat) (cap : List Nat) (hi : PI X tg iter wi) (hg : ∀ cl C s H ex pn, PTg (compCx X scope N cl C s H ex pn) k tg tt) (ht : ∀ cl C s H ex pn, PTs (compCx X scope N cl C s H ex pn) ifs tc)
    (he : ∀ cl C s H ex pn, PE (compCx X scope N cl C s H ex pn) elt te) (hc : X.calm = true := by rfl) (h1 : X.env.scope = psc := by rfl) (h2 : X.N = PN := by rfl) (S : compOkB scope psc N PN k cap = true := by decide +kernel)
    (hs : ∀ x, foldedSetIterable iter X.env x = pure x := by intro _; rfl) :
    PE X (.ListComp elt [⟨tg, iter, ifs, 0⟩] scope pos) (tComp wi tt tc te cap) := pe_comp hc (by rw [h1, h2]; exact compOk_of S) hi hg ht he hs
theorem ps_lc {i : Nat} {y : Str} {py spos : Pos} (psc : Scope) (PN N : List Str) (k : Nat) (cap : List Nat) (hN : X.N.Nodup) (hiy : X.N[i]? = some y) (hy : X.env.scope.names.lookup y = some .local) (hi : PI X tg iter wi)
    (hg : ∀ cl C s H ex pn, PTg (compCx X scope N cl C s H ex pn) k tg tt) (ht : ∀ cl C s H ex pn, PTs (compCx X scope N cl C s H ex pn) ifs tc)
    (he : ∀ cl C s H ex pn, PE (compCx X scope N cl C s H ex pn) elt te) (hc : X.calm = true := by rfl) (h1 : X.env.scope = psc := by rfl) (h2 : X.N = PN := by rfl) (S : compOkB scope psc N PN k cap = true := by decide +kernel)
    (hsw : swapsWith (.ListComp elt [⟨tg, iter, ifs, 0⟩] scope pos) (some (.Name y py)) spos.line X.env = pure true := by rfl) (hs : ∀ x, foldedSetIterable iter X.env x = pure x := by intro _; rfl) :
    PS X (.Assign [.Name y py] (.ListComp elt [⟨tg, iter, ifs, 0⟩] scope pos) spos) (tAsg (tComp wi tt tc te cap) (gName i)) := ps_setC hc (by rw [h1, h2]; exact compOk_of S) hN hiy hy hi hg ht he hsw hs
end
structure Dn (P : Program) (w : World) (K : PySem.W.Frag) (mg : Str → Option Value) (base : Heap) (x : Str) (n : Nat) (ps : List Str) (sp : Sp) : Prop where
  ex : ∃ f fd, FnOk P w K mg base CX0 n f fd ps sp ∧ mg x = some (.ref f) ∧ PySem.W.keepIn K (.ref f) = true ∧ Binds K fd ps []
structure DefAt (K : PySem.W.Frag) (mg : Str → Option Value) (x : Str) (st : Stmt) (ps : List Str) : Prop where
  ex : ∃ f fd, Fun K x x st f fd ∧ mg x = some (.ref f) ∧ Binds K fd ps []
section
variable {P : Program} {w : World} {K : PySem.W.Frag} {mg : Str → Option Value} {base : Heap}
theorem DefAt.ok {x : Str} {st : Stmt} {N ps : List Str} {k : Nat} {sp : Sp} (F : DefAt K mg x st ps) (S : FnScope N ps (defScope st)) (len : ∀ vs H Q E, sp vs H Q E → vs.length = ps.length)
    (hbody : ∀ (f : Addr) (cdv : Value) (A : Around) (outer : List Env) (s : Shared) (H : Hp) (vs : List V) (Q : VK) (E : XK), Room k (A.deeper (envOfC x (defScope st) s.heap.objs.size f cdv)) → sp vs H Q E →
      ∃ t, PSs (cxOf CX0 P w K mg base N x (defScope st) f cdv A outer s H E).nox (defBody st) t ∧ t { nx := fun _ H' => Q .non H', rt := Q } (start N vs) H) : Dn P w K mg base x (k + 1) ps sp := by
  obtain ⟨f, fd, F, hm, hb⟩ := F.ex
  exact ⟨f, fd, F.ok S len fun cdv A outer s H vs Q E => hbody f cdv A outer s H vs Q E, hm, F.kp, hb⟩
end
theorem pe_dn {X : Cx} {x : Str} {n k : Nat} {ps : List Str} {sp : Sp} {e : Expr} {es : List Expr} {t : TA} {p pos : Pos} (D : Dn X.prog X.w X.K X.mg X.base x n ps sp) (hr : Room k X.A) (ha : PA X (e :: es) t) (hk : n ≤ k := by decide) (hg : Gl X x := by rfl)
    (hdb : (x == ("__debug__" : Str)) = false := by decide) (he : starEach (e :: es) X.env = (false, eval e X.env) :: starEach es X.env := by rfl) (hpl : (backTo pos (starEach es X.env)).any (·.1) = false := by rfl) :
    PE X (.Call (.Name x p) (e :: es) [] pos) (tCall sp [] E0 t) := by
  obtain ⟨f, fd, F, hm, kp, hb⟩ := D.ex
  exact pe_call F (hr.mono hk) hg hm kp hb .nil pass0 ha hdb he hpl
theorem hu_n {A : Around} {k : Nat} (hr : Room k A) (n : Nat) (h : n ≤ 64 := by decide) : A.units + n < cLine := Nat.lt_of_le_of_lt (Nat.add_le_add_left h _) hr.units
def tSeqM (t u : TS) : TS := fun D σ H => ∃ M : St → Hp → Prop, t { D with nx := M } σ H ∧ ∀ σ' H', M σ' H' → u D σ' H'
theorem pss_cut {X : Cx} {st : Stmt} {rest : List Stmt} {t u : TS} (h1 : PS X st t) (h2 : PSs X rest u) : PSs X (st :: rest) (tSeqM t u) := by
  intro pins s σ H D I h
  obtain ⟨M, h, k⟩ := h
  refine wpAny_execs_cons (thn (h1 pins s σ H { D with nx := M } I h) fun f s1 q => ?_)
  cases f with
  | next =>
    obtain ⟨σ', H', I', q⟩ := q
    exact h2 pins s1 σ' H' D I' (k σ' H' q)
  | ret v => exact q
  | brk => exact q
  | cont => exact q
def newp (H H' : Hp) : Hp := fun b => match H b with
  | none => H' b
  | some _ => none
theorem newp_same (H H' : Hp) : Same (newp H H') H' := fun b o e => by
  unfold newp at e
  cases q : H b with
  | none => rw [q] at e; exact e
  | some u => rw [q] at e; cases e
theorem newp_none {H H' : Hp} {b : Addr} {o : HO} (h : H b = some o) : newp H H' b = none := by unfold newp; rw [h]
theorem newp_at {H H' : Hp} {b : Addr} (h : H b = none) : newp H H' b = H' b := by unfold newp; rw [h]
theorem newp_mono {H H1 H' H2 : Hp} (a : Same H H1) (b : Same H' H2) : Same (newp H1 H') (newp H H2) := fun c o e => by
  cases q : H1 c with
  | some u => rw [newp_none q] at e; cases e
  | none =>
    rw [newp_at q] at e
    rw [newp_at (a.free q)]
    exact b c o e
theorem same_upd {H : Hp} {p : Addr} (h : H p = none) (o : HO) : Same H (upd H p o) := fun b u q => by rw [upd_ne (ne_of_none q h)]; exact q
theorem Same.put {Hs H : Hp} {p : Addr} (s : Same Hs H) (h : Hs p = none) (o : HO) : Same Hs (upd H p o) := fun b u q => by
  rw [upd_ne (ne_of_none q h)]; exact s b u q
theorem small {n m : Nat} (h : n ≤ m) (hm : m ≤ 1000000 := by decide) : n ≤ sizeLine := Nat.le_trans h (Nat.le_trans hm (by decide))
theorem comp_yes {x : V} {H : Hp} {f : List V → St} {A B : List V → Hp → Prop} (h : A [x] H) : ttName x H fun ws => tYes (f ws) H fun b H4 => if b = true then A ws H4 else B ws H4 := by
  show if true = true then A [x] H else B [x] H
  rw [if_pos rfl]; exact h
theorem comp_yesT {K : PySem.W.Frag} {n : Nat} {a : Addr} {xs : List V} {H : Hp} {f : List V → St} {A B : List V → Hp → Prop} (hq : SqT K H a xs) (hn : xs.length = n) (h : A xs H) : ttTup K n (.ref a) H fun ws => tYes (f ws) H fun b H4 => if b = true then A ws H4 else B ws H4 := by
  refine ⟨a, xs, rfl, hq, hn, ?_⟩
  show if true = true then A xs H else B xs H
  rw [if_pos rfl]; exact h
end L2
set_option Elab.async false
set_option linter.all false
set_option maxRecDepth 100000
set_option maxHeartbeats 1000000
namespace L2
open PySem PySem.Spec PyProof.Rows
theorem vals_of : ∀ {vs : List Value} {ns : List Int}, IntsAre vs ns → Vals (ns.map V.int) vs
  | _, _, .nil => .nil
  | _, _, .cons _ t r => .cons ⟨t, rfl⟩ (vals_of r)
section
variable {prog : Program} {w : World} {A : Around} {E : Value → Shared → Prop} {s : Shared} {T : String} {r d : Addr} {n : Nat} {P : Nat → Value → Prop} {OK : Heap → Prop} {Q : Value → Shared → Prop}
end
section
variable {X : Cx}
end
end L2
set_option Elab.async false
set_option linter.all false
set_option maxRecDepth 100000
set_option maxHeartbeats 1000000
namespace L2
open PySem PySem.Spec PyProof.Rows
def Ris (xs : List Nat) : Prop := xs.Pairwise (· < ·)
theorem Ris.lt {xs : List Nat} (h : Ris xs) {i j a b : Nat} (hij : i < j) (ha : xs[i]? = some a) (hb : xs[j]? = some b) : a < b := by
  obtain ⟨h1, e1⟩ := List.getElem?_eq_some_iff.mp ha
  obtain ⟨h2, e2⟩ := List.getElem?_eq_some_iff.mp hb
  have := List.pairwise_iff_getElem.mp h i j h1 h2 hij
  rw [e1, e2] at this; exact this
theorem below_go (xs : Array Nat) (hr : Ris xs.toList) (j : Nat) : ∀ (fuel lo hi : Nat), hi - lo ≤ fuel → lo ≤ hi → hi ≤ xs.size → (∀ (i v : Nat), i < lo → xs.toList[i]? = some v → v < j) → (∀ (i v : Nat), hi ≤ i → xs.toList[i]? = some v → j ≤ v) →
    SetTable.below.go xs j fuel lo hi ≤ xs.size ∧ (∀ (i v : Nat), i < SetTable.below.go xs j fuel lo hi → xs.toList[i]? = some v → v < j) ∧ ∀ (i v : Nat), SetTable.below.go xs j fuel lo hi ≤ i → xs.toList[i]? = some v → j ≤ v
  | 0, lo, hi, h1, h2, h3, h4, h5 => by
    have e : lo = hi := by omega
    subst e
    exact ⟨h3, h4, h5⟩
  | fuel + 1, lo, hi, h1, h2, h3, h4, h5 => by
    rw [SetTable.below.go]
    by_cases hl : lo < hi
    · rw [if_pos hl]
      have hm : (lo + hi) / 2 < xs.size := by (clear h1 h2 h4 h5; omega)
      have hg : xs.toList[(lo + hi) / 2]? = some (xs.getD ((lo + hi) / 2) j) := by
        rw [Array.getElem?_toList, Array.getElem?_eq_getElem hm]
        simp [Array.getD, hm]
      dsimp only
      by_cases hc : xs.getD ((lo + hi) / 2) j < j
      · rw [if_pos hc]
        refine below_go xs hr j fuel _ _ (by (clear h5 hl hm hc h3 h4 h2; omega)) (by (clear h1 h2 h3 h4 hm hc h5; omega)) h3 (fun i v hi' hv => ?_) h5
        by_cases e : i = (lo + hi) / 2
        · subst e; rw [hg] at hv; cases hv; exact hc
        · exact Nat.lt_trans (hr.lt (by (clear h1 h2 h3 h4 h5 hl hm hc; omega)) hv hg) hc
      · rw [if_neg hc]
        refine below_go xs hr j fuel _ _ (by (clear h5 hl hm hc h3 h4 h2; omega)) (by (clear h1 h2 h3 h4 hm hc h5; omega)) (by (clear h1 h2 h3 h4 h5 hl hc; omega)) h4 (fun i v hi' hv => ?_)
        by_cases e : i = (lo + hi) / 2
        · subst e; rw [hg] at hv; cases hv; (clear h1 h2 h3 h4 h5 hi' hl hm; omega)
        · have := hr.lt (by (clear h1 h2 h3 h4 h5 hl hm hc; omega) : (lo + hi) / 2 < i) hg hv; (clear h1 h2 h3 h4 h5 hl hi' e hm; omega)
    · rw [if_neg hl]
      have e : lo = hi := by (clear h3 h4 h1 h5; omega)
      subst e
      exact ⟨h3, h4, h5⟩
theorem below_spec (xs : Array Nat) (hr : Ris xs.toList) (j : Nat) : SetTable.below xs j ≤ xs.size ∧ (∀ (i v : Nat), i < SetTable.below xs j → xs.toList[i]? = some v → v < j) ∧ ∀ (i v : Nat), SetTable.below xs j ≤ i → xs.toList[i]? = some v → j ≤ v :=
  below_go xs hr j xs.size 0 xs.size (by omega) (Nat.zero_le _) (Nat.le_refl _) (fun i v h => by omega) (fun i v h e => by
    have := (List.getElem?_eq_some_iff.mp e).1
    rw [Array.length_toList] at this; omega)
theorem ris_insert {xs : Array Nat} (hr : Ris xs.toList) {j : Nat} (hn : xs[SetTable.below xs j]? ≠ some j) : Ris (SetTable.insertAt xs (SetTable.below xs j) j).toList := by
  obtain ⟨h1, h2, h3⟩ := below_spec xs hr j
  rw [SetTable.toList_insertAt]
  have hlt : ∀ a ∈ xs.toList.take (SetTable.below xs j), a < j := fun a ha => by
    obtain ⟨i, hi⟩ := List.getElem?_of_mem ha
    have hi' : i < SetTable.below xs j := by
      have := (List.getElem?_eq_some_iff.mp hi).1
      rw [List.length_take] at this; omega
    rw [List.getElem?_take_of_lt hi'] at hi
    exact h2 i a hi' hi
  have hgt : ∀ b ∈ xs.toList.drop (SetTable.below xs j), j < b := fun b hb => by
    obtain ⟨i, hi⟩ := List.getElem?_of_mem hb
    rw [List.getElem?_drop] at hi
    have hle := h3 _ b (Nat.le_add_right _ i) hi
    rcases Nat.lt_or_eq_of_le hle with z | z
    · exact z
    · subst z
      exfalso
      cases i with
      | zero => rw [Nat.add_zero, Array.getElem?_toList] at hi; exact hn hi
      | succ i =>
        obtain ⟨u, hu⟩ : ∃ u, xs.toList[SetTable.below xs j]? = some u := by
          have hs := (List.getElem?_eq_some_iff.mp hi).1
          have : SetTable.below xs j < xs.toList.length := by (clear hn h1 h2 h3 hlt hle; omega)
          exact ⟨xs.toList[SetTable.below xs j], by simp⟩
        have a := h3 _ u (Nat.le_refl _) hu
        have b := hr.lt (by omega : SetTable.below xs j < SetTable.below xs j + (i + 1)) hu hi
        omega
  refine List.pairwise_append.mpr ⟨hr.sublist (List.take_sublist _ _), List.pairwise_cons.mpr ⟨hgt, hr.sublist (List.drop_sublist _ _)⟩, fun a ha b hb => ?_⟩
  rcases List.mem_cons.mp hb with rfl | hb
  · exact hlt a ha
  · exact Nat.lt_trans (hlt a ha) (hgt b hb)
structure Tab (led : Bool) (t : SetTable) : Prop where
  led : t.led = led
  dum : t.dummies = #[]
  ris : Ris t.place.toList
theorem Tab.standIn {led : Bool} {t : SetTable} (h : Tab led t) (n : Nat) : Tab led (t.standIn n) := ⟨h.led, rfl, by
  show Ris (Array.range n).toList
  rw [Array.toList_range]
  exact List.pairwise_lt_range⟩
theorem has_nil (j : Nat) : SetTable.has #[] j = false := by
  unfold SetTable.has
  simp
theorem slot_eq (t : SetTable) (j : Nat) : t.slot j = if (t.place[SetTable.below t.place j]? == some j) = true then .live (SetTable.below t.place j) else if SetTable.has t.dummies j = true then .dummy else .empty := rfl
theorem probe_free {t : SetTable} (hd : t.dummies = #[]) (f : Nat → Int) (h : Int) : ∀ (fuel : Nat) (p : SetTable.Probe) (j : Nat) (d : Option Nat), p.dummy = none → SetTable.probe.go t f h fuel p = some (.empty j d) → d = none ∧ t.place[SetTable.below t.place j]? ≠ some j
  | 0, p, j, d, _, e => by rw [SetTable.probe.go] at e; cases e
  | fuel + 1, p, j, d, hp, e => by
    rw [SetTable.probe.go] at e
    have hadv : (t.advance p).dummy = none := by
      unfold SetTable.advance
      split
      · exact hp
      · exact hp
    split at e
    · rename_i hs
      cases e
      refine ⟨hp, fun hc => ?_⟩
      rw [slot_eq, hc] at hs
      simp at hs
    · rename_i hs
      rw [slot_eq, hd, has_nil] at hs
      exfalso
      by_cases hb : (t.place[SetTable.below t.place p.j]? == some p.j) = true
      · rw [if_pos hb] at hs; cases hs
      · rw [if_neg hb] at hs; simp at hs
    · split at e
      · cases e
      · exact probe_free hd f h fuel _ j d hadv e
theorem Tab.layNew {led : Bool} {t : SetTable} (T : Tab led t) (es : Array (Int × Value)) (h : Int) (x : Value) : Tab led (layNew t es h x).2.1 := by
  unfold PySem.layNew
  cases e : t.freeSlot h with
  | none => exact T.standIn _
  | some sw =>
    obtain ⟨slot, wd⟩ := sw
    dsimp only
    have key : Tab led (t.put slot).1 := by
      have hne : t.place[SetTable.below t.place slot]? ≠ some slot := by
        unfold SetTable.freeSlot at e
        split at e
        · rename_i j d hp
          cases e
          unfold SetTable.probe at hp
          obtain ⟨e1, e2⟩ := probe_free T.dum _ _ _ _ _ _ rfl hp
          subst e1
          exact e2
        · cases e
      refine ⟨T.led, ?_, ris_insert T.ris hne⟩
      show (if SetTable.has t.dummies slot then _ else t.dummies) = #[]
      rw [T.dum, has_nil]; rfl
    unfold SetTable.orStandIn
    split
    · exact key
    · exact key.standIn _
theorem filterMap_range_ris (f : Nat → Option Nat) (n : Nat) : Ris (((List.range n).filterMap fun j => (f j).map fun k => (j, k)).map (·.1)) := by
  have : Ris (((List.range n).filterMap fun j => (f j).map fun k => (j, k)).map (·.1)) := by
    have e : ((List.range n).filterMap fun j => (f j).map fun k => (j, k)).map (·.1) = (List.range n).filter fun j => (f j).isSome := by
      induction (List.range n) with
      | nil => rfl
      | cons a r ih =>
        cases h : f a with
        | none => simp [List.filterMap_cons, h, ih]
        | some k => simp [List.filterMap_cons, h, ih]
    rw [e]
    exact List.pairwise_lt_range.sublist List.filter_sublist
  exact this
theorem Tab.relay {led : Bool} {t : SetTable} (T : Tab led t) (es : Array (Int × Value)) (wanted : Nat) : Tab led (relayAll t es wanted).2.1 := by
  unfold relayAll
  cases e : t.relaid (es.map (·.1)) wanted with
  | none => exact T.standIn _
  | some q =>
    obtain ⟨t', order⟩ := q
    dsimp only
    split
    · unfold SetTable.relaid SetTable.laid at e
      cases e2 : SetTable.layClean (SetTable.sizeAbove wanted - 1) (es.map (·.1)) with
      | none => rw [e2] at e; cases e
      | some owner =>
        rw [e2] at e
        cases e
        refine ⟨T.led, rfl, ?_⟩
        have := filterMap_range_ris (fun j => owner.getD j none) (SetTable.sizeAbove wanted - 1 + 1)
        simpa using this
    · exact T.standIn _
end L2
set_option Elab.async false
set_option linter.all false
set_option maxRecDepth 100000
set_option maxHeartbeats 2000000
namespace L2
open PySem PySem.Spec PyProof.Rows
def SetI (P : Program) (w : World) (h : Heap) (a : Addr) (led : Bool) (ks : List Int) : Prop :=
  ∃ (o : Obj) (es : Array (Int × Value)) (ep : Nat) (t : SetTable) (ns : List Int), h.get? a = some o ∧ o.ExactSet ∧ o.data = .set es ep t ∧ ElemsOf (intKind P w) es.toList ∧ IntsAre (es.toList.map (·.2)) ns ∧ ns.Nodup ∧ (∀ k, k ∈ ns ↔ k ∈ ks) ∧
    es.size < scanBound ∧ t.fits es.size = true ∧ Tab led t
theorem SetI.keep {P : Program} {w : World} {h h' : Heap} {a : Addr} {led : Bool} {ks : List Int} (S : SetI P w h a led ks) (k : ∀ o, h.get? a = some o → h'.get? a = some o) : SetI P w h' a led ks := by
  obtain ⟨o, es, ep, t, ns, e, r⟩ := S
  exact ⟨o, es, ep, t, ns, k o e, r⟩
theorem ints_perm : ∀ {l l' : List Value} {ns : List Int}, l'.Perm l → IntsAre l ns → ∃ ns', IntsAre l' ns' ∧ ns'.Perm ns := by
  intro l l' ns hp
  induction hp generalizing ns with
  | nil => intro h; exact ⟨ns, h, .refl _⟩
  | cons x _ ih =>
    intro h
    cases h with
    | cons n t r =>
      obtain ⟨ns', h1, h2⟩ := ih r
      exact ⟨n :: ns', .cons n t h1, h2.cons n⟩
  | swap x y l =>
    intro h
    cases h with
    | cons n t r =>
      cases r with
      | cons m u r => exact ⟨m :: n :: _, .cons m u (.cons n t r), .swap n m _⟩
  | trans _ _ ih1 ih2 =>
    intro h
    obtain ⟨n1, a1, a2⟩ := ih2 h
    obtain ⟨n2, b1, b2⟩ := ih1 a1
    exact ⟨n2, b1, b2.trans a2⟩
theorem ints_map_perm {l l' : List (Int × Value)} {ns : List Int} (hp : l'.Perm l) (h : IntsAre (l.map (·.2)) ns) : ∃ ns', IntsAre (l'.map (·.2)) ns' ∧ ns'.Perm ns := ints_perm (hp.map _) h
theorem nodup_sub : ∀ (l1 l2 : List Int), l1.Nodup → (∀ x ∈ l1, x ∈ l2) → l1.length ≤ l2.length
  | [], _, _, _ => Nat.zero_le _
  | x :: l1, l2, hn, hs => by
    have hx : x ∈ l2 := hs x List.mem_cons_self
    have hxn := (List.nodup_cons.mp hn).1
    have := nodup_sub l1 (l2.erase x) (List.nodup_cons.mp hn).2 fun y hy => (List.mem_erase_of_ne (fun e => by subst e; exact hxn hy)).mpr (hs y (List.mem_cons_of_mem _ hy))
    rw [List.length_erase_of_mem hx] at this
    have hp : 0 < l2.length := List.length_pos_of_mem hx
    rw [List.length_cons]; omega
theorem ints_snoc {k : Int} {t : Tok} : ∀ {vs : List Value} {ns : List Int}, IntsAre vs ns → IntsAre (vs ++ [.int k t]) (ns ++ [k])
  | _, _, .nil => .cons k t .nil
  | _, _, .cons n u r => .cons n u (ints_snoc r)
theorem isInt_mem {P : Program} {w : World} {k : Int} : ∀ {l : List (Int × Value)} {ns : List Int}, IntsAre (l.map (·.2)) ns → ((∃ e ∈ l, (intKind P w).is k e.2 = true) ↔ k ∈ ns)
  | [], _, h => by cases h; simp
  | (hh, v) :: l, _, h => by
    cases h with
    | cons n t r =>
      have ih := isInt_mem (P := P) (w := w) (k := k) r
      rw [List.mem_cons, ← ih]
      constructor
      · rintro ⟨e, he, q⟩
        rcases List.mem_cons.mp he with rfl | he
        · obtain ⟨u, z⟩ := Value.isInt_shape (k := k) (v := Value.int n t) q
          injection z with z _
          exact .inl z.symm
        · exact .inr ⟨e, he, q⟩
      · rintro (rfl | ⟨e, he, q⟩)
        · exact ⟨_, List.mem_cons_self, by simp [intKind, Value.isInt]⟩
        · exact ⟨e, List.mem_cons_of_mem _ he, q⟩
theorem stored {h : Heap} {a : Addr} {ob : Obj} {es : Array (Int × Value)} {ep : Nat} {t : SetTable} (ho : h.get? a = some ob) (hd : ob.data = .set es ep t) (es2 : Array (Int × Value)) (t2 : SetTable) :
    (h.update a (Obj.putSet es2 t2)).get? a = some { ob with data := .set es2 (ep + 1) t2 } := by
  have z := Heap.get?_update_self (Obj.putSet es2 t2) ho (by rw [putSet_of es2 t2 hd]; rfl)
  rwa [putSet_of es2 t2 hd] at z
section
variable {P : Program} {w : World} {A : Around} {E : Value → Shared → Prop}
theorem add_tail {s : Shared} {g : Bool → Sem Unit} (hg : ∀ (b : Bool) (s1 : Shared) (Q1 : Unit → Shared → Prop), Q1 () s1 → wpAny (model P w) A (g b) Q1 E s1) {a : Addr} {ob : Obj} {es : Array (Int × Value)} {ep : Nat} {t : SetTable}
    (ho : s.heap.get? a = some ob) (hex : ob.ExactSet) (hd : ob.data = .set es ep t) {led : Bool} {ks : List Int} {es1 : Array (Int × Value)} {t2 : SetTable} {ns : List Int} (hel : ElemsOf (intKind P w) es1.toList)
    (hi : IntsAre (es1.toList.map (·.2)) ns) (nd : ns.Nodup) (hm : ∀ k, k ∈ ns ↔ k ∈ ks) (hb : es1.size < scanBound) (hf : t2.fits es1.size = true) (hT : Tab led t2) {wd : Bool} {R : Option Bool → Shared → Prop}
    (h : ∀ h', Heap.SameBut a s.heap h' → SetI P w h' a led ks → R (some true) { s with heap := h' }) :
    wpAny (model P w) A (storeSet a es1 t2 >>= fun _ => if (!wd && t2.tooFull) = true then (g (relayAll t2 es1 (SetTable.grown es1.size)).2.2 >>= fun _ =>
      storeSet a (relayAll t2 es1 (SetTable.grown es1.size)).1 (relayAll t2 es1 (SetTable.grown es1.size)).2.1 >>= fun _ => pure (some true)) else pure (some true)) R E s := by
  refine wpAny_bind (wpAny_storeSet_of ho hd ?_ (fits_of_scanBound hb))
  have g1 := stored ho hd es1 t2
  have sb := Heap.SameBut.update s.heap a (Obj.putSet es1 t2)
  have S1 : SetI P w (s.heap.update a (Obj.putSet es1 t2)) a led ks := ⟨_, es1, ep + 1, t2, ns, g1, hex, rfl, hel, hi, nd, hm, hb, hf, hT⟩
  by_cases hc : (!wd && t2.tooFull) = true
  · rw [if_pos hc]
    have pm := relayAll_perm t2 es1 (SetTable.grown es1.size)
    have ft := relayAll_fits t2 es1 (SetTable.grown es1.size)
    have T3 := hT.relay es1 (SetTable.grown es1.size)
    generalize relayAll t2 es1 (SetTable.grown es1.size) = q at pm ft T3 ⊢
    obtain ⟨es2, t3, gv⟩ := q
    dsimp only at pm ft T3 ⊢
    obtain ⟨ns2, i2, p2⟩ := ints_map_perm pm hi
    have sz : es2.size = es1.size := by rw [← Array.length_toList, pm.length_eq, Array.length_toList]
    have hb2 : es2.size < scanBound := by omega
    refine wpAny_bind (hg _ _ _ (wpAny_bind (wpAny_storeSet_of g1 rfl ?_ (fits_of_scanBound hb2))))
    have g2 := stored g1 rfl es2 t3
    refine wpAny_pure (h _ (sb.trans (Heap.SameBut.update _ a _)) ⟨_, es2, ep + 1 + 1, t3, ns2, g2, hex, rfl, hel.perm pm, i2, p2.symm.nodup nd, fun k => (p2.mem_iff).trans (hm k), hb2, ft, T3⟩)
  · rw [if_neg hc]
    exact wpAny_pure (h _ sb S1)
theorem set_add {s : Shared} {a : Addr} {led : Bool} {ks : List Int} {k : Int} {tk : Tok} {Q : Bool → Shared → Prop} (S : SetI P w s.heap a led ks) (hroom : ks.length + 1 < scanBound)
    (h : ∀ b h', Heap.SameBut a s.heap h' → SetI P w h' a led (ks ++ [k]) → Q b { s with heap := h' }) :
    wpAny (model P w) A (setAddHashed a (.int k tk) ((intKind P w).hash k)) Q E s := by
  obtain ⟨ob, es, ep, t, ns, ho, hex, hd, hel, hi, nd, hm, hb, hf, hT⟩ := S
  have hkey : (intKind P w).is k (.int k tk) = true := intKind_is _ _ _ _
  have hsc : (Value.int k tk).scannable = true := rfl
  have hsub : ns.length ≤ ks.length := nodup_sub ns ks nd fun x hx => (hm x).mp hx
  have hes : es.size = ns.length := by
    have := hi.length
    rw [List.length_map, Array.length_toList] at this; exact this
  unfold setAddHashed setAddHashedIn
  refine wpAny_holding (wpAny_bind (wpAny_setState_of ho hd hf ?_))
  dsimp only
  rw [byScan_of hsc hb hel]
  simp only [↓reduceIte]
  unfold setAddByScan
  refine wpAny_bind (wpAny_bind (wpAny_rule (wpAny_bind (wpAny_setScan_of hkey ho hd hf hel ?_))))
  cases hr : List.findIdx? (fun e => (intKind P w).is k e.2) es.toList with
  | some j =>
    dsimp only
    obtain ⟨hj, hpj, _⟩ := List.findIdx?_eq_some_iff_getElem.mp hr
    have hin : k ∈ ns := (isInt_mem (P := P) (w := w) hi).mp ⟨es.toList[j], List.getElem_mem hj, hpj⟩
    refine wpAny_pure (wpAny_pure ?_)
    have z := h false s.heap (Heap.SameBut.refl a s.heap) ⟨ob, es, ep, t, ns, ho, hex, hd, hel, hi, nd, fun x => ?_, hb, hf, hT⟩
    · exact z
    · rw [List.mem_append, List.mem_singleton, hm x]
      exact ⟨.inl, fun q => q.elim id fun e => by subst e; exact (hm _).mp hin⟩
  | none =>
    dsimp only
    have hnin : k ∉ ns := fun hk => by
      obtain ⟨e, he, q⟩ := (isInt_mem (P := P) (w := w) hi).mpr hk
      have := List.findIdx?_eq_none_iff.mp hr e he
      rw [q] at this; cases this
    have hgw : ∀ (b : Bool) (s1 : Shared) (Q1 : Unit → Shared → Prop), Q1 () s1 → wpAny (model P w) A (match b with | true => rule "set.scan.the-table-gave-way" | false => pure ()) Q1 E s1 := fun b s1 Q1 hq => by
      cases b
      · exact wpAny_pure hq
      · exact wpAny_rule hq
    have pm := layNew_perm t es ((intKind P w).hash k) (.int k tk)
    have ft := layNew_fits t es ((intKind P w).hash k) (.int k tk)
    have T1 := hT.layNew es ((intKind P w).hash k) (.int k tk)
    generalize layNew t es ((intKind P w).hash k) (.int k tk) = q at pm ft T1 ⊢
    obtain ⟨es1, t1, wd, gv⟩ := q
    dsimp only at pm ft T1 ⊢
    rw [Array.toList_push] at pm
    have hel1 : ElemsOf (intKind P w) es1.toList := (hel.push hkey hsc).perm pm
    obtain ⟨ns1, i1, p1⟩ := ints_map_perm pm (ns := ns ++ [k]) (by rw [List.map_append]; exact ints_snoc hi)
    have nd1 : ns1.Nodup := p1.symm.nodup (List.nodup_append.mpr ⟨nd, by simp, fun x hx y hy => by
      have : y = k := by simpa using hy
      subst this
      exact fun e => hnin (e ▸ hx)⟩)
    have hm1 : ∀ x, x ∈ ns1 ↔ x ∈ ks ++ [k] := fun x => by rw [p1.mem_iff, List.mem_append, List.mem_append, hm x]
    have sz1 : es1.size = es.size + 1 := by rw [← Array.length_toList, pm.length_eq, List.length_append, Array.length_toList]; rfl
    have hb1 : es1.size < scanBound := by omega
    refine wpAny_bind (hgw _ _ _ ?_)
    have fin : ∀ h', Heap.SameBut a s.heap h' → SetI P w h' a led (ks ++ [k]) → Q true { s with heap := h' } := fun h' sb S' => h true h' sb S'
    split
    · refine wpAny_bind ?_
      rw [hashByValue_scannable 8 hsc]
      refine wpAny_pure ?_
      have e1 : plainKind (Value.int k tk) = true := rfl
      rw [e1]
      refine add_tail (g := fun b => match b with | true => rule "set.scan.the-table-gave-way" | false => pure ()) hgw ho hex hd hel1 i1 nd1 hm1 hb1 ft T1 fun h' sb S' => ?_
      exact wpAny_pure (fin h' sb S')
    · refine wpAny_bind (wpAny_pure ?_)
      refine add_tail (g := fun b => match b with | true => rule "set.scan.the-table-gave-way" | false => pure ()) hgw ho hex hd hel1 i1 nd1 hm1 hb1 ft T1 fun h' sb S' => ?_
      exact wpAny_pure (fin h' sb S')
end
end L2
set_option Elab.async false
set_option linter.all false
set_option maxRecDepth 100000
set_option maxHeartbeats 4000000
namespace PySem
section
variable {prog : Program} {w : World} {A : Around} {E : Value → Shared → Prop} {s : Shared}
theorem own_set_new (v : Value) {Qn : Value → Shared → Prop}
    (h : Qn (.ref s.heap.objs.size) { s with heap := s.heap.push { cls := .type "set", dict := none, data := .set #[] 0 (.fresh 0 0 (!w.params.followText "set-order")) } }) :
    codeAny (model prog w) A (.call (.builtin "set.__new__") ⟨[.type "set", v], []⟩) (wants Qn E) s := by
  refine codeAny_of_tree ?_
  show wpAny _ A.in1 (checkBuiltinCall "set.__new__" ⟨[.type "set", v], []⟩ >>= fun _ => again (.builtin "set.__new__" ⟨[.type "set", v], []⟩)) _ _ s
  refine wpAny_bind (wpAny_of_eq (F.newCall_set_1 v) (wpAny_pure ⟨plainId_quiet F.plain_set_new _, codeAny_builtin F.entry_set_new ?_⟩))
  rw [Around.under_plainId F.plain_set_new _]
  unfold Builtin.«set.__new__» Builtin.Frozenset.newClass
  have hsub := sub_set_self
  obtain ⟨hp, g, d, tk, os⟩ := s
  dsimp only
  wp_walk
  refine wpAny_askSetting (wpAny_pure ?_)
  dsimp only
  simp only [newObj]
  refine wpAny_bind (wpAny_alloc (wpAny_pure ?_))
  exact wpAny_pure h
end
end PySem
namespace L2
open PySem PySem.Spec PyProof.Rows
section
variable {P : Program} {w : World} {A : Around} {R : Result → Shared → Prop} {I : Addr} {fp wr : List Addr} {G : Array GenState → Array GenState → Prop} {n : Nat} {Pv : Nat → Value → Prop} {St : Nat → Shared → Prop}
theorem set_fill (W : WalksS P w A.in1 I fp wr G n Pv St) (a : Addr) (hSf : a ∉ fp) (led : Bool) (val : Nat → Int) (hval : ∀ i v, Pv i v → ∃ t, v = .int (val i) t) (hb : n + 1 < scanBound) :
    ∀ (k i : Nat) (s : Shared), n - i = k → i ≤ n → St i s → SetI P w s.heap a led ((List.range i).map val) →
      (∀ s', Moved (a :: wr) G s s' → SetI P w s'.heap a led ((List.range n).map val) → R (.ok (.ret .none)) s') →
      codeAny (model P w) A (.builtin "set.update.loop" ⟨[.ref a, .ref I], []⟩) R s := by
  have hSw : a ∉ wr := fun h => hSf (W.sub _ h)
  have hsub : ∀ b ∈ wr, b ∈ a :: wr := fun b hb => List.mem_cons_of_mem _ hb
  intro k
  induction k with
  | zero =>
    intro i s hk hi hst hS hR
    obtain rfl : i = n := by omega
    refine codeAny_builtin F.entry_set_update_loop ?_
    rw [Around.under_plainId F.plain_set_update_loop _]
    show wpAny _ A.in1 (pyNext (.ref I) >>= _) _ _ s
    refine wpAny_bind (W.done s _ _ hst fun s' hm => ?_)
    show wpAny _ A.in1 (ret Value.none) _ _ s'
    exact wpAny_pure (hR s' (hm.mono hsub) (hS.keep fun o e => hm.heap a o hSw e))
  | succ k ih =>
    intro i s hk hi hst hS hR
    have hlt : i < n := by omega
    refine codeAny_builtin F.entry_set_update_loop ?_
    rw [Around.under_plainId F.plain_set_update_loop _]
    show wpAny _ A.in1 (pyNext (.ref I) >>= _) _ _ s
    refine wpAny_bind (W.item i s _ _ hlt hst fun v s1 hP hst1 hm => ?_)
    obtain ⟨t, rfl⟩ := hval i v hP
    have S1 : SetI P w s1.heap a led ((List.range i).map val) := hS.keep fun o e => hm.heap a o hSw e
    show wpAny _ A.in1 (holding [Value.int (val i) t] (setAdd a (.int (val i) t)) >>= _) _ _ s1
    refine wpAny_bind (wpAny_holding ?_)
    unfold setAdd
    refine wpAny_holding (wpAny_bind ((intKind P w).pyHash (k := val i) (intKind_is _ _ _ _) ?_))
    refine set_add (s := { s1 with toks := s1.toks + 1 }) S1 (by rw [List.length_map, List.length_range]; omega) fun b h2 sb S2 => ?_
    have S3 : SetI P w h2 a led ((List.range (i + 1)).map val) := by
      rw [List.range_succ, List.map_append]; exact S2
    refine wpAny_pure ⟨plainId_quiet F.plain_set_update_loop _, ih (i + 1) _ (by omega) hlt (W.frame _ s1 _ _ hst1 (Nat.le_succ _) fun c hc o e => ?_) S3 fun s2 hm2 S4 => ?_⟩
    · rw [sb.2 c (fun z : c = a => hSf (by rw [← z]; exact hc))]; exact e
    · refine hR s2 (Moved.trans W.gtrans ((hm.mono hsub).then_heap (Nat.le_succ _) fun c o hc e => ?_) hm2) S4
      rw [sb.2 c (fun z : c = a => hc (by rw [z]; exact List.mem_cons_self))]; exact e
end
theorem setI_new {P : Program} {w : World} {h : Heap} {a : Addr} {led : Bool} (e : h.get? a = some { cls := .type "set", dict := none, data := .set #[] 0 (.fresh 0 0 led) }) : SetI P w h a led [] :=
  ⟨_, #[], 0, .fresh 0 0 led, [], e, ⟨rfl, rfl, rfl⟩, rfl, fun e he => by simp at he, .nil, List.nodup_nil, fun k => Iff.rfl, by decide, rfl, ⟨rfl, rfl, List.Pairwise.nil⟩⟩
end L2
namespace PySem
open L2
section
variable {prog : Program} {w : World} {A : Around} {E : Value → Shared → Prop} {s : Shared}
theorem own_set_list {l : Addr} {items : Array Value} {ns : List Int} {Q : Value → Shared → Prop} (hh : A.handled = none) (hl : s.heap.IsList l items) (hi : PyProof.Rows.IntsAre items.toList ns) (hb : items.size + 1 < scanBound)
    (h : ∀ (h' : Heap) (tk : Nat), SetI prog w h' s.heap.objs.size (!w.params.followText "set-order") ((List.range items.size).map fun i => ns.getD i 0) → (∀ b o, s.heap.get? b = some o → h'.get? b = some o) → Q (.ref s.heap.objs.size) { s with heap := h', toks := tk }) :
    wpAny (model prog w) A (call (.type "set") [.ref l]) Q E s := by
  obtain ⟨cc, tl, hmro⟩ := F.called_set.mro
  have hmade := F.called_set.made
  have hsub := F.called_set.sub
  refine wpAny_call (codeAny_of_tree ?_)
  show wpAny _ _ (callAny (.type "set") _) _ _ _
  refine wpAny_pure ⟨Code.quiet_builtin _ (by decide +kernel), codeAny_builtin F.entry_type_call ?_⟩
  rw [Around.under_plain (weight_type_call_type "set" [.ref l] []) rfl]
  have hnt := F.called_set.notType
  have hcc := F.called_set.canCreate
  have hct := F.typeCall_set_1 (.ref l)
  repeat (any_goals (first | assumption | wp_step))
  refine codeAny_mono (own_set_new (.ref l) (E := E) (Qn := fun ob s1 => ob = .ref s.heap.objs.size ∧ s1 = { s with heap := s.heap.push { cls := .type "set", dict := none, data := .set #[] 0 (.fresh 0 0 (!w.params.followText "set-order")) } }) ⟨rfl, rfl⟩) fun r s1 hr => ?_
  generalize hled : (!w.params.followText "set-order") = led at hr h
  cases r with
  | error e => exact hr
  | ok fl =>
    cases fl with
    | ret ob =>
      obtain ⟨rfl, rfl⟩ := hr
      have hS : (s.heap.push { cls := .type "set", dict := none, data := .set #[] 0 (.fresh 0 0 led) }).get? s.heap.objs.size = some { cls := .type "set", dict := none, data := .set #[] 0 (.fresh 0 0 led) } := Heap.get?_push_size _ rfl
      have hT : Shared.TypeIs { s with heap := s.heap.push { cls := .type "set", dict := none, data := .set #[] 0 (.fresh 0 0 led) } } (.ref s.heap.objs.size) "set" := ⟨_, hS, rfl⟩
      have hli := F.called_set.init.lookup
      have hbi := F.called_set.init.bind (.ref s.heap.objs.size)
      repeat (any_goals (first | assumption | wp_step))
      refine codeAny_mono (codeAny_call_builtin (R := wants (fun r s2 => r = .none ∧ ∃ h' tk, s2 = { s with heap := h', toks := tk } ∧ SetI prog w h' s.heap.objs.size led ((List.range items.size).map fun i => ns.getD i 0) ∧
          (∀ b o, s.heap.get? b = some o → h'.get? b = some o)) E) F.called_set.init.plain F.entry_set_init (check_set_init_1 hT ?_)) fun r2 s2 hr2 => ?_
      · obtain ⟨ol, hol, hcl, nl, hdl⟩ := hl
        obtain ⟨ocls, odict, odata, oslots⟩ := ol
        simp only at hcl hdl
        subst hcl; subst hdl
        have hol' : (s.heap.push { cls := .type "set", dict := none, data := .set #[] 0 (.fresh 0 0 led) }).get? l = some { cls := .type "list", dict := odict, data := .seq items nl, slots := oslots } := Heap.get?_push_of_some _ hol
        have hsls := F.sub_list_set
        have hslf := F.sub_list_frozenset
        have hnd : (Value.type "list" == Value.type "dict") = false := by decide
        have hl1 : (s.heap.push { cls := .type "set", dict := none, data := .set #[] 0 (.fresh 0 0 led) }).IsList l items := ⟨_, hol', rfl, nl, rfl⟩
        unfold Builtin.«set.__init__» noKeywords Builtin.Frozenset.updateFrom
        generalize hPI : pyIter = PI
        wp_walk
        subst hPI
        refine wpAny_pyIter_list hl1 ?_
        refine wpAny_bind (wpAny_runValue ?_)
        have hlS : l < s.heap.objs.size := Heap.lt_size hol
        have hh3 : A.in1.in1.in1.handled = none := by simp [hh]
        have hsz : (s.heap.push { cls := .type "set", dict := none, data := .set #[] 0 (.fresh 0 0 led) }).objs.size = s.heap.objs.size + 1 := Heap.size_push ..
        have hneI : l ≠ (s.heap.push { cls := .type "set", dict := none, data := .set #[] 0 (.fresh 0 0 led) }).objs.size := by rw [hsz]; exact Nat.ne_of_lt (Nat.lt_succ_of_lt hlS)
        have hSf : s.heap.objs.size ∉ [(s.heap.push { cls := .type "set", dict := none, data := .set #[] 0 (.fresh 0 0 led) }).objs.size, l] := by
          rw [hsz]
          intro z
          rcases List.mem_cons.mp z with z | z
          · exact absurd z (Nat.ne_of_lt (Nat.lt_succ_self _))
          · exact absurd (List.mem_singleton.mp z) (Nat.ne_of_gt hlS)
        have hval : ∀ (i : Nat) (v : Value), items[i]? = some v → ∃ t, v = .int ((fun i => ns.getD i 0) i) t := fun i v hv => PyProof.Rows.IntsAre.int_at hi i v (by rw [Array.getElem?_toList]; exact hv)
        refine set_fill ((Walks.list hh3 _ l hneI items).toS) s.heap.objs.size hSf led (fun i => ns.getD i 0) hval hb (items.size - 0) 0 _ (by omega) (Nat.zero_le _) ⟨⟨_, Heap.get?_push_size _ rfl, rfl, rfl⟩, hl1.push _⟩ ?hS0 ?hR
        case hS0 => exact setI_new (Heap.get?_push_of_some _ hS)
        case hR =>
          intro s' hm hS'
          obtain ⟨h', g', d', tk', os'⟩ := s'
          have eg : g' = s.gens := hm.gens
          have ed : d' = s.drawn := hm.drawn
          have eo : os' = s.os := hm.os
          subst eg; subst ed; subst eo
          show wpAny _ _ _ _ _ _
          refine wpAny_pure ?_
          show wpAny _ _ (ret Value.none) _ _ _
          refine wpAny_pure ⟨rfl, h', tk', rfl, hS', fun b o e => hm.heap b o (fun z => ?_) (Heap.get?_push_of_some _ (Heap.get?_push_of_some _ e))⟩
          have hlt := Heap.lt_size e
          rcases List.mem_cons.mp z with z | z
          · exact absurd z (Nat.ne_of_lt hlt)
          · have z' := List.mem_singleton.mp z
            rw [hsz] at z'
            exact absurd z' (Nat.ne_of_lt (Nat.lt_succ_of_lt hlt))
      · cases r2 with
        | error e => exact hr2
        | ok fl2 =>
          cases fl2 with
          | ret r =>
            obtain ⟨rfl, h', tk, rfl, hS', hk'⟩ := hr2
            repeat (any_goals (first | assumption | wp_step))
            exact h _ _ hS' hk'
          | _ => exact hr2.elim
    | _ => exact hr.elim
end
end PySem
set_option Elab.async false
set_option linter.all false
set_option maxRecDepth 100000
set_option maxHeartbeats 4000000
namespace PySem.F
end PySem.F
namespace L2
open PySem PySem.Spec PyProof.Rows
section
variable {P : Program} {w : World} {A : Around} {E : Value → Shared → Prop} {s : Shared}
end
end L2
set_option Elab.async false
set_option linter.all false
set_option maxRecDepth 100000
set_option maxHeartbeats 4000000
namespace L2
open PySem PySem.Spec PyProof.Rows
section
variable {P : Program} {w : World} {A : Around} {E : Value → Shared → Prop} {s : Shared}
end
end L2
set_option Elab.async false
set_option linter.all false
set_option maxRecDepth 100000
set_option maxHeartbeats 4000000
namespace L2
open PySem PySem.Spec PyProof.Rows
section
variable {P : Program} {w : World} {A : Around} {E : Value → Shared → Prop} {s : Shared}
theorem map_getD {α : Type} (d : α) (L : List α) : (List.range L.length).map (fun p => L.getD p d) = L := by
  refine List.ext_getElem? fun i => ?_
  by_cases h : i < L.length
  · simp [List.getD, h]
  · rw [List.getElem?_eq_none (by simp; omega), List.getElem?_eq_none (by omega)]
end
end L2
set_option Elab.async false
set_option linter.all false
set_option maxRecDepth 100000
set_option maxHeartbeats 4000000
namespace L2
open PySem PySem.Spec PyProof.Rows
section
variable {P : Program} {w : World} {A : Around} {E : Value → Shared → Prop} {s : Shared}
end
end L2
set_option Elab.async false
set_option linter.all false
set_option maxRecDepth 100000
set_option maxHeartbeats 1000000
namespace L2
open PySem PySem.Spec PyProof.Rows
theorem flat_ints (ns : List Int) : (ns.map V.int).all flatV = true := by rw [List.all_eq_true]; intro v hv; obtain ⟨i, _, rfl⟩ := List.mem_map.mp hv; rfl
theorem inV_ints (x : Int) (ns : List Int) : inV (.int x) (ns.map V.int) = decide (x ∈ ns) := by
  unfold inV
  rw [List.any_map, Bool.eq_iff_iff, decide_eq_true_iff, List.any_eq_true]
  constructor
  · rintro ⟨y, hy, e⟩
    have : y = x := by simpa [eqV] using e
    exact this ▸ hy
  · intro h
    exact ⟨x, h, by simp [eqV]⟩
theorem int_of_at {ns : List Int} {i : Nat} {x : V} (h : (ns.map V.int)[i]? = some x) : ∃ z, ns[i]? = some z ∧ x = .int z := by
  rw [List.getElem?_map] at h
  cases e : ns[i]? with
  | none => rw [e] at h; cases h
  | some z => rw [e] at h; exact ⟨z, rfl, (Option.some.inj h).symm⟩
theorem smlt {n m : Nat} (h : n ≤ m) (hm : m + 1 ≤ 1000000 := by decide) : n < sizeLine := small (n := n + 1) (m := m + 1) (Nat.succ_le_succ h) hm
theorem mem_take_snoc {xs : List Int} {i : Nat} {z : Int} (h : xs[i]? = some z) {x : Int} : x ∈ xs.take (i + 1) ↔ x ∈ xs.take i ∨ x = z := by
  rw [List.take_add_one, h]; simp
def del (H : Hp) (g : Addr) : Hp := fun b => if b = g then none else H b
theorem del_at {H : Hp} {g b : Addr} (h : b ≠ g) : del H g b = H b := if_neg h
theorem del_upd {H : Hp} {g : Addr} {o : HO} : del (upd H g o) g = del H g := by
  funext b
  by_cases e : b = g
  · unfold del; rw [if_pos e, if_pos e]
  · rw [del_at e, del_at e, upd_ne e]
theorem del_same (H : Hp) (g : Addr) : Same (del H g) H := fun b o e => by
  by_cases q : b = g
  · unfold del at e; rw [if_pos q] at e; cases e
  · rw [del_at q] at e; exact e
theorem del_mono {H H' : Hp} (s : Same H H') (g : Addr) : Same (del H g) (del H' g) := fun b o e => by
  by_cases q : b = g
  · unfold del at e; rw [if_pos q] at e; cases e
  · rw [del_at q] at e; rw [del_at q]; exact s b o e
def home (H H2 : Hp) (g : Addr) : Hp := newp H (del H2 g)
structure Bld {α : Type} (R : Rel α) (H H2 : Hp) (g : Addr) (xs : List α) : Prop where
  g0 : H g = none
  s : Same H H2
  ex : ∃ vs, H2 g = some (.lst vs) ∧ Paired (R (home H H2 g)) xs vs
section
variable {α : Type} {R : Rel α} {H H1 H2 H3 : Hp} {g : Addr} {xs : List α}
theorem Bld.start (s : Same H H1) (h : H1 g = none) : Bld R H (upd H1 g (.lst [])) g [] := ⟨s.free h, s.trans (same_upd h _), [], upd_same, .nil⟩
theorem Bld.go (m : MonoR R) (b : Bld R H H2 g xs) (s : Same H2 H3) : Bld R H H3 g xs := by
  obtain ⟨g0, s0, vs, h, p⟩ := b
  exact ⟨g0, s0.trans s, vs, s _ _ h, paired_mono m (newp_mono (Same.refl _) (del_mono s g)) p⟩
theorem Bld.push (m : MonoR R) (b : Bld R H H2 g xs) (s : Same H2 H3) {x : α} {v : V} (r : R (newp H2 H3) x v) : ∃ vs, H3 g = some (.lst vs) ∧ vs.length = xs.length ∧ Bld R H (upd H3 g (.lst (vs ++ [v]))) g (xs ++ [x]) := by
  have b3 := b.go m s
  obtain ⟨g0, s0, vs, h, p⟩ := b3
  refine ⟨vs, h, p.length.symm, g0, s0.put g0 _, vs ++ [v], upd_same, ?_⟩
  have e : home H (upd H3 g (.lst (vs ++ [v]))) g = home H H3 g := by unfold home; rw [del_upd]
  rw [e]
  refine Paired.app p (.cons (m.up (fun c o q => ?_) r) .nil)
  have hc2 : H2 c = none := by
    cases z : H2 c with
    | none => rfl
    | some u => rw [newp_none z] at q; cases q
  rw [newp_at hc2] at q
  have hcg : c ≠ g := fun z => by subst z; rw [b.ex.choose_spec.1] at hc2; cases hc2
  unfold home
  rw [newp_at (b.s.free hc2), del_at hcg]; exact q
theorem Bld.done (m : MonoR R) (b : Bld R H H2 g xs) : rLst R (newp H H2) xs (.ref g) := by
  obtain ⟨g0, s0, vs, h, p⟩ := b
  exact ⟨g, vs, rfl, by rw [newp_at g0]; exact h, paired_mono m (newp_mono (Same.refl _) (del_same _ _)) p⟩
theorem Bld.sq (b : Bld R H H2 g xs) : ∃ vs, H2 g = some (.lst vs) ∧ vs.length = xs.length := by
  obtain ⟨vs, h, p⟩ := b.ex
  exact ⟨vs, h, p.length.symm⟩
end
theorem newp_in {H H1 H2 : Hp} (s : Same H1 H2) : Same (newp H H1) (newp H H2) := newp_mono (Same.refl _) s
theorem atI_i {vs : List V} {z : Int} {v : V} (h0 : 0 ≤ z) (h : vs[z.toNat]? = some v) : atI vs z = some v := by
  have := atI_nat h
  rwa [Int.toNat_of_nonneg h0] at this
section
variable {X : Cx} {K : PySem.W.Frag} (hK : X.K = K)
include hK
theorem ixL : IxR X (rIxL K) := by subst hK; exact ix_list
theorem ixT : IxR X (rIxT K) := by subst hK; exact ix_tup
theorem slL : SlR X (rSlL K) := by subst hK; exact sl_list
theorem notInS : OpR X (compareOp .NotIn) (rIn K true) := by subst hK; exact op_notIn_seq
theorem clLen : CallR X (.builtin "len") (fun xs H Q => ∃ p ys, xs = [.ref p] ∧ (SqL K H p ys ∨ SqT K H p ys) ∧ Q (.int ys.length) H) := by subst hK; exact call_len_seq
theorem clIsi {T : String} : CallR X (.builtin "isinstance") (fun xs H Q => ∃ x S b, xs = [x, .ty T] ∧ kindV H x S ∧ PySem.W.kitOne K (.type S) (.type T) = some b ∧ Q (.bl b) H) := by subst hK; exact call_isi
theorem ptg2 {x y : Str} {p1 p2 pos : Pos} {k : Nat} (hc : X.calm = true) (hN : X.N.Nodup) (h0 : X.N[0]? = some x) (h1 : X.N[1]? = some y) (hx : X.env.scope.names.lookup x = some .local) (hy : X.env.scope.names.lookup y = some .local) :
    PTg X 2 (.Tuple [.Name x p1, .Name y p2] k pos) (ttTup K 2) := by subst hK; exact ptg_tup2 hc hN h0 h1 hx hy
end
theorem comp_listD {K : PySem.W.Frag} {a : Addr} {xs : List V} {tt : TTg} {tc : TT} {te : TE} {cap : List Nat} {σ : St} {H : Hp} {D : Addr → List V → Hp → Prop} (Pv : Nat → List V → Hp → Prop) (h0 : Pv 0 [] H) (hz : xs.length ≤ sizeLine) (hl : ∀ i ys H, i ≤ xs.length → Pv i ys H → SqL K H a xs ∧ ys.length ≤ i)
    (hs : ∀ i x ys H, xs[i]? = some x → Pv i ys H → tt x H fun ws => tc (ws.map some ++ capS σ cap) H fun b H4 => if b = true then te (ws.map some ++ capS σ cap) H4 fun y H5 => Pv (i + 1) (ys ++ [y]) H5 else Pv (i + 1) ys H4)
    (hd : ∀ ys H, Pv xs.length ys H → ∀ p, H p = none → D p ys H) :
    ∃ W : Nat → Nat → List V → Hp → Prop, (∃ m, W 0 m [] H) ∧ ∀ i m ys H2, W i m ys H2 →
    ((Itl K a).stop i H2 ∧ ys.length ≤ sizeLine ∧ ∀ p, H2 p = none → D p ys H2) ∨
    ((Itl K a).go i H2 ∧ ∃ N : List V → Hp → Prop, (∀ ys' H', N ys' H' → ys'.length ≤ sizeLine ∧ ∃ m', m' < m ∧ W (i + 1) m' ys' H') ∧
      ∀ x H3, (Itl K a).yld i H2 x H3 → tt x H3 fun ws => tc (ws.map some ++ capS σ cap) H3 fun b H4 =>
        if b = true then te (ws.map some ++ capS σ cap) H4 fun y H5 => N (ys ++ [y]) H5 else N ys H4) := by
  refine ⟨fun i m ys H => m = xs.length - i ∧ i ≤ xs.length ∧ Pv i ys H, ⟨xs.length, by simp, Nat.zero_le _, h0⟩, ?_⟩
  rintro i m ys H2 ⟨rfl, hi, p⟩
  obtain ⟨q, hy⟩ := hl i ys H2 hi p
  by_cases hlt : i < xs.length
  · refine .inr ⟨⟨xs, xs[i], q, by simp [hlt]⟩, Pv (i + 1), fun ys' H' r => ?_, fun x H3 y => ?_⟩
    · obtain ⟨_, h2⟩ := hl (i + 1) ys' H' hlt r
      exact ⟨by omega, xs.length - (i + 1), by omega, rfl, hlt, r⟩
    · obtain ⟨e, y⟩ := y
      subst e
      exact hs i x ys _ (y xs q) p
  · have e : i = xs.length := by omega
    subst e
    exact .inl ⟨⟨xs, q, Nat.le_refl _⟩, by omega, hd ys H2 p⟩
end L2
set_option Elab.async false
set_option linter.all false
set_option maxRecDepth 100000
set_option maxHeartbeats 1000000
namespace L2
open PySem PySem.Spec PyProof.Rows
theorem Inv.turnedL {X : Cx} {pins : List (Addr × Obj)} {σ : St} {H : Hp} {s : Shared} {h' : Heap} {t' : Nat} {ch : List Addr} (I : Inv X pins σ H s) (hf : ∀ b ∈ ch, FpOk X pins H b) (k : ∀ b o, b ∉ ch → s.heap.get? b = some o → h'.get? b = some o) :
    Inv X pins σ H { s with heap := h', toks := t' } := by
  have nit : ∀ b u, H b = some u → b ∉ ch := fun b u e z => by rw [(hf b z).1] at e; cases e
  refine I.step (g' := s.gens) (d' := s.drawn) (ch := ch) (fun b hb => ?_) (fun b o _ _ hc e _ => k b o hc e) (fun b o _ _ hc e _ => ⟨o.slots, k b o hc e⟩) (fun _ _ _ _ n => n)
    (fun b o hc e => ⟨o, k b o hc e⟩) (fun _ _ e => e) (fun _ _ _ e => e) (fun b ps e => ⟨#[], by rw [e]; simp⟩) (fun m hm => ?_) (fun b u e => ?_) I.bare
  · obtain ⟨_, h1, _, h3, h4, h5⟩ := hf b hb
    exact ⟨h3, h1, h4, h5⟩
  · obtain ⟨o, es, ep, ho, r⟩ := hm
    exact ⟨o, es, ep, k _ o (fun z => (hf _ z).2.1 rfl) ho, r⟩
  · refine (I.hok b u e).stay (fun c v hc q => k c v ?_ q) (fun _ q => q) fun _ _ q => q
    rcases hc with z | z
    · rw [z]; exact nit b u e
    · exact nit c _ z
theorem Inv.adopt {X : Cx} {pins : List (Addr × Obj)} {σ : St} {H : Hp} {s : Shared} {T : Addr} {o : HO} (I : Inv X pins σ H s) (hf : FpOk X pins H T) (new : ObjOk X.prog X.w (upd H T o) s.heap T o) : Inv X pins σ (upd H T o) s := by
  obtain ⟨h0, h1, h2, h3, h4, h5⟩ := hf
  refine I.step (h' := s.heap) (g' := s.gens) (d' := s.drawn) (t' := s.toks) (ch := [T]) (fun b hb => ?_) (fun b u _ _ _ e _ => e) (fun b u _ _ _ e _ => ⟨u.slots, e⟩) (fun b u hc e n => ?_)
    (fun b u _ e => ⟨u, e⟩) (fun b xs e => ?_) (fun b u v e => ?_) (fun b ps e => ⟨#[], ?_⟩) (fun m hm => hm) (I.hok.adopt h0 new) I.bare
  · have e : b = T := by simpa using hb
    subst e
    exact ⟨h3, h1, h4, h5⟩
  · rw [upd_ne (fun z => hc (by simp [z]))]; exact n
  · rw [upd_ne (ne_of_none e h0)]; exact e
  · rw [upd_ne (ne_of_none e h0)]; exact e
  · rw [upd_ne (ne_of_none e h0), e]; simp
def Ite (K : PySem.W.Frag) (a : Addr) : It :=
  ⟨fun i H => ∃ xs x, SqL K H a xs ∧ xs[i]? = some x, fun i H v H' => ∃ T x, v = .ref T ∧ H T = none ∧ (∀ xs, SqL K H a xs → xs[i]? = some x) ∧ H' = upd H T (.tup [.int (i : Nat), x]), fun i H => ∃ xs, SqL K H a xs ∧ xs.length ≤ i⟩
theorem turn_enum {P : Program} {w : World} {K : PySem.W.Frag} {elts : List Expr} {k : Nat} {pos : Pos} (a e it : Addr) (hne : e ≠ it) : Turn P w K (.Tuple elts k pos) (Ite K a) [e, it] e (fun i h => (∃ old, IsEnum h e it (i : Nat) old) ∧ h.IsListIter it a i) where
  mem := by simp
  obj := fun i h st b hb => by
    obtain ⟨⟨old, s1⟩, o, e1, c, d⟩ := st
    rcases List.mem_cons.mp hb with z | z
    · subst z
      exact ⟨_, s1, fun v z => by cases z⟩
    · have z : b = it := by simpa using z
      subst z
      exact ⟨o, e1, fun v z => by rw [d] at z; cases z⟩
  keep := fun i h h' st k => ⟨by obtain ⟨⟨old, s1⟩, _⟩ := st; exact ⟨old, k e (by simp) _ s1⟩, st.2.at fun o q => k it (by simp) o q⟩
  item := by
    intro X hP hw hK hc i pins s σ H E I hf st hg
    subst hP hw hK
    obtain ⟨xs, x, hq, hx⟩ := hg
    obtain ⟨its, rv, p, hz⟩ := I.list hq
    obtain ⟨u, hu, ru⟩ := rv.get hx
    obtain ⟨⟨old, s1⟩, s2⟩ := st
    have le : e < s.heap.objs.size := Heap.lt_size s1
    refine wpAny_pyNext_enum_item s1 s2 p.isList (x := u) (by simpa using hu) hne fun h' ho hi' ht hsz kp => ?_
    refine ⟨_, rfl, wpAny_letOwnedTupleGo_enum ho fun h2 he2 sb => ?_⟩
    have I1 : Inv X pins σ H { s with heap := h2, toks := s.toks + 1 } := I.turnedL (t' := s.toks + 1) (ch := [e, it]) hf fun b o hb q => by
      have hbe : b ≠ e := fun z => hb (by simp [z])
      have hbi : b ≠ it := fun z => hb (by simp [z])
      exact (sb.2 b hbe).trans (kp b o hbe hbi q)
    have hT : h2.get? s.heap.objs.size = some { cls := .type "tuple", data := .seq #[Value.int (i : Nat) s.toks, u] } := (sb.2 _ (Nat.ne_of_gt le)).trans ht
    have hfr : H s.heap.objs.size = none := I.hok.fresh (Nat.le_refl _)
    have vs2 : Vals [V.int (i : Nat), x] [Value.int (i : Nat) s.toks, u] := .cons ⟨s.toks, rfl⟩ (.cons ru .nil)
    have I2 := I1.adopt (o := .tup [.int (i : Nat), x]) (I.fpOk (Nat.le_refl _) hfr) ⟨(by show 2 ≤ sizeLine; decide), [Value.int (i : Nat) s.toks, u], vs2, ⟨_, hT, rfl, _, rfl⟩⟩
    have en : IsEnum h2 e it ((i + 1 : Nat) : Int) u := by
      have e1 : ((i + 1 : Nat) : Int) = ((i : Nat) : Int) + 1 := by omega
      rw [e1]; exact he2
    refine ⟨.ref s.heap.objs.size, _, I2, rfl, ⟨_, x, rfl, hfr, fun ys hy => by rw [I.list_inj hy hq]; exact hx, rfl⟩, ⟨⟨u, en⟩, hi'.at fun o q => (sb.2 it (Ne.symm hne)).trans q⟩, fun b hb => ?_⟩
    rw [upd_ne (fun z => ?_)]
    · exact (hf b hb).1
    · subst z
      rcases List.mem_cons.mp hb with z | z
      · exact absurd z (Nat.ne_of_gt le)
      · have z : s.heap.objs.size = it := by simpa using z
        obtain ⟨o, q, _⟩ := s2
        exact absurd z (Nat.ne_of_gt (Heap.lt_size q))
  done := by
    intro X hP hw hK hc i pins s σ H E I hf st hg
    subst hP hw hK
    obtain ⟨xs, hq, hx⟩ := hg
    obtain ⟨its, rv, p, hz⟩ := I.list hq
    obtain ⟨⟨old, s1⟩, s2⟩ := st
    have hl := rv.length
    refine wpAny_pyNext_enum_end (I.ok.hd hc) s1 s2 p.isList (by simp; omega) fun h' eb => ⟨rfl, ?_⟩
    exact I.turnedL (t' := s.toks) (ch := [it]) (fun b hb => hf b (List.mem_cons_of_mem _ hb)) fun b o hb q => eb b o (fun z => hb (by simp [z])) q
  self := fun _ _ _ _ _ st h => wpAny_pyIter_enum st.1.choose_spec h
def iEnum (K : PySem.W.Frag) (ta : TA) : TI := fun σ H R => ta σ H fun vs H1 => ∃ a, vs = [.ref a] ∧ (∃ xs, SqL K H1 a xs) ∧ R (Ite K a) H1
theorem pi_enum {X : Cx} {K : PySem.W.Frag} {elts : List Expr} {k : Nat} {tpos : Pos} {l : Expr} {ta : TA} {p pos : Pos} (hK : X.K = K) (hg : Gl X "enumerate") (hm : X.mg "enumerate" = none) (ha : PA X [l] ta) (hs : starEach [l] X.env = [(false, eval l X.env)] := by rfl) :
    PI X (.Tuple elts k tpos) (.Call (.Name "enumerate" p) [l] [] pos) (iEnum K ta) := by
  subst hK
  intro pins s σ H R I h
  refine Call_ (ld_blt I hg hm PyProof.Rows.boot_enumerate (PyProof.Rows.callWith_type1 (thn (ha pos pins s σ H _ I h) fun us s1 hm0 => ?_) hs rfl))
  obtain ⟨vs, H1, I1, r1, q1⟩ := hm0
  obtain ⟨a, rfl, ⟨xs, hq⟩, q⟩ := q1
  obtain ⟨u, rfl, ru⟩ := vals1 r1
  cases ru
  obtain ⟨its, rv, p, hz⟩ := I1.list hq
  refine call_enumerate_list p.isList fun h' he hi hsz kp => ?_
  refine wpAny_pyIter_enum he ?_
  refine ⟨s1.heap.objs.size + 1, [s1.heap.objs.size + 1, s1.heap.objs.size], _, _, H1, rfl, I1.kept (t' := s1.toks) kp, turn_enum a _ _ (Nat.succ_ne_self _), ⟨⟨_, he⟩, hi⟩, fun b hb => ?_, q⟩
  have hb' : s1.heap.objs.size ≤ b := by
    rcases List.mem_cons.mp hb with z | z
    · rw [z]; exact Nat.le_succ _
    · have z : b = s1.heap.objs.size := by simpa using z
      rw [z]; exact Nat.le_refl _
  exact I1.fpOk hb' (I1.hok.fresh hb')
end L2
set_option Elab.async false
set_option linter.all false
set_option maxRecDepth 100000
set_option maxHeartbeats 1000000
namespace L2
open PySem
section
variable {H H' : Hp} {r : Addr} {as : List Addr} {Ls : List (List Int)}
end
end L2
set_option Elab.async false
set_option linter.all false
set_option maxRecDepth 100000
set_option maxHeartbeats 1000000
namespace L2
open PySem PySem.Spec PyProof.Rows
section
variable {X : Cx}
theorem pe_gint {x : Str} {n : Int} {pos : Pos} (hm : ∃ t, X.mg x = some (.int n t)) (hg : Gl X x := by rfl) (hd : (x == ("__debug__" : Str)) = false := by decide) : PE X (.Name x pos) (tC (.int n)) := by
  obtain ⟨t, hm⟩ := hm
  exact pe_glob hg hm ⟨t, rfl⟩ hd
end
end L2
set_option Elab.async false
set_option linter.all false
set_option maxRecDepth 100000
set_option maxHeartbeats 1000000
namespace L2
open PySem PySem.Spec PyProof.Rows
section
variable {X : Cx}
end
end L2
set_option Elab.async false
set_option linter.all false
set_option maxRecDepth 100000
set_option maxHeartbeats 1000000
namespace L2
open PySem PySem.Spec PyProof.Rows
def Itz (K : PySem.W.Frag) (a b : Addr) : It :=
  ⟨fun i H => ∃ xs ys x y, SqL K H a xs ∧ SqL K H b ys ∧ xs[i]? = some x ∧ ys[i]? = some y,
   fun i H v H' => ∃ T x y, v = .ref T ∧ H T = none ∧ (∀ xs, SqL K H a xs → xs[i]? = some x) ∧ (∀ ys, SqL K H b ys → ys[i]? = some y) ∧ H' = upd H T (.tup [x, y]),
   fun i H => ∃ xs ys, SqL K H a xs ∧ SqL K H b ys ∧ (xs.length ≤ i ∨ ys.length ≤ i)⟩
structure ZTurn (a b z TI TO i1 i2 : Addr) (i : Nat) (h : Heap) : Prop where
  zz : IsZip h z TI TO .none
  ti : IsPair h TI (.ref i1) (.ref i2)
  to : ∃ p q, IsPair h TO p q
  s1 : h.IsListIter i1 a i
  s2 : h.IsListIter i2 b i
theorem turn_zip {P : Program} {w : World} {K : PySem.W.Frag} {elts : List Expr} {k : Nat} {pos : Pos} (a b z TI TO i1 i2 : Addr) (ap : ZipApart z TI TO i1 i2 a b) : Turn P w K (.Tuple elts k pos) (Itz K a b) [z, TI, TO, i1, i2] z (ZTurn a b z TI TO i1 i2) where
  mem := by simp
  obj := fun i h st c hc => by
    obtain ⟨zz, ti, ⟨p, q, to⟩, ⟨o1, e1, c1, d1⟩, ⟨o2, e2, c2, d2⟩⟩ := st
    simp only [List.mem_cons, List.not_mem_nil, or_false] at hc
    rcases hc with rfl | rfl | rfl | rfl | rfl
    · exact ⟨_, zz, fun v z => by cases z⟩
    · exact ⟨_, ti, fun v z => by cases z⟩
    · exact ⟨_, to, fun v z => by cases z⟩
    · exact ⟨o1, e1, fun v z => by rw [d1] at z; cases z⟩
    · exact ⟨o2, e2, fun v z => by rw [d2] at z; cases z⟩
  keep := fun i h h' st k => by
    obtain ⟨zz, ti, ⟨p, q, to⟩, s1, s2⟩ := st
    exact ⟨k z (by simp) _ zz, k TI (by simp) _ ti, ⟨p, q, k TO (by simp) _ to⟩, s1.at fun o q => k i1 (by simp) o q, s2.at fun o q => k i2 (by simp) o q⟩
  item := by
    intro X hP hw hK hc i pins s σ H E I hf st hg
    subst hP hw hK
    obtain ⟨xs, ys, x, y, hq, hq2, hx, hy⟩ := hg
    obtain ⟨its, rv, p, hz⟩ := I.list hq
    obtain ⟨its2, rv2, p2, hz2⟩ := I.list hq2
    obtain ⟨u, hu, ru⟩ := rv.get hx
    obtain ⟨u2, hu2, ru2⟩ := rv2.get hy
    obtain ⟨zz, ti, ⟨pp, qq, to⟩, s1, s2⟩ := st
    have lz : z < s.heap.objs.size := Heap.lt_size zz
    refine wpAny_pyNext_zip_item ap zz ti to s1 s2 p.isList p2.isList (x := u) (y := u2) (by simpa using hu) (by simpa using hu2) fun h' zo to' s1' s2' ht hsz kp => ?_
    refine ⟨_, rfl, wpAny_letOwnedTupleGo_zip zo fun h2 zz2 sb => ?_⟩
    have I1 : Inv X pins σ H { s with heap := h2 } := I.turnedL (t' := s.toks) (ch := [z, TI, TO, i1, i2]) hf fun c o hc q => by
      simp only [List.mem_cons, List.not_mem_nil, or_false, not_or] at hc
      exact (sb.2 c hc.1).trans (kp c o hc.1 hc.2.2.1 hc.2.2.2.1 hc.2.2.2.2 q)
    have hT : h2.get? s.heap.objs.size = some { cls := .type "tuple", data := .seq #[u, u2] } := (sb.2 _ (Nat.ne_of_gt lz)).trans ht
    have hfr : H s.heap.objs.size = none := I.hok.fresh (Nat.le_refl _)
    have I2 := I1.adopt (o := .tup [x, y]) (I.fpOk (Nat.le_refl _) hfr) ⟨(by show 2 ≤ sizeLine; decide), [u, u2], .cons ru (.cons ru2 .nil), ⟨_, hT, rfl, _, rfl⟩⟩
    have hti : IsPair h2 TI (.ref i1) (.ref i2) := (sb.2 TI ap.TIz).trans (kp TI _ ap.TIz ap.TITO ap.TIi1 ap.TIi2 ti)
    refine ⟨.ref s.heap.objs.size, _, I2, rfl, ⟨_, x, y, rfl, hfr, (fun zs hzs => by rw [I.list_inj hzs hq]; exact hx), (fun zs hzs => by rw [I.list_inj hzs hq2]; exact hy), rfl⟩,
      ⟨zz2, hti, ⟨u, u2, (sb.2 TO ap.TOz).trans to'⟩, s1'.at fun o q => (sb.2 i1 ap.i1z).trans q, s2'.at fun o q => (sb.2 i2 ap.i2z).trans q⟩, fun c hc => ?_⟩
    rw [upd_ne (fun e => ?_)]
    · exact (hf c hc).1
    · subst e
      obtain ⟨o1, e1, _⟩ := s1
      obtain ⟨o2, e2, _⟩ := s2
      simp only [List.mem_cons, List.not_mem_nil, or_false] at hc
      rcases hc with h | h | h | h | h
      · exact absurd h (Nat.ne_of_gt lz)
      · exact absurd h (Nat.ne_of_gt (Heap.lt_size ti))
      · exact absurd h (Nat.ne_of_gt (Heap.lt_size to))
      · exact absurd h (Nat.ne_of_gt (Heap.lt_size e1))
      · exact absurd h (Nat.ne_of_gt (Heap.lt_size e2))
  done := by
    intro X hP hw hK hc i pins s σ H E I hf st hg
    subst hP hw hK
    obtain ⟨xs, ys, hq, hq2, hx⟩ := hg
    obtain ⟨its, rv, p, hz⟩ := I.list hq
    obtain ⟨its2, rv2, p2, hz2⟩ := I.list hq2
    have hl := rv.length
    have hl2 := rv2.length
    obtain ⟨zz, ti, ⟨pp, qq, to⟩, s1, s2⟩ := st
    refine wpAny_pyNext_zip_end (I.ok.hd hc) ap zz ti to s1 s2 p.isList p2.isList ?_ fun h' kp => ⟨rfl, ?_⟩
    · rcases hx with h | h
      · exact .inl (by simp; (clear hc hf hz hz2 hl2; omega))
      · exact .inr (by simp; (clear hc hf hz hz2 hl; omega))
    · exact I.turnedL (t' := s.toks) (ch := [z, TI, TO, i1, i2]) hf fun c o hc q => by
        simp only [List.mem_cons, List.not_mem_nil, or_false, not_or] at hc
        exact kp c o hc.1 hc.2.2.1 hc.2.2.2.1 hc.2.2.2.2 q
  self := fun _ _ _ _ _ st h => wpAny_pyIter_zip st.zz h
theorem zip_apart (n a b : Nat) (la : a < n) (lb : b < n) : ZipApart (n + 4) (n + 2) (n + 3) n (n + 1) a b := by
  constructor
  all_goals (intro h; have h' : (_ : Nat) = _ := h; omega)
def iZip (K : PySem.W.Frag) (ta : TA) : TI := fun σ H R => ta σ H fun vs H1 => ∃ a b, vs = [.ref a, .ref b] ∧ (∃ xs, SqL K H1 a xs) ∧ (∃ ys, SqL K H1 b ys) ∧ R (Itz K a b) H1
theorem pi_zip {X : Cx} {K : PySem.W.Frag} {elts : List Expr} {k : Nat} {tpos : Pos} {l l2 : Expr} {ta : TA} {p pos : Pos} (hK : X.K = K) (hg : Gl X "zip") (hm : X.mg "zip" = none) (ha : PA X [l, l2] ta) (hs : starEach [l, l2] X.env = (false, eval l X.env) :: starEach [l2] X.env := by rfl)
    (hs2 : (backTo pos (starEach [l2] X.env)).any (·.1) = false := by rfl) :
    PI X (.Tuple elts k tpos) (.Call (.Name "zip" p) [l, l2] [] pos) (iZip K ta) := by
  subst hK
  intro pins s σ H R I h
  refine Call_ (ld_blt I hg hm PyProof.Rows.boot_zip (PyProof.Rows.callWith_type1 (thn (ha pos pins s σ H _ I h) fun us s1 hm0 => ?_) hs hs2))
  obtain ⟨vs, H1, I1, r1, q1⟩ := hm0
  obtain ⟨a, b, rfl, ⟨xs, hq⟩, ⟨ys, hq2⟩, q⟩ := q1
  cases r1 with
  | cons ra rr =>
    cases ra
    obtain ⟨u, rfl, ru⟩ := vals1 rr
    cases ru
    obtain ⟨its, rv, p, hz⟩ := I1.list hq
    obtain ⟨its2, rv2, p2, hz2⟩ := I1.list hq2
    have la : a < s1.heap.objs.size := by obtain ⟨o, e, _⟩ := p.isList; exact Heap.lt_size e
    have lb : b < s1.heap.objs.size := by obtain ⟨o, e, _⟩ := p2.isList; exact Heap.lt_size e
    refine call_zip_2 p.isList p2.isList fun h' zz ti to i1 i2 hsz kp => ?_
    refine wpAny_pyIter_zip zz ?_
    refine ⟨s1.heap.objs.size + 4, [s1.heap.objs.size + 4, s1.heap.objs.size + 2, s1.heap.objs.size + 3, s1.heap.objs.size, s1.heap.objs.size + 1], _, _, H1, rfl, I1.kept (t' := s1.toks) kp, turn_zip a b _ _ _ _ _ (zip_apart _ a b la lb), ⟨zz, ti, ⟨_, _, to⟩, i1, i2⟩, fun c hc => ?_, q⟩
    have hc' : s1.heap.objs.size ≤ c := by
      simp only [List.mem_cons, List.not_mem_nil, or_false] at hc
      rcases hc with rfl | rfl | rfl | rfl | rfl
      · exact Nat.le_add_right _ _
      · exact Nat.le_add_right _ _
      · exact Nat.le_add_right _ _
      · exact Nat.le_refl _
      · exact Nat.le_add_right _ _
    exact I1.fpOk hc' (I1.hok.fresh hc')
theorem for_zip {K : PySem.W.Frag} {a b : Addr} {xs ys : List V} {g : TG} {tb : TS} {D : Ends} {σ : St} {H : Hp} (hlen : xs.length = ys.length) (Pv : Nat → St → Hp → Prop) (h0 : Pv 0 σ H) (hl : ∀ i σ H, i ≤ xs.length → Pv i σ H → SqL K H a xs ∧ SqL K H b ys)
    (hs : ∀ i x y σ H T, xs[i]? = some x → ys[i]? = some y → Pv i σ H → H T = none → g (.ref T) σ (upd H T (.tup [x, y])) fun σ2 H2 => tb { D with nx := Pv (i + 1), ct := Pv (i + 1), bk := D.nx } σ2 H2) (hd : ∀ σ H, Pv xs.length σ H → D.nx σ H) :
    ∃ W : Nat → Nat → St → Hp → Prop, (∃ m, W 0 m σ H) ∧ ∀ i m σ H, W i m σ H →
      ((Itz K a b).stop i H ∧ D.nx σ H) ∨ ((Itz K a b).go i H ∧ ∃ N : St → Hp → Prop, (∀ σ' H', N σ' H' → ∃ m', m' < m ∧ W (i + 1) m' σ' H') ∧ ∀ x H', (Itz K a b).yld i H x H' → g x σ H' fun σ2 H2 => tb { D with nx := N, ct := N, bk := D.nx } σ2 H2) := by
  refine ⟨fun i m σ H => m = xs.length - i ∧ i ≤ xs.length ∧ Pv i σ H, ⟨xs.length, by simp, Nat.zero_le _, h0⟩, ?_⟩
  rintro i m σ H ⟨rfl, hi, p⟩
  obtain ⟨q, q2⟩ := hl i σ H hi p
  by_cases hlt : i < xs.length
  · refine .inr ⟨⟨xs, ys, xs[i], ys[i]'(by omega), q, q2, by simp [hlt], by simp⟩, Pv (i + 1), fun σ' H' p' => ⟨xs.length - (i + 1), by (clear hlen hl hs hd hi; omega), rfl, hlt, p'⟩, fun x H' y => ?_⟩
    obtain ⟨T, u, v, rfl, hT, e1, e2, rfl⟩ := y
    exact hs i u v σ _ T (e1 xs q) (e2 ys q2) p hT
  · have e : i = xs.length := by (clear hlen hl hs hd; omega)
    subst e
    exact .inl ⟨⟨xs, ys, q, q2, .inl (Nat.le_refl _)⟩, hd σ H p⟩
section
variable {X : Cx}
end
end L2
set_option Elab.async false
set_option linter.all false
set_option maxRecDepth 100000
set_option maxHeartbeats 4000000
namespace L2
open PySem PySem.Spec PyProof.Rows
section
variable {P : Program} {w : World} {A : Around} {E : Value → Shared → Prop} {s : Shared}
end
end L2
set_option Elab.async false
set_option linter.all false
set_option maxRecDepth 100000
set_option maxHeartbeats 1000000
namespace L2
open PySem PySem.Spec PySem.W PyProof.Rows PySem.Builtin PySem.Builtin.ObjectAttr PySem.Builtin.Getset_descriptor
structure XcK (K : Frag) (C : Addr) : Prop where
  ga : findIn K (.ref C) "__getattribute__" = some (some (.builtin "BaseException.__getattribute__"))
  gn : findIn K (.ref C) "__getattr__" = some none
  cl : findIn K (.ref C) "__class__" = some (some (.builtin "object.__class__"))
  sp : specialIn K (.builtin "object.__class__") "__get__" = some (some (.builtin "getset_descriptor.__get__"))
  tk : takesIn K (.builtin "object.__class__") = some true
  mo : mroIn K C (.type "object") = some true
  me : mroIn K C (.type "BaseException") = some true
  ci : (clsIn K C).isSome = true
section
variable {prog : Program} {w : World} {A : Around} {E : Value → Shared → Prop} {s : Shared} {K : Frag} {x C : Addr}
end
end L2
set_option Elab.async false
set_option linter.all false
set_option maxRecDepth 100000
set_option maxHeartbeats 1000000
namespace L2
open PySem PySem.Spec PyProof.Rows
theorem ObjOk.got {P : Program} {w : World} {H : Hp} {h : Heap} {a : Addr} {o : HO} (x : ObjOk P w H h a o) : ∃ ob, h.get? a = some ob := by
  cases o with
  | lst xs => obtain ⟨_, _, _, _, e⟩ := x; exact ⟨_, e⟩
  | tup xs => obtain ⟨_, _, _, _, e, _⟩ := x; exact ⟨_, e⟩
  | dK kvs => obtain ⟨_, _, _, _, _, _, _, e, _⟩ := x; exact ⟨_, e⟩
  | dT kvs => obtain ⟨_, _, _, _, _, _, _, e, _⟩ := x; exact ⟨_, e⟩
  | set S n => obtain ⟨_, _, _, _, e, _⟩ := x; exact ⟨_, e⟩
  | ins C dx fs => obtain ⟨_, _, _, e, _⟩ := x; exact ⟨_, e⟩
  | own y => exact x
  | xd fs => obtain ⟨_, ⟨_, _, _, e, _⟩, _⟩ := x; exact ⟨_, e⟩
  | rng lo hi => obtain ⟨_, _, _, e⟩ := x; exact ⟨_, e⟩
  | frz ob u => exact ⟨_, x.1⟩
  | tbl ps => exact ⟨_, x⟩
  | met f y => exact ⟨_, x⟩
  | ext φ => exact x.2.1
theorem HOk.by {P : Program} {w : World} {H : Hp} {h h' B : Heap} (x : HOk P w H h) (hB : ∀ b u, H b = some u → ∃ o, B.get? b = some o) (k1 : ∀ b o, B.get? b = some o → h.get? b = some o) (k2 : ∀ b o, B.get? b = some o → h'.get? b = some o) : HOk P w H h' := fun a o e =>
  (x a o e).stay (fun b u hb q => by
    have ht : ∃ v, H b = some v := by
      rcases hb with rfl | hb
      · exact ⟨_, e⟩
      · exact ⟨_, hb⟩
    obtain ⟨v, hv⟩ := ht
    obtain ⟨ob, ho⟩ := hB b v hv
    have := k1 b ob ho
    rw [q] at this
    cases this
    exact k2 b _ ho) (fun _ q => q) fun _ _ q => q
def CXR (P : Program) (w : World) : CXT := fun outer H s E e s' => ∃ (ea C t : Addr) (H' : Hp) (B : Heap), e = .ref ea ∧ s'.os = s.os ∧ AllBare s'.gens ∧ Un (frs outer) [] H H' s.heap s'.heap ∧ HOk P w H' s'.heap ∧
  Heap.FlyingW B outer ea (.ref C) (.ref t) s'.heap ∧ (∀ b o, s.heap.get? b = some o → b ∉ frs outer → ∃ o', B.get? b = some o') ∧ (∀ b u, H' b = some u → ∃ o, B.get? b = some o) ∧ E (.ref C) none H'
theorem passX0 {P : Program} {w : World} {X : Cx} : Passes (CXR P w) X E0 := fun _ _ _ _ _ _ _ ⟨_, _, _, _, _, _, _, _, _, _, _, _, _, h⟩ => h.elim
section
variable {X : Cx} {pins : List (Addr × Obj)} {σ : St} {H : Hp} {s : Shared}
theorem Inv.notStk (I : Inv X pins σ H s) {b : Addr} {o : Obj} (e : X.s₀.heap.get? b = some o) (h : b ∉ X.fs) : b ∉ frs X.stack := fun z => by
  rcases List.mem_cons.mp (I.stkSub b z) with q | q
  · exact absurd q (Nat.ne_of_lt (Nat.lt_of_lt_of_le (Heap.lt_size e) I.ok.above))
  · exact h q
theorem Inv.stkSup (I : Inv X pins σ H s) {b : Addr} (h : b ∈ X.fs) : b ∈ frs X.stack := by
  rcases I.ok.stk with e | ⟨e, hf⟩
  · rw [e]; exact h
  · rw [e]; unfold frs; rw [List.filterMap_cons, hf]; exact List.mem_cons_of_mem _ h
theorem leaves_made {M : Model} {E2 : Value → Shared → Prop} {h' : Heap} {e C : Addr} {us : List Value} {E : XK} (I : Inv X pins σ H s) (hst : X.stack = X.env :: X.outer) (hf : X.env.frame = some X.env.locals) (hex : X.ex = [])
    (hm : Heap.MadeExcOf s.heap h' e (.ref C) us) (hE : E (.ref C) none H) : wpAny M X.A (leaving X.env (.ref e)) (fun _ s'' => CXR X.prog X.w X.outer X.H₀ X.s₀ E (.ref e) s'') E2 { s with heap := h' } := by
  have hfun := I.stack
  have hin : ∀ env ∈ X.stack, ∀ a, env.frame = some a → a ∈ frs X.stack := fun env he a ha => List.mem_filterMap.mpr ⟨env, he, ha⟩
  have hB1 : ∀ b o, s.heap.get? b = some o → b ∉ frs X.stack → (PySem.W.hideAll s.heap (frs X.stack)).get? b = some o := fun b o q n => PySem.W.hideAll_get _ q n
  have hB0 : ∀ b o, (PySem.W.hideAll s.heap (frs X.stack)).get? b = some o → s.heap.get? b = some o := fun b o q => PySem.W.of_hideAll _ q
  have hfun2 := PySem.W.funFrames_hide hfun hin
  have noex : ∀ b, b ∉ X.ex := fun b z => by rw [hex] at z; cases z
  rw [hst] at hfun2
  have trk : ∀ b u, H b = some u → ∃ o, (PySem.W.hideAll s.heap (frs X.stack)).get? b = some o := fun b u q => by
    obtain ⟨o, ho⟩ := (I.hok b u q).got
    exact ⟨o, hB1 b o ho fun z => by rw [I.stkFree b z] at q; cases q⟩
  have old : ∀ b o, X.s₀.heap.get? b = some o → b ∉ X.fs → ∃ o', (PySem.W.hideAll s.heap (frs X.stack)).get? b = some o' := fun b o q n => by
    obtain ⟨o', ho⟩ := I.base.there b o q (noex b)
    exact ⟨o', hB1 b o' ho (I.notStk q n)⟩
  refine wpAny_leaves_madeW (base := PySem.W.hideAll s.heap (frs X.stack)) (hst ▸ I.ok.frames) hf hB0 (hst ▸ hfun2) hm fun h2 t x1 x2 x3 x4 => ?_
  have fr : ∀ b o, s.heap.get? b = some o → b ∈ X.fs → ∃ sl, h2.get? b = some { o with slots := sl } := fun b o q hb => by
    obtain ⟨_, o', ho', hd⟩ := I.funs.mem hb
    rw [q] at ho'; cases ho'
    exact x4 b o (hm.keeps b o q) hd
  refine ⟨e, C, t, H, _, rfl, I.os, I.bare, ⟨fun b o q n hb _ => ?_, fun b o q n hb _ => ?_, fun b o q n _ => I.base.free b o q n (noex b), fun b o q _ => ?_, I.base.tups, I.base.frzs, I.base.tbls⟩, I.hok.by trk hB0 x1.1, x1, old, trk, hE⟩
  · exact x1.1 b o (hB1 b o (I.base.keep b o q n hb (noex b)) (I.notStk q hb))
  · obtain ⟨sl, e1⟩ := I.base.slot b o q n hb (noex b)
    obtain ⟨sl2, e2⟩ := fr b _ e1 hb
    exact ⟨sl2, e2⟩
  · by_cases hb : b ∈ X.fs
    · obtain ⟨o', e1⟩ := I.base.there b o q (noex b)
      obtain ⟨sl2, e2⟩ := fr b _ e1 hb
      exact ⟨_, e2⟩
    · obtain ⟨o', e1⟩ := old b o q hb
      exact ⟨_, x1.1 b o' e1⟩
theorem leaves_on {M : Model} {E2 : Value → Shared → Prop} {e : Value} {s' : Shared} {E : XK} (I : Inv X pins σ H s) (hst : X.stack = X.env :: X.outer) (hf : X.env.frame = some X.env.locals) (hex : X.ex = [])
    (h : CXR X.prog X.w X.stack H s E e s') : wpAny M X.A (leaving X.env e) (fun _ s'' => CXR X.prog X.w X.outer X.H₀ X.s₀ E e s'') E2 s' := by
  obtain ⟨ea, C, t, H', B, rfl, os, bare, un, hok, fl, b1, b2, hE⟩ := h
  have noex : ∀ b, b ∉ X.ex := fun b z => by rw [hex] at z; cases z
  have fl0 := fl
  rw [hst] at fl0
  refine wpAny_leaves_onW (hst ▸ I.ok.frames) hf fl0 fun h2 x1 x2 => ?_
  have nex : ∀ b : Addr, b ∉ ([] : List Addr) := fun b z => by cases z
  have old : ∀ b o, X.s₀.heap.get? b = some o → b ∉ X.fs → ∃ o', B.get? b = some o' := fun b o q n => by
    obtain ⟨o', ho⟩ := I.base.there b o q (noex b)
    exact b1 b o' ho (I.notStk q n)
  have fr : ∀ b o, s'.heap.get? b = some o → b ∈ X.fs → ∃ sl, h2.get? b = some { o with slots := sl } := fun b o q hb => by
    obtain ⟨_, o', ho', hd⟩ := fl.2.2.1.mem (I.stkSup hb)
    rw [q] at ho'; cases ho'
    exact x2 b o q hd
  refine ⟨ea, C, t, H', B, rfl, os.trans I.os, bare, ⟨fun b o q n hb _ => ?_, fun b o q n hb _ => ?_, fun b o q n _ => ?_, fun b o q _ => ?_, fun b xs q => un.tups b xs (I.base.tups b xs q), fun b o u q => un.frzs b o u (I.base.frzs b o u q), fun b ps q => ?_⟩, hok.by b2 fl.1 x1.1, x1, old, b2, hE⟩
  · have e1 := I.base.keep b o q n hb (noex b)
    have e2 := un.keep b o e1 (I.base.free b o q n (noex b)) (I.notStk q hb) (nex b)
    obtain ⟨o', e3⟩ := old b o q hb
    have e4 := fl.1 b o' e3
    rw [e2] at e4; cases e4
    exact x1.1 b _ e3
  · obtain ⟨sl, e1⟩ := I.base.slot b o q n hb (noex b)
    obtain ⟨sl1, e2⟩ := un.slot b _ e1 (I.base.free b o q n (noex b)) (I.stkSup hb) (nex b)
    obtain ⟨sl2, e3⟩ := fr b _ e2 hb
    exact ⟨sl2, e3⟩
  · obtain ⟨o', e1⟩ := I.base.there b o q (noex b)
    exact un.free b o' e1 (I.base.free b o q n (noex b)) (nex b)
  · by_cases hb : b ∈ X.fs
    · obtain ⟨o', e1⟩ := I.base.there b o q (noex b)
      obtain ⟨o2, e2⟩ := un.there b o' e1 (nex b)
      obtain ⟨sl2, e3⟩ := fr b _ e2 hb
      exact ⟨_, e3⟩
    · obtain ⟨o', e1⟩ := old b o q hb
      exact ⟨_, x1.1 b o' e1⟩
  · obtain ⟨m1, e1⟩ := I.base.tbls b ps q
    obtain ⟨m2, e2⟩ := un.tbls b _ e1
    exact ⟨m1 ++ m2, by rw [e2, Array.append_assoc]⟩
end
end L2
set_option Elab.async false
set_option linter.all false
set_option maxRecDepth 100000
set_option maxHeartbeats 1000000
namespace L2
open PySem PySem.Spec PyProof.Rows
abbrev bmV : List Value := [.type "ValueError", .type "Exception", .type "BaseException", .type "object"]
theorem exc_at {K : PySem.W.Frag} {h : Heap} {C : Addr} {bmB : List Value} {newId : String} (X : K.In h) (q : PySem.W.excIn K C bmB newId = true) :
    ∃ bm N nm qn bs hdct sn sub ab col dd k0 k1 k2 k3 k5 mN, h.get? C = some (excClassObj nm qn C N bs bm hdct sn sub ab col dd k0 k1 k2 k3 k5 newId) ∧ h.Ns N mN ∧ mN "__init__" = none ∧ OwnTail h bmB bm := by
  unfold PySem.W.excIn at q
  split at q
  case h_2 => cases q
  case h_1 dd cd sl ho =>
    split at q
    case h_2 => cases q
    case h_1 C' bm k0 k1 k2 k3 n k5 hm hs =>
      simp only [Bool.and_eq_true, beq_iff_eq, Bool.not_eq_true'] at q
      obtain ⟨⟨⟨⟨⟨z1, z2⟩, z3⟩, z4⟩, z5⟩, z6⟩ := q
      cases z1
      cases z2
      obtain ⟨nm, bs, mro, ns, qn, hd, sn, sub, ab, col, del⟩ := cd
      cases hm
      cases z3
      have es : sl = #[k0, k1, k2, k3, some (.builtin newId), k5] := by
        cases sl with
        | mk l => simp only at hs; rw [hs]
      cases es
      exact ⟨bm, ns, nm, qn, bs, hd, sn, sub, ab, col, dd, k0, k1, k2, k3, k5, _, X _ _ ho, Heap.Ns.of_isNs (PySem.W.isNs_of_in X z5), PySem.W.nsMap_none_of_in X z5 z6, PySem.W.tail_of_in X z4⟩
def Raises (X : Cx) (E : XK) : Prop := ∀ (pins : List (Addr × Obj)) (σ : St) (H : Hp) (s : Shared) (h' : Heap) (e C : Addr) (us : List Value), Inv X pins σ H s → Heap.MadeExcOf s.heap h' e (.ref C) us → E (.ref C) none H → X.xe (.ref e) { s with heap := h' }
def tRaise (t : TA) (C : Addr) (E : XK) : TS := fun _ σ H => t σ H fun vs H1 => vs.length ≤ sizeLine ∧ E (.ref C) none H1
section
variable {X : Cx}
theorem ps_raise {E : XK} {x : Str} {C : Addr} {e0 : Expr} {rest : List Expr} {t : TA} {np cpos pos : Pos} (hr : Raises X E) (hm : X.mg x = some (.ref C)) (q : PySem.W.excIn X.K C bmV "ValueError.__new__" = true) (ha : PA X (e0 :: rest) t) (hc : X.calm = true := by rfl) (hg : Gl X x := by rfl)
    (hdb : (x == ("__debug__" : Str)) = false := by decide) (he : starEach (e0 :: rest) X.env = (false, eval e0 X.env) :: starEach rest X.env := by rfl) (hpl : (backTo cpos (starEach rest X.env)).any (·.1) = false := by rfl) :
    PS X (.Raise (some (.Call (.Name x np) (e0 :: rest) [] cpos)) none pos) (tRaise t C E) := by
  intro pins s σ H D I h
  obtain ⟨tl, N, nm, qn, bs, hdct, sn, sub, ab, col, dd, k0, k1, k2, k3, k5, mN, hC, hN, hni, T⟩ := exc_at I.mod.kin q
  refine wpAny_Raise_call_subT (C := C) (nm := nm) (q := qn) (N := N) (bs := bs) (bm := tl) (hdct := hdct) (sn := sn) (sub := sub) (ab := ab) (col := col) (dd := dd) (k0 := k0) (k1 := k1) (k2 := k2) (k3 := k3) (k5 := k5)
    PySem.F.excBase_ValueError (mN := mN) (T.hasType PySem.F.excBase_ValueError.hasBase) (I.ok.hd hc) ?_ hni (ld_glob I hg hm ⟨rfl, ?_⟩ hdb)
  · rw [he]
    show (false || (backTo cpos (starEach rest X.env)).any (·.1)) = false
    rw [hpl]; rfl
  have h2 := ha cpos pins s σ H _ I h
  rw [he] at h2 ⊢
  refine Calls.evalArgs_plain (thn h2 fun us s2 hm0 => ?_)
  obtain ⟨vs, H1, I1, r1, q1, q2⟩ := hm0
  exact ⟨rfl, by rw [← r1.length]; exact q1, I1.bk _ _ hC, hN.keeps I1.bk, T.keeps I1.bk, fun h' e hm => hr pins σ H1 s2 h' e C us I1 hm q2⟩
end
section
variable {P : Program} {w : World} {K : PySem.W.Frag} {mg : Str → Option Value} {base : Heap}
abbrev cxR (P : Program) (w : World) (K : PySem.W.Frag) (mg : Str → Option Value) (base : Heap) (N : List Str) (qual : Str) (scope : Scope) (f : Addr) (cd : Value) (A : Around) (outer : List Env) (s : Shared) (H : Hp) (E : XK) : Cx := cxOf (CXR P w) P w K mg base N qual scope f cd A outer s H E
theorem raisesR {N : List Str} {qual : Str} {scope : Scope} {f : Addr} {cd : Value} {A : Around} {outer : List Env} {s : Shared} {H : Hp} {E : XK} : Raises (cxR P w K mg base N qual scope f cd A outer s H E) E :=
  fun pins σ H1 s1 h' e C us I hm hE => leaves_made (X := cxR P w K mg base N qual scope f cd A outer s H E) I rfl rfl rfl hm hE
theorem passR {N : List Str} {qual : Str} {scope : Scope} {f : Addr} {cd : Value} {A : Around} {outer : List Env} {s : Shared} {H : Hp} {E : XK} : Passes (CXR P w) (cxR P w K mg base N qual scope f cd A outer s H E) E :=
  fun pins σ H1 s1 e s' I h => leaves_on (X := cxR P w K mg base N qual scope f cd A outer s H E) I rfl rfl rfl h
structure DnX (P : Program) (w : World) (K : PySem.W.Frag) (mg : Str → Option Value) (base : Heap) (x : Str) (n : Nat) (ps : List Str) (sp : Sp) : Prop where
  ex : ∃ f fd, FnOk P w K mg base (CXR P w) n f fd ps sp ∧ mg x = some (.ref f) ∧ PySem.W.keepIn K (.ref f) = true ∧ Binds K fd ps []
theorem DefAt.okX {x : Str} {st : Stmt} {N ps : List Str} {k : Nat} {sp : Sp} (F : DefAt K mg x st ps) (S : FnScope N ps (defScope st)) (len : ∀ vs H Q E, sp vs H Q E → vs.length = ps.length)
    (hbody : ∀ (f : Addr) (cdv : Value) (A : Around) (outer : List Env) (s : Shared) (H : Hp) (vs : List V) (Q : VK) (E : XK), Room k (A.deeper (envOfC x (defScope st) s.heap.objs.size f cdv)) → sp vs H Q E →
      ∃ t, PSs (cxR P w K mg base N x (defScope st) f cdv A outer s H E) (defBody st) t ∧ t { nx := fun _ H' => Q .non H', rt := Q } (start N vs) H) : DnX P w K mg base x (k + 1) ps sp := by
  obtain ⟨f, fd, F, hm, hb⟩ := F.ex
  have kp := F.kp
  obtain ⟨oc, od, kV, doc, pm, an, cdv, ct, osl, rfl, lk, hcd⟩ := F.ex
  exact ⟨f, _, fn_of lk hcd S len fun A outer s H vs Q E hr hsp => hbody f cdv A outer s H vs Q E hr hsp, hm, kp, hb⟩
end
theorem pe_dnX {X : Cx} {E : XK} {x : Str} {n k : Nat} {ps : List Str} {sp : Sp} {e : Expr} {es : List Expr} {t : TA} {p pos : Pos} (hx : Passes (CXR X.prog X.w) X E) (D : DnX X.prog X.w X.K X.mg X.base x n ps sp) (hr : Room k X.A) (ha : PA X (e :: es) t) (hk : n ≤ k := by decide) (hg : Gl X x := by rfl)
    (hdb : (x == ("__debug__" : Str)) = false := by decide) (he : starEach (e :: es) X.env = (false, eval e X.env) :: starEach es X.env := by rfl) (hpl : (backTo pos (starEach es X.env)).any (·.1) = false := by rfl) :
    PE X (.Call (.Name x p) (e :: es) [] pos) (tCall sp [] E t) := by
  obtain ⟨f, fd, F, hm, kp, hb⟩ := D.ex
  exact pe_call F (hr.mono hk) hg hm kp hb .nil hx ha hdb he hpl
end L2
set_option Elab.async false
set_option linter.all false
set_option maxRecDepth 100000
set_option maxHeartbeats 1000000
namespace L2
open PySem PySem.Spec PyProof.Rows
section
variable {X : Cx} {pins : List (Addr × Obj)} {σ : St} {H : Hp} {s : Shared}
end
end L2
set_option Elab.async false
set_option linter.all false
set_option maxRecDepth 100000
set_option maxHeartbeats 1000000
namespace L2
open PySem PySem.Spec PyProof.Rows
section
variable {X : Cx} {CX : CXT} {k : Nat} {f : Addr} {fd : FuncData} {ps : List Str} {sp : Sp} {E : XK} {x : Str} {p pos : Pos} {e : Expr} {es : List Expr} {t : TA} {pins : List (Addr × Obj)} {σ : St} {H : Hp} {s : Shared} {Q : VK} {EE : Value → Shared → Prop}
end
section
variable {X : Cx} {x y g n : Str} {i j m k : Nat} {ps : List Str} {sp : Sp} {p py pos epos np hpos tpos : Pos} {e : Expr} {es : List Expr} {t : TA} {th : TS} {G : Addr} {b0 : Stmt} {suite : List Stmt}
end
end L2
set_option Elab.async false
set_option linter.all false
set_option maxRecDepth 100000
set_option maxHeartbeats 1000000
namespace L2
open PySem PySem.Spec PyProof.Rows
def clK (K : PySem.W.Frag) (x : Str) : Addr := match PySem.W.nsIn K mainGlobals x with
  | some (some (.ref C)) => C
  | _ => 0
def xcB (K : PySem.W.Frag) (C : Addr) : Bool :=
  PySem.W.findIn K (.ref C) "__getattribute__" == some (some (.builtin "BaseException.__getattribute__")) && PySem.W.findIn K (.ref C) "__getattr__" == some none &&
  PySem.W.findIn K (.ref C) "__class__" == some (some (.builtin "object.__class__")) && PySem.W.specialIn K (.builtin "object.__class__") "__get__" == some (some (.builtin "getset_descriptor.__get__")) &&
  PySem.W.takesIn K (.builtin "object.__class__") == some true && PySem.W.mroIn K C (.type "object") == some true && PySem.W.mroIn K C (.type "BaseException") == some true && (PySem.W.clsIn K C).isSome
def xcFacts (K : PySem.W.Frag) (top : Str) (rs ns : List Str) : Bool :=
  (PySem.W.nsIn K mainGlobals top == some (some (.ref (clK K top)))) &&
  (ns.all fun y => PySem.W.nsIn K mainGlobals y == some (some (.ref (clK K y)))) &&
  rs.all fun x => (PySem.W.nsIn K mainGlobals x == some (some (.ref (clK K x)))) && xcB K (clK K x) && PySem.W.excIn K (clK K x) bmV "ValueError.__new__" &&
    (PySem.W.exmOne K (.ref (clK K x)) (.ref (clK K top)) == some true) && (PySem.W.kitOne K (.ref (clK K x)) (.type "ValueError") == some true) &&
    ns.all fun y => PySem.W.kitOne K (.ref (clK K x)) (.ref (clK K y)) == some (decide (x = y))
structure XT (K : PySem.W.Frag) (mg : Str → Option Value) (top : Str) (rs ns : List Str) : Prop where
  m : ∀ x, (x = top ∨ x ∈ rs ∨ x ∈ ns) → mg x = some (.ref (clK K x))
  exc : ∀ x ∈ rs, PySem.W.excIn K (clK K x) bmV "ValueError.__new__" = true
  k : ∀ x ∈ rs, XcK K (clK K x)
  hit : ∀ x ∈ rs, PySem.W.exmOne K (.ref (clK K x)) (.ref (clK K top)) = some true
  val : ∀ x ∈ rs, PySem.W.kitOne K (.ref (clK K x)) (.type "ValueError") = some true
  one : ∀ x ∈ rs, ∀ y ∈ ns, PySem.W.kitOne K (.ref (clK K x)) (.ref (clK K y)) = some (decide (x = y))
theorem xt_of {K : PySem.W.Frag} {h : Heap} {mg : Str → Option Value} {top : Str} {rs ns : List Str} (X : K.In h) (G : h.Ns mainGlobals mg) (e : xcFacts K top rs ns = true) : XT K mg top rs ns := by
  unfold xcFacts at e
  simp only [Bool.and_eq_true, List.all_eq_true, beq_iff_eq] at e
  obtain ⟨⟨e1, e2⟩, e3⟩ := e
  refine ⟨fun x hx => ?_, fun x hx => (e3 x hx).1.1.1.2, fun x hx => ?_, fun x hx => (e3 x hx).1.1.2, fun x hx => (e3 x hx).1.2, fun x hx y hy => (e3 x hx).2 y hy⟩
  · rcases hx with rfl | hx | hx
    · exact PySem.W.mg_of X G e1
    · exact PySem.W.mg_of X G (e3 x hx).1.1.1.1.1
    · exact PySem.W.mg_of X G (e2 x hx)
  · have z := (e3 x hx).1.1.1.1.2
    unfold xcB at z
    simp only [Bool.and_eq_true, beq_iff_eq] at z
    obtain ⟨⟨⟨⟨⟨⟨⟨z1, z2⟩, z3⟩, z4⟩, z5⟩, z6⟩, z7⟩, z8⟩ := z
    exact ⟨z1, z2, z3, z4, z5, z6, z7, z8⟩
section
variable {X : Cx}
end
end L2
set_option Elab.async false
set_option linter.all false
set_option maxRecDepth 100000
set_option maxHeartbeats 1000000
namespace L2
open PySem PySem.Spec PyProof.Rows
section
variable {X : Cx}
end
end L2
set_option Elab.async false
set_option linter.all false
set_option maxRecDepth 100000
set_option maxHeartbeats 1000000
namespace L2
open PySem PySem.Spec PyProof.Rows
end L2
set_option Elab.async false
set_option linter.all false
set_option maxRecDepth 100000
set_option maxHeartbeats 1000000
namespace L2
open PySem PySem.Spec PyProof.Rows
section
variable {X : Cx}
def PJ (X : Cx) (es : List Expr) (n : Nat) : Prop := ∀ (out : Str) (pins : List (Addr × Obj)) (s : Shared) (σ : St) (H : Hp) (Q : VK), Inv X pins σ H s → out.length + n ≤ sizeLine → (∀ x, Q (.str x) H) →
  wpAny (model X.prog X.w) X.A (joinParts out (evalEach es X.env)) (EP X pins σ Q) X.xe s
theorem pj_nil : PJ X [] 0 := fun out pins s σ H Q I hz q => joinParts_nil ⟨.str out, H, I.tok _, ⟨_, rfl⟩, q _⟩ (by omega)
theorem pj_str {x : Str} {j pos} {rest : List Expr} {n : Nat} (h : PJ X rest n) : PJ X (.Constant (.str x) j pos :: rest) (x.length + n) := fun out pins s σ H Q I hz q => by
  have e : (out ++ x).length = out.length + x.length := strLen_append ..
  refine joinParts_cons (Calls.Constant_str ⟨by omega, h _ pins _ σ H Q (I.tok _) (by omega) q⟩)
theorem pj_int {g : Str} {v : Int} {p p2 : Pos} {rest : List Expr} {n : Nat} (hm : ∃ t, X.mg g = some (.int v t)) (h : PJ X rest n) (hg : Gl X g := by rfl) (hd : (g == ("__debug__" : Str)) = false := by decide) (hv : v.natAbs.log2 < 1920 := by decide +kernel) :
    PJ X (.FormattedValue (.Name g p) (-1) none p2 :: rest) ((toString v : Str).length + n) := fun out pins s σ H Q I hz q => by
  obtain ⟨t, hm⟩ := hm
  have e : (out ++ (toString v : Str)).length = out.length + (toString v : Str).length := strLen_append ..
  refine joinParts_cons (FormattedValue_plain (ld_glob I hg hm (formatField_int_small hv ⟨by omega, h _ pins _ σ H Q (I.tok _) (by omega) q⟩) hd))
def tSomeStr : TE := fun _ H Q => ∀ x, Q (.str x) H
theorem pe_join {v1 v2 : Expr} {rest : List Expr} {pos : Pos} {n : Nat} (h : PJ X (v1 :: v2 :: rest) n) (hn : n ≤ sizeLine := by decide +kernel) : PE X (.JoinedStr (v1 :: v2 :: rest) pos) tSomeStr := fun pins s σ H Q I q =>
  JoinedStr_many (h Str.empty pins s σ H Q I (by rw [show Str.empty.length = 0 from rfl]; omega) q)
end
end L2
set_option Elab.async false
set_option linter.all false
set_option maxRecDepth 100000
set_option maxHeartbeats 1000000
namespace L2
open PySem PySem.Spec PyProof.Rows
section
variable {X : Cx}
end
end L2
set_option Elab.async false
set_option linter.all false
set_option maxRecDepth 100000
set_option maxHeartbeats 1000000
namespace L2
open PySem PySem.Spec PyProof.Rows
section
variable {X : Cx} {pins : List (Addr × Obj)} {σ : St} {H : Hp} {s : Shared}
end
end L2
set_option Elab.async false
set_option linter.all false
set_option maxRecDepth 100000
set_option maxHeartbeats 1000000
namespace L2
open PySem PySem.Spec PyProof.Rows
def tLSet (K : PySem.W.Frag) (ta : TA) : TE := fun σ H Q => ta σ H fun vs H1 => ∃ (a : Addr) (ks : List Int), vs = [.ref a] ∧ SqL K H1 a (ks.map V.int) ∧ ks.length + 1 < 4096 ∧
  ∀ ns : List Int, ns.Nodup → (∀ k, k ∈ ns ↔ k ∈ ks) → Q (.int ns.length) H1
theorem pe_len_set {X : Cx} {K : PySem.W.Frag} {e : Expr} {ta : TA} {p1 p2 pos1 pos2 : Pos} (hK : X.K = K) (hc : X.calm = true) (hg : Gl X "len") (hm : X.mg "len" = none) (hg2 : Gl X "set") (hm2 : X.mg "set" = none) (he : PA X [e] ta)
    (h1 : starEach [e] X.env = [(false, eval e X.env)] := by rfl) (h2 : starEach [.Call (.Name "set" p2) [e] [] pos2] X.env = [(false, eval (.Call (.Name "set" p2) [e] [] pos2) X.env)] := by rfl) :
    PE X (.Call (.Name "len" p1) [.Call (.Name "set" p2) [e] [] pos2] [] pos1) (tLSet K ta) := by
  subst hK
  intro pins s σ H Q I h
  have inner : wpAny (model X.prog X.w) X.A (eval (.Call (.Name "set" p2) [e] [] pos2) X.env) (fun v s1 => ∃ (S : Addr) (H1 : Hp) (ks : List Int), v = .ref S ∧ Inv X pins σ H1 s1 ∧ SetI X.prog X.w s1.heap S (!X.w.params.followText "set-order") ks ∧ ks.length + 1 < 4096 ∧
      ∀ ns : List Int, ns.Nodup → (∀ k, k ∈ ns ↔ k ∈ ks) → Q (.int ns.length) H1) X.xe s := by
    refine Call_ (ld_blt I hg2 hm2 PyProof.Rows.boot_set (PyProof.Rows.callWith_type1 (thn (he pos2 pins s σ H _ I h) fun us s1 hm0 => ?_) h1 rfl))
    obtain ⟨vs, H1, I1, r, q⟩ := hm0
    obtain ⟨a, ks, rfl, ha, hz, q⟩ := q
    obtain ⟨u, rfl, ru⟩ := vals1 r
    cases ru
    obtain ⟨its, rv, pl, _⟩ := I1.list ha
    have hi : IntsAre its ks := intsAre_of rv
    have hs : its.toArray.size = ks.length := by rw [List.size_toArray]; exact hi.length
    refine PySem.own_set_list (I1.ok.hd hc) pl.isList (by simpa using hi) (by rw [hs]; exact hz) fun h' tk sI k => ?_
    rw [hs, map_getD] at sI
    exact ⟨_, H1, ks, rfl, I1.kept (t' := tk) k, sI, hz, q⟩
  refine Call_ (ld_blt I hg hm PySem.boot_len (PyProof.Rows.callWith_builtin1 (by
    rw [h2]
    refine Calls.spliced_cons (thn inner fun v s1 x => Calls.spliced_nil ?_)
    obtain ⟨S, H1, ks, rfl, I1, sI, hz, q⟩ := x
    obtain ⟨o, es, ep, t, ns, ho, hex, hd, _, hI, nd, mem, hsz, hf, _⟩ := sI
    have hn : es.size = ns.length := by have := hI.length; simpa using this
    have hsm : ns.length ≤ ks.length := nodup_sub ns ks nd fun x hx => (mem x).mp hx
    refine PySem.call_len_set ho hex hd hf (by omega) ?_
    have q2 := q ns nd mem
    rw [← hn] at q2
    exact ⟨.int ((es.size : Nat) : Int), H1, I1.kept (t' := s1.toks + 1 + 1) fun _ _ z => z, ⟨_, rfl⟩, q2⟩) h2 rfl))
end L2
set_option Elab.async false
set_option linter.all false
namespace L2
open PySem PyProof.Rows
section
variable {prog : Program} {w : World} {A : Around} {E : Value → Shared → Prop} {s : Shared}
end
end L2
set_option Elab.async false
set_option linter.all false
namespace L2
open PySem PyProof.Rows
section
variable {prog : Program} {w : World} {A : Around} {E : Value → Shared → Prop} {s : Shared}
end
end L2
set_option Elab.async false
set_option linter.all false
namespace L2
open PySem PyProof.Rows
section
variable {prog : Program} {w : World} {A : Around} {E : Value → Shared → Prop} {s : Shared}
end
end L2
set_option Elab.async false
set_option linter.all false
namespace L2
open PySem PyProof.Rows
section
variable {a₀ : Array Keyed} {pd : Array (Nat × Nat × Nat)} {st : SortSt}
variable {prog : Program} {w : World} {A : Around} {E : Value → Shared → Prop} {s : Shared}
end
end L2
set_option Elab.async false
set_option linter.all false
namespace L2
open PySem PyProof.Rows
section
variable {prog : Program} {w : World} {A : Around} {E : Value → Shared → Prop} {s : Shared} {a₀ : Array Keyed} {pd : Array (Nat × Nat × Nat)} {st : SortSt}
end
end L2
set_option Elab.async false
set_option linter.all false
namespace L2
open PySem PyProof.Rows
section
variable {prog : Program} {w : World} {A : Around} {E : Value → Shared → Prop} {s : Shared} {a₀ : Array Keyed} {st : SortSt}
end
end L2
set_option Elab.async false
set_option linter.all false
set_option maxRecDepth 100000
set_option maxHeartbeats 1000000
namespace L2
open PySem PySem.Spec PyProof.Rows
section
variable {prog : Program} {w : World} {A : Around} {E : Value → Shared → Prop} {s : Shared}
end
section
variable {X : Cx}
end
end L2
set_option Elab.async false
set_option linter.all false
set_option maxRecDepth 100000
set_option maxHeartbeats 1000000
namespace L2
open PySem PySem.Spec PyProof.Rows
section
variable {P : Program} {w : World} {K : PySem.W.Frag} {mg : Str → Option Value} {base : Heap}
end
end L2
set_option linter.all false
namespace Law
open PySem L2
end Law
set_option linter.all false
namespace Law
open PySem L2
section
variable (G : List Row) (hand : Int) (ins : Int → Bool)
end
section
variable {G : List Row} {hand : Int} {ins : Int → Bool}
end
section
variable (G : List Row) (hand : Int) (ins want : Int → Bool)
end
section
variable {G : List Row} {hand : Int} {ins want : Int → Bool}
end
end Law
set_option linter.all false
namespace Law
open PySem L2
section
variable (G : List Row) (hand : Int) (ins want : Int → Bool)
end
section
variable {G : List Row} {hand : Int} {ins want : Int → Bool}
variable {R : List (List Int)}
end
end Law
set_option Elab.async false
set_option linter.all false
set_option maxRecDepth 100000
set_option maxHeartbeats 1000000
namespace L2
open PySem PySem.Spec PyProof.Rows
theorem cut_from1 (xs : List V) : cutV xs (some 1) none = xs.drop 1 := by
  unfold cutV
  show List.take _ (List.drop (HT.sIx xs.length 0 (some ((1 : Nat) : Int))) xs) = _
  rw [HT.sIx_nat, HT.sIx_none]
  cases xs with
  | nil => rfl
  | cons x xs =>
    have : min 1 (x :: xs).length = 1 := by simp
    show List.take ((x :: xs).length - min 1 (x :: xs).length) (List.drop (min 1 (x :: xs).length) (x :: xs)) = _
    rw [this]
    refine List.take_of_length_le ?_
    simp
end L2
set_option linter.all false
namespace Law
open PySem L2
section
variable {G : List Row} {hand : Int} {ins want : Int → Bool} {R : List (List Int)}
end
end Law
set_option Elab.async false
set_option linter.all false
set_option maxRecDepth 100000
set_option maxHeartbeats 1000000
namespace L2
open PySem PySem.Spec PyProof.Rows
section
variable {X : Cx}
end
end L2
set_option linter.all false
namespace Law
open PySem L2
section
variable {G : List Row} {hand : Int} {want : Int → Bool} {R : List (List Int)}
end
end Law
set_option Elab.async false
set_option linter.all false
set_option maxRecDepth 100000
set_option maxHeartbeats 1000000
namespace L2
open PySem PySem.Spec PyProof.Rows
section
variable {P : Program} {w : World} {K : PySem.W.Frag} {mg : Str → Option Value} {base : Heap}
end
section
variable {X : Cx}
end
end L2
set_option Elab.async false
set_option linter.all false
set_option maxRecDepth 100000
set_option maxHeartbeats 1000000
namespace L2
open PySem PySem.Spec PyProof.Rows
section
variable {H H' : Hp} {a b c : Addr}
end
end L2
set_option Elab.async false
set_option linter.all false
namespace L2
open PySem PySem.Spec PyProof.Rows
section
variable {K : PySem.W.Frag} {i j : Nat} {σ : St} {H : Hp} {Q : VK} {a b C dx : Addr} {xs ys : List V} {z c : Int} {v u : V} {f : Str} {fs : List (Str × V)}
end
end L2
set_option linter.all false
namespace L2
end L2
set_option linter.all false
namespace Law
open PySem L2
section
variable {G : List Row} {hand : Int} {left : List Int} {want : Int → Bool} {R : List (List Int)}
end
end Law
set_option linter.all false
namespace Law
open PySem L2
section
variable {G : List Row} {P D0 D1 : Int → Prop} {wf wf' : Int → Option Int}
end
end Law
set_option linter.all false
namespace Law
open PySem L2
section
variable {G : List Row} {hf : Int → Int} {wf : Int → Option Int} {c : Int}
end
end Law
set_option linter.all false
namespace Law
open PySem L2
end Law
set_option Elab.async false
set_option linter.all false
set_option maxRecDepth 100000
set_option maxHeartbeats 1000000
namespace L2
open PySem PySem.W PySem.Spec PyProof.Rows
section
variable {k : Nat → Int} {n : Nat} {cmp : Nat → Nat → (Bool → Shared → Prop) → Shared → Prop} {s : Shared}
def pa (k : Nat → Int) (p : Array Nat) (i : Nat) : Int := k (p.getD i 0)
def PRng (n : Nat) (p : Array Nat) : Prop := p.Perm (List.range n).toArray
def UpTo (k : Nat → Int) (p : Array Nat) (m : Nat) : Prop := ∀ i j, i < j → j < m → pa k p i < pa k p j
def DnTo (k : Nat → Int) (p : Array Nat) (m : Nat) : Prop := ∀ i j, i < j → j < m → pa k p j < pa k p i
theorem PRng.size {p : Array Nat} (h : PRng n p) : p.size = n := by have := h.size_eq; simpa using this
theorem PRng.lt {p : Array Nat} (h : PRng n p) {i : Nat} (hi : i < n) : p.getD i 0 < n := by
  have hs := h.size
  have hm : p.getD i 0 ∈ p := by rw [Array.getD_eq_getD_getElem?, Array.getElem?_eq_getElem (by omega)]; exact Array.getElem_mem _
  have := h.mem_iff.mp hm
  simpa using this
theorem PRng.inj {p : Array Nat} (h : PRng n p) {i j : Nat} (hi : i < n) (hj : j < n) (e : p.getD i 0 = p.getD j 0) : i = j := by
  have hs := h.size
  have nd : p.toList.Nodup := (Array.perm_iff_toList_perm.mp h).nodup_iff.mpr (by simpa using List.nodup_range)
  have a : p.toList[i]? = some (p.getD i 0) := by rw [Array.getD_eq_getD_getElem?, Array.getElem?_eq_getElem (by omega), Array.getElem?_toList, Array.getElem?_eq_getElem (by omega)]; rfl
  have b : p.toList[j]? = some (p.getD j 0) := by rw [Array.getD_eq_getD_getElem?, Array.getElem?_eq_getElem (by omega), Array.getElem?_toList, Array.getElem?_eq_getElem (by omega)]; rfl
  rw [← e] at b
  have hl : i < p.toList.length := by rw [Array.length_toList]; omega
  exact (List.getElem?_inj hl nd).mp (a.trans b.symm)
theorem pa_ne (hk : ∀ i j, i < n → j < n → k i = k j → i = j) {p : Array Nat} (h : PRng n p) {i j : Nat} (hi : i < n) (hj : j < n) (hij : i ≠ j) : pa k p i ≠ pa k p j := fun e => hij (h.inj hi hj (hk _ _ (h.lt hi) (h.lt hj) e))
theorem pa_at {p q : Array Nat} {i j : Nat} (h : p[i]? = q[j]?) : pa k p i = pa k q j := by unfold pa; rw [Array.getD_eq_getD_getElem?, Array.getD_eq_getD_getElem?, h]
theorem wp_ask {α : Type} {i j : Nat} {g : Bool → KasT α} {Q : α → Shared → Prop} (hc : ∀ i j C, i < n → j < n → C (decide (k i < k j)) s → cmp i j C s) (hi : i < n) (hj : j < n) (h : KasT.kasWp cmp (g (decide (k i < k j))) Q s) : KasT.kasWp cmp (.ask i j g) Q s := hc i j _ hi hj h
theorem wp_asc (hk : ∀ i j, i < n → j < n → k i = k j → i = j) (hc : ∀ i j C, i < n → j < n → C (decide (k i < k j)) s → cmp i j C s) {p : Array Nat} (hp : PRng n p) {Q : Nat → Shared → Prop} : ∀ (f m : Nat), 1 ≤ m → m + f ≤ n → UpTo k p m → (∀ m', m ≤ m' → m' ≤ m + f → UpTo k p m' → (m' < m + f → pa k p m' < pa k p (m' - 1)) → Q m' s) → KasT.kasWp cmp (kas_asc p f m) Q s := by
  intro f
  induction f with
  | zero =>
    intro m h1 hm hu q
    exact q m (Nat.le_refl _) (Nat.le_refl _) hu (fun z => absurd z (Nat.lt_irrefl _))
  | succ f ih =>
    intro m h1 hm hu q
    rw [kas_asc.eq_2]
    refine wp_ask hc (hp.lt (by omega)) (hp.lt (by omega)) ?_
    by_cases c : k (p.getD m 0) < k (p.getD (m - 1) 0)
    · rw [decide_eq_true c, if_pos rfl]
      exact q m (Nat.le_refl _) (by omega) hu (fun _ => c)
    · rw [decide_eq_false c, if_neg (by decide)]
      refine ih (m + 1) (by omega) (by omega) (fun i j hij hj => ?_) (fun m' a b => by
        have e : m + 1 + f = m + (f + 1) := by omega
        rw [e] at b ⊢
        exact q m' (by omega) b)
      have hne := pa_ne hk hp (i := m - 1) (j := m) (by omega) (by omega) (by omega)
      have hlt : pa k p (m - 1) < pa k p m := by
        have : ¬ pa k p m < pa k p (m - 1) := c
        omega
      by_cases e : j = m
      · subst e
        by_cases e2 : i = j - 1
        · rw [e2]; exact hlt
        · have := hu i (j - 1) (by omega) (by omega); omega
      · exact hu i j hij (by omega)
theorem wp_desc (hk : ∀ i j, i < n → j < n → k i = k j → i = j) (hc : ∀ i j C, i < n → j < n → C (decide (k i < k j)) s → cmp i j C s) {p : Array Nat} (hp : PRng n p) {Q : Array Nat × Nat × Nat → Shared → Prop} : ∀ (f m : Nat), 1 ≤ m → m + f ≤ n → DnTo k p m → (∀ m', m ≤ m' → m' ≤ m + f → DnTo k p m' → Q (p, m', 0) s) → KasT.kasWp cmp (kas_desc f p m 0) Q s := by
  intro f
  induction f with
  | zero =>
    intro m h1 hm hu q
    exact q m (Nat.le_refl _) (Nat.le_refl _) hu
  | succ f ih =>
    intro m h1 hm hu q
    rw [kas_desc.eq_2]
    refine wp_ask hc (hp.lt (by omega)) (hp.lt (by omega)) ?_
    by_cases c : k (p.getD m 0) < k (p.getD (m - 1) 0)
    · rw [decide_eq_true c, if_pos rfl, if_neg (by decide)]
      refine ih (m + 1) (by omega) (by omega) (fun i j hij hj => ?_) (fun m' a b => by
        have e : m + 1 + f = m + (f + 1) := by omega
        rw [e] at b
        exact q m' (by omega) b)
      have hlt : pa k p m < pa k p (m - 1) := c
      by_cases e : j = m
      · subst e
        by_cases e2 : i = j - 1
        · rw [e2]; exact hlt
        · have := hu i (j - 1) (by omega) (by omega); omega
      · exact hu i j hij (by omega)
    · rw [decide_eq_false c, if_neg (by decide)]
      have hne := pa_ne hk hp (i := m - 1) (j := m) (by omega) (by omega) (by omega)
      have hlt : k (p.getD (m - 1) 0) < k (p.getD m 0) := by
        have : pa k p (m - 1) < pa k p m := by
          have : ¬ pa k p m < pa k p (m - 1) := c
          omega
        exact this
      refine wp_ask hc (hp.lt (by omega)) (hp.lt (by omega)) ?_
      rw [decide_eq_true hlt, if_pos rfl]
      exact q m (Nat.le_refl _) (by omega) hu
theorem wp_place (hk : ∀ i j, i < n → j < n → k i = k j → i = j) (hc : ∀ i j C, i < n → j < n → C (decide (k i < k j)) s → cmp i j C s) {p : Array Nat} (hp : PRng n p) {m : Nat} (hm : m < n) (hu : UpTo k p m) {Q : Nat → Shared → Prop} : ∀ (f l r : Nat), l ≤ r → r ≤ m → r - l ≤ f → (∀ i, i < l → pa k p i < pa k p m) → (∀ i, r ≤ i → i < m → pa k p m < pa k p i) →
    (∀ l, l ≤ m → (∀ i, i < l → pa k p i < pa k p m) → (∀ i, l ≤ i → i < m → pa k p m < pa k p i) → Q l s) → KasT.kasWp cmp (kas_place p m f l r) Q s := by
  intro f
  induction f with
  | zero =>
    intro l r h1 h2 h3 a b q
    have : l = r := by omega
    subst this
    exact q l h2 a b
  | succ f ih =>
    intro l r h1 h2 h3 a b q
    rw [kas_place.eq_2]
    by_cases e : l ≥ r
    · rw [if_pos e]
      have : l = r := by omega
      subst this
      exact q l h2 a b
    · rw [if_neg e]
      refine wp_ask hc (hp.lt hm) (hp.lt (by omega)) ?_
      by_cases c : k (p.getD m 0) < k (p.getD ((l + r) / 2) 0)
      · rw [decide_eq_true c, if_pos rfl]
        refine ih l _ (by omega) (by omega) (by omega) a (fun i hi him => ?_) q
        have hlt : pa k p m < pa k p ((l + r) / 2) := c
        by_cases e2 : i = (l + r) / 2
        · rw [e2]; exact hlt
        · have := hu ((l + r) / 2) i (by omega) him; omega
      · rw [decide_eq_false c, if_neg (by decide)]
        have hne := pa_ne hk hp (i := m) (j := (l + r) / 2) (by omega) (by omega) (by omega)
        have hlt : pa k p ((l + r) / 2) < pa k p m := by
          have : ¬ pa k p m < pa k p ((l + r) / 2) := c
          omega
        refine ih _ r (by omega) h2 (by omega) (fun i hi => ?_) b q
        by_cases e2 : i = (l + r) / 2
        · rw [e2]; exact hlt
        · have := hu i ((l + r) / 2) (by omega) (by omega); omega
theorem wp_bin (hk : ∀ i j, i < n → j < n → k i = k j → i = j) (hc : ∀ i j C, i < n → j < n → C (decide (k i < k j)) s → cmp i j C s) {Q : Array Nat → Shared → Prop} (q : ∀ p, PRng n p → UpTo k p n → Q p s) : ∀ (f m : Nat) (p : Array Nat), PRng n p → m + f = n → UpTo k p m → KasT.kasWp cmp (kas_bin f p m) Q s := by
  intro f
  induction f with
  | zero =>
    intro m p hp e hu
    have : m = n := by omega
    subst this
    exact q p hp hu
  | succ f ih =>
    intro m p hp e hu
    rw [kas_bin.eq_2, KasT.kasWp_bind]
    have hm : m < n := by omega
    refine wp_place hk hc hp hm hu m 0 m (Nat.zero_le _) (Nat.le_refl _) (by omega) (fun i hi => absurd hi (Nat.not_lt_zero _)) (fun i h1 h2 => by omega) (fun l hl a b => ?_)
    refine ih (m + 1) _ ((bubble_perm _ _ _).trans hp) (by omega) (fun i j hij hj => ?_)
    have hsz : m < p.size := by rw [hp.size]; exact hm
    have key : ∀ x, pa k (bubble p m (m - l)) x = if x = l then pa k p m else if l < x ∧ x ≤ m then pa k p (x - 1) else pa k p x := fun x => by
      have g := getElem?_bubble hsz (m - l) (by omega) x
      have e : m - (m - l) = l := by omega
      rw [e] at g
      by_cases c1 : x = l
      · rw [if_pos c1]; rw [if_pos c1] at g; exact pa_at g
      · rw [if_neg c1]; rw [if_neg c1] at g
        by_cases c2 : l < x ∧ x ≤ m
        · rw [if_pos c2]; rw [if_pos c2] at g; exact pa_at g
        · rw [if_neg c2]; rw [if_neg c2] at g; exact pa_at g
    rw [key i, key j]
    by_cases c1 : i = l
    · rw [if_pos c1, if_neg (by omega), if_pos (by omega)]
      exact b (j - 1) (by omega) (by omega)
    · rw [if_neg c1]
      by_cases c2 : l < i ∧ i ≤ m
      · rw [if_pos c2, if_neg (by omega), if_pos (by omega)]
        exact hu (i - 1) (j - 1) (by omega) (by omega)
      · rw [if_neg c2]
        by_cases c3 : j = l
        · rw [if_pos c3]; exact a i (by omega)
        · rw [if_neg c3]
          by_cases c4 : l < j ∧ j ≤ m
          · rw [if_pos c4]
            by_cases c5 : i = j - 1
            · omega
            · exact hu i (j - 1) (by omega) (by omega)
          · rw [if_neg c4]; exact hu i j hij (by omega)
theorem wp_sort (hk : ∀ i j, i < n → j < n → k i = k j → i = j) (hc : ∀ i j C, i < n → j < n → C (decide (k i < k j)) s → cmp i j C s) (hn : 1 ≤ n) {Q : Array Nat → Shared → Prop} (q : ∀ p, PRng n p → UpTo k p n → Q p s) : KasT.kasWp cmp (kas_sort n) Q s := by
  have hp0 : PRng n (List.range n).toArray := Array.Perm.refl _
  have fin : ∀ m p, 1 ≤ m → m ≤ n → PRng n p → UpTo k p m → KasT.kasWp cmp (if (m, p).1 < n then kas_bin (n - max (m, p).1 1) (m, p).2 (max (m, p).1 1) else .ret (m, p).2) Q s := fun m p h1 h2 hp hu => by
    show KasT.kasWp cmp (if m < n then kas_bin (n - max m 1) p (max m 1) else .ret p) Q s
    have e : max m 1 = m := by omega
    by_cases c : m < n
    · rw [if_pos c, e]; exact wp_bin hk hc q _ _ _ hp (by omega) hu
    · rw [if_neg c]
      have : m = n := by omega
      subst this
      exact q p hp hu
  unfold kas_sort
  rw [KasT.kasWp_bind]
  unfold kas_count
  rw [KasT.kasWp_bind]
  refine wp_asc hk hc hp0 (n - 1) 1 (Nat.le_refl _) (by omega) (fun i j a b => by omega) (fun m h1 h2 hu hl => ?_)
  by_cases c1 : (m == n) = true
  · rw [if_pos c1]; exact fin m _ h1 (by omega) hp0 hu
  · rw [if_neg c1]
    have c1' : m ≠ n := fun e => c1 (by rw [e]; simp)
    by_cases c2 : m > 1
    · rw [if_pos c2]
      refine wp_ask hc (hp0.lt (by omega)) (hp0.lt (by omega)) ?_
      have : k ((List.range n).toArray.getD 0 0) < k ((List.range n).toArray.getD (m - 1) 0) := hu 0 (m - 1) (by omega) (by omega)
      rw [decide_eq_true this, if_pos rfl]
      exact fin m _ h1 (by omega) hp0 hu
    · rw [if_neg c2]
      have em : m = 1 := by omega
      subst em
      have hd := hl (by omega)
      unfold kas_descPart
      rw [KasT.kasWp_bind]
      refine wp_desc hk hc hp0 (n - (1 + 1)) (1 + 1) (by omega) (by omega) (fun i j a b => ?_) (fun m h1 h2 hdn => ?_)
      · have : i = 0 ∧ j = 1 := by omega
        rw [this.1, this.2]; exact hd
      · rw [if_neg (Nat.lt_irrefl 0)]
        unfold kas_tail3
        rw [KasT.kasWp_bind]
        have hsz : m ≤ (List.range n).toArray.size := by rw [hp0.size]; omega
        have hpr : PRng n (kas_rev (List.range n).toArray 0 m) := (mirror_perm _ _ _ _).trans hp0
        have key : ∀ x, x < m → pa k (kas_rev (List.range n).toArray 0 m) x = pa k (List.range n).toArray (0 + m - 1 - x) := fun x hx => by
          have g := getElem?_mirror_all (i := 0) hsz x
          rw [if_pos ⟨Nat.zero_le _, hx⟩] at g
          exact pa_at g
        refine wp_asc hk hc hpr (n - m) m (by omega) (by omega) (fun i j a b => ?_) (fun m' h1' h2' hu' _ => ?_)
        · rw [key i (by omega), key j b]
          exact hdn _ _ (by omega) (by omega)
        · exact fin m' _ (by omega) (by omega) hpr hu'
end
end L2
set_option Elab.async false
set_option linter.all false
set_option maxRecDepth 100000
set_option maxHeartbeats 1000000
namespace L2
open PySem PySem.Spec PyProof.Rows
section
variable {prog : Program} {w : World} {A : Around} {E : Value → Shared → Prop} {s : Shared}
def PairAt (h : Heap) (v : Value) (a b : Int) : Prop := ∃ t o e ta tb, v = .ref t ∧ h.get? t = some o ∧ o.cls = .type "tuple" ∧ o.data = .seq #[.int a ta, .int b tb] e
theorem pair_lt {x y : Value} {a b a' b' : Int} {Q : Bool → Shared → Prop} (hx : PairAt s.heap x a b) (hy : PairAt s.heap y a' b') (hd : a = a' → b = b') (h : Q (decide (a < a')) s) : wpAny (model prog w) A (keyLt' (tuples' true) x y) Q E s := by
  obtain ⟨t, o, e, ta, tb, rfl, ho, _, hs⟩ := hx
  obtain ⟨t', o', e', ta', tb', rfl, ho', _, hs'⟩ := hy
  refine PySem.W.kat_lt ho hs ho' hs' (PySem.W.kat_cons (wpAny_eqBool_int (PySem.W.kat_go (fun c => PySem.W.kat_yes (PySem.W.kat_cons (wpAny_eqBool_int (PySem.W.kat_go (fun c2 => PySem.W.kat_yes (PySem.W.kat_nil ?_)) (fun c2 => ?_))))) (fun c => PySem.W.kat_no (oneLt_int h)))))
  · have e : a = a' := of_decide_eq_true c
    rw [decide_eq_false (by omega)] at h
    exact h
  · have e : a = a' := of_decide_eq_true c
    have := of_decide_eq_false c2
    exact absurd (hd e) this
theorem PairAt.keep {h : Heap} {v : Value} {a b : Int} {at_ : Addr} {us : List Value} {ep : Nat} {f : Array Value → Array Value} {o1 o2 : Obj} (p : PairAt h v a b) (ho : h.get? at_ = some (seqObj "list" us.toArray ep)) : PairAt (((h.update at_ (Obj.mapSeq f)).push o1).push o2) v a b := by
  obtain ⟨t, o, e, ta, tb, rfl, h1, h2, h3⟩ := p
  have ne : t ≠ at_ := fun z => by
    subst z
    rw [ho] at h1; cases h1
    simp [seqObj] at h2
  refine ⟨t, o, e, ta, tb, rfl, ?_, h2, h3⟩
  exact Heap.get?_push_of_some _ (Heap.get?_push_of_some _ (by rw [Heap.get?_update_ne _ _ _ _ ne]; exact h1))
theorem katTups_of {h : Heap} : ∀ us : List Value, (∀ v ∈ us, ∃ a b, PairAt h v a b) → ∃ fs, PySem.W.KatTups h us fs ∧ fs.length = us.length ∧ ∀ v ∈ fs, ∃ a t, v = Value.int a t
  | [], _ => ⟨[], .nil, rfl, fun _ z => by cases z⟩
  | v :: r, hh => by
    obtain ⟨a, b, t, o, e, ta, tb, rfl, h1, h2, h3⟩ := hh v List.mem_cons_self
    obtain ⟨fs, f1, f2, f3⟩ := katTups_of r fun u hu => hh u (List.mem_cons_of_mem _ hu)
    refine ⟨.int a ta :: fs, .cons h1 h2 h3 rfl f1, by simp [f2], fun u hu => ?_⟩
    rcases List.mem_cons.mp hu with z | z
    · exact ⟨a, ta, z⟩
    · exact f3 u z
theorem sort_pairs {at_ : Addr} {us : List Value} {ep : Nat} {R : Fin → Shared → Prop} {ka kb : Nat → Int} (ho : s.heap.get? at_ = some (seqObj "list" us.toArray ep)) (hP : ∀ i, i < us.length → PairAt s.heap (us.getD i .none) (ka i) (kb i)) (hd : ∀ i j, i < us.length → j < us.length → ka i = ka j → i = j) (hz : us.length < 64)
    (k : ∀ p : Array Nat, PRng us.length p → UpTo ka p us.length → R (.done (.ret .none)) { s with heap := sortedHeap s.heap at_ us (p.toList.map fun i => us.getD i .none).toArray }) :
    wpAny (model prog w) A (Builtin.«list.sort» ⟨[.ref at_], []⟩) R E s := by
  have lt0 : at_ < s.heap.objs.size := Heap.lt_size ho
  have line : us.length ≤ sizeLine := small (m := 64) (by omega)
  rw [list_sort_plain]
  refine wpAny_bind (listItems_at ho rfl (wpAny_bind (listUpdate_at ho rfl ?_ (by rw [List.size_toArray]; exact line) (by simp))))
  obtain ⟨ep1, ho1⟩ : ∃ ep1, (s.heap.update at_ (Obj.mapSeq fun _ => #[])).get? at_ = some (seqObj "list" #[] ep1) := ⟨_, get?_update_seq ho (fun _ => #[])⟩
  refine wpAny_bind (seqEpoch_at ho1 rfl (wpAny_bind (wpAny_newTuple (wpAny_bind (wpAny_newList (wpAny_holding ?_))))))
  have ho2 : (((s.heap.update at_ (Obj.mapSeq fun _ => #[])).push (seqObj "tuple" us.toArray 0)).push (seqObj "list" #[] 0)).get? at_ = some (seqObj "list" #[] ep1) := by
    rw [Heap.get?_push_ne, Heap.get?_push_ne]
    · exact ho1
    · rw [Heap.size_update]; exact Nat.ne_of_lt lt0
    · rw [size_push', Heap.size_update]; exact Nat.ne_of_lt (Nat.lt_succ_of_lt lt0)
  show wpAny (model prog w) A _ R E { s with heap := ((s.heap.update at_ (Obj.mapSeq fun _ => #[])).push (seqObj "tuple" us.toArray 0)).push (seqObj "list" #[] 0) }
  dsimp only
  have fin : ∀ (st2 : SortSt) (p : Array Nat), (arrOf st2).map (·.2) = (p.toList.map fun i => us.getD i .none).toArray → failedOf st2 = none → PRng us.length p → UpTo ka p us.length → R (.done (.ret .none)) { s with heap := sortedHeap s.heap at_ us ((arrOf st2).map (·.2)) } := fun st2 p e _ h1 h2 => by rw [e]; exact k p h1 h2
  by_cases h2 : us.length < 2
  · rw [if_pos (by rw [List.size_toArray]; exact h2), if_pos (by rw [List.size_toArray]; exact h2)]
    refine wpAny_bind (wpAny_pure (wpAny_bind (wpAny_pure ?_)))
    dsimp only
    have hp0 : PRng us.length (List.range us.length).toArray := Array.Perm.refl _
    have e : ((us.toArray.zip us.toArray).map (·.2)) = ((List.range us.length).toArray.toList.map fun i => us.getD i .none).toArray := by
      rcases us with _ | ⟨v1, _ | ⟨v2, more⟩⟩
      · simp
      · simp
      · simp at h2; omega
    have hout : ((us.toArray.zip us.toArray).map (·.2)).size = us.length := by simp
    refine wpAny_bind (seqEpoch_at ho2 rfl (wpAny_bind (listUpdate_at ho2 rfl ?_ (Nat.zero_le _) (by show ((us.toArray.zip us.toArray).map (·.2)).size ≤ _; rw [hout]; exact Nat.le_succ_of_le line))))
    simp only [bne_self_eq_false, Bool.false_eq_true, if_false]
    refine wpAny_pure ?_
    have := k _ hp0 (fun i j h1 h2 => by omega)
    rw [← e] at this
    exact this
  · rw [if_neg (by rw [List.size_toArray]; exact h2), if_neg (by rw [List.size_toArray]; exact h2)]
    have hP2 : ∀ i, i < us.length → PairAt (((s.heap.update at_ (Obj.mapSeq fun _ => #[])).push (seqObj "tuple" us.toArray 0)).push (seqObj "list" #[] 0)) (us.getD i .none) (ka i) (kb i) := fun i hi => (hP i hi).keep ho
    obtain ⟨fs, f1, f2, f3⟩ := katTups_of us fun v hv => by
      obtain ⟨i, hi, e⟩ := List.getElem_of_mem hv
      have := hP2 i hi
      rw [List.getD_eq_getElem?_getD, List.getElem?_eq_getElem hi, Option.getD_some, e] at this
      exact ⟨_, _, this⟩
    refine wpAny_bind (PySem.W.kat_kind (T := .type "int") f1 (by rw [f2]; omega) (fun v hv => ?_) (by decide) ?_)
    · obtain ⟨a, tk, rfl⟩ := f3 v hv
      exact fun A Q E s _ q => wpAny_pure q
    refine wpAny_bind (wpAny_mono (PySem.W.kat_run (vs := us) (ks := us) (Q := fun st' s' => s' = { s with heap := ((s.heap.update at_ (Obj.mapSeq fun _ => #[])).push (seqObj "tuple" us.toArray 0)).push (seqObj "list" #[] 0) } ∧ ∃ p, (arrOf st').map (·.2) = (p.toList.map fun i => us.getD i .none).toArray ∧ failedOf st' = none ∧ PRng us.length p ∧ UpTo ka p us.length) (G := fun p s' => s' = { s with heap := ((s.heap.update at_ (Obj.mapSeq fun _ => #[])).push (seqObj "tuple" us.toArray 0)).push (seqObj "list" #[] 0) } ∧ PRng us.length p ∧ UpTo ka p us.length) rfl (by omega) hz (fun p st' s' h1 h2 h3 h4 => ⟨h4.1, p, PySem.W.kat_snds rfl h2, h3, h4.2⟩) ?_) ?_ fun _ _ z => z)
    rotate_left
    · rintro ⟨⟨⟩, st'⟩ s' ⟨rfl, p, e, h3, hp, hu⟩
      dsimp only at e h3 ⊢
      have hout : ((arrOf st').map (·.2)).size = us.length := by rw [e]; simp [hp.size]
      refine wpAny_bind (seqEpoch_at ho2 rfl (wpAny_bind (listUpdate_at ho2 rfl ?_ (Nat.zero_le _) (by show ((arrOf st').map (·.2)).size ≤ _; rw [hout]; exact Nat.le_succ_of_le line))))
      rw [h3]
      simp only [bne_self_eq_false, Bool.false_eq_true, if_false]
      exact wpAny_pure (fin st' p e h3 hp hu)
    · refine wp_sort (k := ka) hd (fun i j C hi hj hC => ?_) (by omega) (fun p hp hu => ⟨rfl, hp, hu⟩)
      exact pair_lt (hP2 i hi) (hP2 j hj) (fun e => by rw [hd i j hi hj e]) hC
theorem PairAt.up {h h' : Heap} {v : Value} {a b : Int} (p : PairAt h v a b) (k : ∀ b o, h.get? b = some o → h'.get? b = some o) : PairAt h' v a b := by
  obtain ⟨t, o, e, ta, tb, rfl, h1, h2, h3⟩ := p
  exact ⟨t, o, e, ta, tb, rfl, k _ _ h1, h2, h3⟩
theorem sorted_pairs {l : Addr} {us : List Value} {Q : Value → Shared → Prop} {ka kb : Nat → Int} (hl : s.heap.IsList l us.toArray) (hP : ∀ i, i < us.length → PairAt s.heap (us.getD i .none) (ka i) (kb i)) (hd : ∀ i j, i < us.length → j < us.length → ka i = ka j → i = j) (hz : us.length < 64)
    (k : ∀ p : Array Nat, PRng us.length p → UpTo ka p us.length → Q (.ref (s.heap.objs.size + 1)) { s with heap := sortedAll s.heap us (p.toList.map fun i => us.getD i .none).toArray }) :
    wpAny (model prog w) A (call (.builtin "sorted") [.ref l]) Q E s := by
  refine Calls.call_function_entry kind_sorted plain_sorted entry_sorted (args_sorted1 _) ?_
  unfold Builtin.«sorted»
  refine wpAny_bind (m := checkCount "sorted" 1 1 _) (wpAny_pure (wpAny_bind (collect_list hl (wpAny_bind (wpAny_newList ?_ (small (m := 64) (by omega)))) (small (m := 64) (by omega)))))
  have sz : ((s.heap.push (seqObj "list" #[] 0)).update s.heap.objs.size (Obj.mapSeq (· ++ us.toArray))).objs.size = s.heap.objs.size + 1 := by rw [Heap.size_update, size_push']
  have hoL : (((s.heap.push (seqObj "list" #[] 0)).update s.heap.objs.size (Obj.mapSeq (· ++ us.toArray))).push (seqObj "list" us.toArray 0)).get? (s.heap.objs.size + 1) = some (seqObj "list" us.toArray 0) := by
    have := Heap.get?_push_size ((s.heap.push (seqObj "list" #[] 0)).update s.heap.objs.size (Obj.mapSeq (· ++ us.toArray))) (o := seqObj "list" us.toArray 0) rfl
    rwa [sz] at this
  have hup : ∀ b o, s.heap.get? b = some o → (((s.heap.push (seqObj "list" #[] 0)).update s.heap.objs.size (Obj.mapSeq (· ++ us.toArray))).push (seqObj "list" us.toArray 0)).get? b = some o := fun b o h => Heap.get?_push_of_some _ (by rw [Heap.get?_update_ne _ _ _ _ (Nat.ne_of_lt (Heap.lt_size h))]; exact Heap.get?_push_of_some _ h)
  show wpAny _ _ _ _ _ { s with heap := ((s.heap.push (seqObj "list" #[] 0)).update s.heap.objs.size (Obj.mapSeq (· ++ us.toArray))).push (seqObj "list" us.toArray 0) }
  rw [sz]
  refine wpAny_bind (wpAny_holding (wpAny_call_entry slot_list_sort ⟨_, hoL, rfl⟩ entry_list_sort (sort_pairs hoL (fun i hi => (hP i hi).up hup) hd hz fun p y1 y2 => ⟨_, rfl, ?_⟩) (args_list_sort _)))
  exact wpAny_pure ⟨_, rfl, k p y1 y2⟩
end
theorem vals_prs : ∀ {ts : List (Addr × Int × Int)} {us : List Value}, Vals (ts.map fun t => V.ref t.1) us → us = ts.map fun t => Value.ref t.1
  | [], _, .nil => rfl
  | t :: r, _, .cons h q => by cases h; rw [vals_prs q]; rfl
theorem prs_vals (ts : List (Addr × Int × Int)) : Vals (ts.map fun t => V.ref t.1) (ts.map fun t => Value.ref t.1) := by
  induction ts with
  | nil => exact .nil
  | cons a b ih => exact .cons rfl ih
theorem perm_getD {α : Type} {ts : List α} {d : α} {p : Array Nat} (h : PRng ts.length p) : (p.toList.map fun i => ts.getD i d).Perm ts := by
  have h1 := (Array.perm_iff_toList_perm.mp h).map (fun i => ts.getD i d)
  have e : (List.range ts.length).map (fun i => ts.getD i d) = ts := by
    apply List.ext_getElem?
    intro i
    rw [List.getElem?_map]
    rcases Nat.lt_or_ge i ts.length with c | c
    · rw [List.getElem?_range c, List.getElem?_eq_getElem c]; simp [List.getElem?_eq_getElem c]
    · rw [List.getElem?_eq_none (by simpa using c), List.getElem?_eq_none c]; rfl
  have h1' : (p.toList.map fun i => ts.getD i d).Perm ((List.range ts.length).map fun i => ts.getD i d) := h1
  rw [e] at h1'
  exact h1'
section
variable {X : Cx}
theorem call_sortedP {K : PySem.W.Frag} (hK : X.K = K) : CallR X (.builtin "sorted") (fun xs H Q => ∃ (a : Addr) (ts : List (Addr × Int × Int)), xs = [.ref a] ∧ SqL K H a (ts.map fun t => V.ref t.1) ∧ ts.length < 64 ∧ (∀ t ∈ ts, SqT K H t.1 [.int t.2.1, .int t.2.2]) ∧ (ts.map fun t => t.2.1).Nodup ∧
    ∀ (p : Addr) (ts' : List (Addr × Int × Int)), H p = none → ts'.Perm ts → ts'.Pairwise (fun x y => x.2.1 < y.2.1) → Q (.ref p) (upd H p (.lst (ts'.map fun t => V.ref t.1)))) := by
  subst hK
  intro pins s σ H xs us Q I r h
  obtain ⟨a, ts, rfl, ha, hz, ht, nd, q⟩ := h
  obtain ⟨u, rfl, ru⟩ := vals1 r
  cases ru
  obtain ⟨its, rv, pl, _⟩ := I.list ha
  have ei := vals_prs rv
  subst ei
  have hlen : (ts.map fun t => Value.ref t.1).length = ts.length := List.length_map _
  have hgd : ∀ i, i < ts.length → ∃ t ∈ ts, ts[i]? = some t ∧ (ts.map fun t => Value.ref t.1).getD i .none = .ref t.1 ∧ ts.getD i (0, 0, 0) = t := fun i hi => by
    refine ⟨ts[i], List.getElem_mem _, by simp [hi], ?_, ?_⟩
    · simp [hi]
    · simp [hi]
  refine sorted_pairs (ka := fun i => (ts.getD i (0, 0, 0)).2.1) (kb := fun i => (ts.getD i (0, 0, 0)).2.2) pl.isList (fun i hi => ?_) (fun i j hi hj e => ?_) (by rw [hlen]; exact hz) (fun p hp hu => ?_)
  · rw [hlen] at hi
    obtain ⟨t, tm, _, e1, e2⟩ := hgd i hi
    rw [e1]
    show PairAt _ _ (ts.getD i (0, 0, 0)).2.1 (ts.getD i (0, 0, 0)).2.2
    rw [e2]
    obtain ⟨jts, rj, ⟨o, o1, o2, n, o3⟩, _⟩ := I.tuple (ht t tm)
    cases rj with
    | cons h1 q1 => cases q1 with
      | cons h2 q2 =>
        cases q2
        obtain ⟨t1, rfl⟩ := h1
        obtain ⟨t2, rfl⟩ := h2
        exact ⟨t.1, o, n, t1, t2, rfl, o1, o2, o3⟩
  · rw [hlen] at hi hj
    obtain ⟨t, _, a1, _, e2⟩ := hgd i hi
    obtain ⟨t', _, a2, _, e3⟩ := hgd j hj
    have e' : (ts.getD i (0, 0, 0)).2.1 = (ts.getD j (0, 0, 0)).2.1 := e
    rw [e2, e3] at e'
    refine (List.getElem?_inj (l := ts.map fun t => t.2.1) (by rw [List.length_map]; exact hi) nd).mp ?_
    rw [List.getElem?_map, List.getElem?_map, a1, a2]
    show some t.2.1 = some t'.2.1
    rw [e']
  · rw [hlen] at hp hu
    have hs := hp.size
    have eo : (p.toList.map fun i => (ts.map fun t => Value.ref t.1).getD i .none) = (p.toList.map fun i => ts.getD i (0, 0, 0)).map fun t => Value.ref t.1 := by
      rw [List.map_map]
      refine List.map_congr_left fun i hi => ?_
      have hin : i < ts.length := by
        have := (Array.perm_iff_toList_perm.mp hp).mem_iff.mp hi
        simpa using this
      obtain ⟨t, _, _, e1, e2⟩ := hgd i hin
      rw [e1]
      show _ = Value.ref (ts.getD i (0, 0, 0)).1
      rw [e2]
    obtain ⟨e, he⟩ := sortedAll_at s.heap (ts.map fun t => Value.ref t.1) (p.toList.map fun i => (ts.map fun t => Value.ref t.1).getD i .none).toArray
    have pm := perm_getD (d := ((0, 0, 0) : Addr × Int × Int)) hp
    have hz2 : ((p.toList.map fun i => ts.getD i (0, 0, 0)).map fun t => V.ref t.1).length ≤ sizeLine := by rw [List.length_map, pm.length_eq]; exact small (m := 64) (by omega)
    refine ⟨.ref (s.heap.objs.size + 1), _, I.laid (t' := s.toks) (o := .lst ((p.toList.map fun i => ts.getD i (0, 0, 0)).map fun t => V.ref t.1)) (fun b o => sortedAll_old) (Nat.le_succ _) ⟨hz2, _, e, prs_vals _, by rw [← eo]; exact he⟩, rfl, q _ _ (I.hok.fresh (Nat.le_succ _)) pm ?_⟩
    rw [List.pairwise_iff_getElem]
    intro i j hi hj hij
    rw [List.length_map, Array.length_toList, hs] at hi hj
    rw [List.getElem_map, List.getElem_map]
    have := hu i j hij hj
    unfold pa at this
    have g : ∀ x (hx : x < ts.length), p.getD x 0 = p.toList[x]'(by rw [Array.length_toList, hs]; exact hx) := fun x hx => by
      rw [Array.getD_eq_getD_getElem?, Array.getElem?_eq_getElem (by omega)]; simp
    rw [g i hi, g j hj] at this
    exact this
end
end L2
set_option Elab.async false
set_option linter.all false
set_option maxRecDepth 100000
set_option maxHeartbeats 1000000
namespace L2
open PySem PySem.Spec PyProof.Rows
section
variable {X : Cx} {elt tg iter : Expr} {ifs : List Expr} {scope : Scope} {pos : Pos} {wi : TI} {tt : TTg} {tc : TT} {te : TE}
theorem call_abs1 : CallR X (.builtin "abs") (fun xs H Q => ∃ i, xs = [.int i] ∧ Q (.int (if i < 0 then -i else i)) H) := by
  intro pins s σ H xs us Q I r h
  obtain ⟨i, rfl, q⟩ := h
  obtain ⟨u, rfl, t, rfl⟩ := vals1 r
  exact call_abs_int fun u tk => ⟨.int (if i < 0 then -i else i), H, I.kept fun _ _ h => h, ⟨u, rfl⟩, q⟩
end
end L2
set_option linter.all false
namespace L2
open PySem
section
variable {P : List Value → Prop}
theorem argS {n : Nat} (h : ∀ a (us : List Value), us.length = n → P (a :: us)) (us : List Value) (e : us.length = n + 1) : P us := by
  cases us with
  | nil => exact absurd e (Nat.succ_ne_zero n).symm
  | cons a us => exact h a us (Nat.succ.inj e)
theorem arg0 (h : P []) (us : List Value) (e : us.length = 0) : P us := by
  rw [List.length_eq_zero_iff.mp e]; exact h
theorem arg1 (h : ∀ a, P [a]) : ∀ us : List Value, us.length = 1 → P us := argS fun a => arg0 (h a)
theorem arg2 (h : ∀ a b, P [a, b]) : ∀ us : List Value, us.length = 2 → P us := argS fun a => arg1 (P := fun us => P (a :: us)) (h a)
theorem arg3 (h : ∀ a b c, P [a, b, c]) : ∀ us : List Value, us.length = 3 → P us := argS fun a => arg2 (P := fun us => P (a :: us)) (h a)
end
end L2
set_option Elab.async false
set_option linter.all false
set_option maxRecDepth 100000
set_option maxHeartbeats 1000000
namespace L2
open PySem PySem.Spec PyProof.Rows
theorem vals_bls : ∀ {bs : List Bool} {us : List Value}, Vals (bs.map V.bl) us → us = bs.map Value.bool
  | [], _, .nil => rfl
  | b :: r, _, .cons h q => by cases h; rw [vals_bls q]; rfl
section
variable {X : Cx}
end
section
variable {X : Cx}
end
abbrev PRow := Int × List (Int × Int)
abbrev rWays : Rel (List (Int × Int)) := rLst (rT2 rInt rInt)
abbrev rPR : Rel PRow := rT2 rInt rWays
abbrev rPG : Rel (List PRow) := rLst rPR
theorem mono_ways : MonoR rWays := mono_lst (mono_t2 mono_int mono_int)
theorem mono_pr : MonoR rPR := mono_t2 mono_int mono_ways
theorem mono_pg : MonoR rPG := mono_lst mono_pr
def WaysAt (H : Hp) (wa : Addr) (ts : List (Addr × Int × Int)) : Prop := H wa = some (.lst (ts.map fun t => V.ref t.1)) ∧ ∀ t ∈ ts, H t.1 = some (.tup [.int t.2.1, .int t.2.2])
theorem ways_pairs {H : Hp} : ∀ {ws : List (Int × Int)} {vs : List V}, Paired (rT2 rInt rInt H) ws vs → ∃ ts : List (Addr × Int × Int), vs = (ts.map fun t => V.ref t.1) ∧ (ts.map fun t => t.2) = ws ∧ ∀ t ∈ ts, H t.1 = some (.tup [.int t.2.1, .int t.2.2])
  | _, _, .nil => ⟨[], rfl, rfl, fun _ z => by cases z⟩
  | w :: _, _, .cons h q => by
    obtain ⟨ts, e1, e2, e3⟩ := ways_pairs q
    obtain ⟨a, x, y, rfl, ha, hx, hy⟩ := h
    cases hx; cases hy
    refine ⟨(a, w.1, w.2) :: ts, by rw [e1]; rfl, by rw [← e2]; rfl, fun t ht => ?_⟩
    rcases List.mem_cons.mp ht with z | z
    · rw [z]; exact ha
    · exact e3 t z
theorem pairs_ways {H : Hp} : ∀ {ts : List (Addr × Int × Int)}, (∀ t ∈ ts, H t.1 = some (.tup [.int t.2.1, .int t.2.2])) → Paired (rT2 rInt rInt H) (ts.map fun t => t.2) (ts.map fun t => V.ref t.1)
  | [], _ => .nil
  | t :: r, h => .cons ⟨t.1, _, _, rfl, h t List.mem_cons_self, rfl, rfl⟩ (pairs_ways fun u hu => h u (List.mem_cons_of_mem _ hu))
theorem ways_at {H : Hp} {ws : List (Int × Int)} {v : V} (h : rWays H ws v) : ∃ wa ts, v = .ref wa ∧ WaysAt H wa ts ∧ (ts.map fun t => t.2) = ws := by
  obtain ⟨wa, vs, rfl, h1, p⟩ := h
  obtain ⟨ts, rfl, e2, e3⟩ := ways_pairs p
  exact ⟨wa, ts, rfl, ⟨h1, e3⟩, e2⟩
theorem WaysAt.rel {H : Hp} {wa : Addr} {ts : List (Addr × Int × Int)} (h : WaysAt H wa ts) : rWays H (ts.map fun t => t.2) (.ref wa) := ⟨wa, _, rfl, h.1, pairs_ways h.2⟩
theorem WaysAt.up {H H' : Hp} {wa : Addr} {ts : List (Addr × Int × Int)} (h : WaysAt H wa ts) (s : Same H H') : WaysAt H' wa ts := ⟨s _ _ h.1, fun t ht => s _ _ (h.2 t ht)⟩
theorem pr_parts {H : Hp} {r : PRow} {v : V} (h : rPR H r v) : ∃ t wa ts, v = .ref t ∧ H t = some (.tup [.int r.1, .ref wa]) ∧ WaysAt H wa ts ∧ (ts.map fun t => t.2) = r.2 := by
  obtain ⟨t, x, y, rfl, h1, h2, h3⟩ := h
  cases h2
  obtain ⟨wa, ts, rfl, h4, h5⟩ := ways_at h3
  exact ⟨t, wa, ts, rfl, h1, h4, h5⟩
theorem pg_parts {H : Hp} {G : List PRow} {v : V} (h : rPG H G v) : ∃ g vs, v = .ref g ∧ H g = some (.lst vs) ∧ vs.length = G.length ∧
    ∀ (i : Nat) (r : PRow), G[i]? = some r → ∃ t wa ts, vs[i]? = some (.ref t) ∧ H t = some (.tup [.int r.1, .ref wa]) ∧ WaysAt H wa ts ∧ (ts.map fun t => t.2) = r.2 := by
  obtain ⟨g, vs, rfl, h1, p⟩ := h
  refine ⟨g, vs, rfl, h1, p.length.symm, fun i r hr => ?_⟩
  obtain ⟨y, hy, ry⟩ := Paired.at p hr
  obtain ⟨t, wa, ts, rfl, h2, h3, h4⟩ := pr_parts ry
  exact ⟨t, wa, ts, hy, h2, h3, h4⟩
theorem rise_eq : ∀ {xs ys : List (Int × Int)}, xs.Perm ys → xs.Pairwise (fun a b => a.1 < b.1) → ys.Pairwise (fun a b => a.1 < b.1) → xs = ys
  | [], ys, p, _, _ => p.nil_eq
  | x :: xs, ys, p, h1, h2 => by
    cases ys with
    | nil => exact absurd p.symm.nil_eq (by simp)
    | cons y ys =>
      rw [List.pairwise_cons] at h1 h2
      have e : x = y := by
        have hx : x ∈ y :: ys := p.mem_iff.mp List.mem_cons_self
        have hy : y ∈ x :: xs := p.mem_iff.mpr List.mem_cons_self
        rcases List.mem_cons.mp hx with z | z
        · exact z
        · rcases List.mem_cons.mp hy with z2 | z2
          · exact z2.symm
          · have a := h2.1 x z
            have b := h1.1 y z2
            omega
      subst e
      rw [rise_eq (List.Perm.cons_inv p) h1.2 h2.2]
end L2
set_option Elab.async false
set_option linter.all false
set_option maxRecDepth 100000
set_option maxHeartbeats 1000000
namespace L2
open PySem PySem.Spec PyProof.Rows
abbrev K0 : PySem.W.Frag := []
theorem SqL.k0 {K : PySem.W.Frag} {H : Hp} {a : Addr} {xs : List V} (h : SqL K0 H a xs) : SqL K H a xs := by
  rcases h with h | ⟨o, _, _, hk, _⟩
  · exact .inl h
  · cases hk
section
variable {X : Cx}
theorem Itl.le (a : Addr) {K : PySem.W.Frag} : (∀ i H, (Itl K0 a).go i H → (Itl K a).go i H) ∧ (∀ i H x H', (Itl K a).yld i H x H' → (Itl K0 a).yld i H x H') ∧ ∀ i H, (Itl K0 a).stop i H → (Itl K a).stop i H :=
  ⟨fun i H ⟨xs, x, h1, h2⟩ => ⟨xs, x, h1.k0, h2⟩, fun i H x H' ⟨e, h⟩ => ⟨e, fun xs hx => h xs hx.k0⟩, fun i H ⟨xs, h1, h2⟩ => ⟨xs, h1.k0, h2⟩⟩
theorem Turn.le {P : Program} {w : World} {K : PySem.W.Frag} {tg : Expr} {J J' : It} {fp : List Addr} {it : Addr} {tn : Nat → Heap → Prop} (t : Turn P w K tg J fp it tn) (h : (∀ i H, J'.go i H → J.go i H) ∧ (∀ i H x H', J.yld i H x H' → J'.yld i H x H') ∧ ∀ i H, J'.stop i H → J.stop i H) : Turn P w K tg J' fp it tn where
  mem := t.mem
  obj := t.obj
  keep := t.keep
  item := fun X e1 e2 e3 e4 i pins s σ H E I hf ht hg => by
    refine wpAny_mono (t.item X e1 e2 e3 e4 i pins s σ H E I hf ht (h.1 i H hg)) (fun r s1 hm0 => ?_) fun _ _ z => z
    obtain ⟨u, e, q⟩ := hm0
    refine ⟨u, e, ?_⟩
    refine wpAny_mono q (fun _ s2 hm0 => ?_) fun _ _ z => z
    obtain ⟨x, H', I', r', y, z⟩ := hm0
    exact ⟨x, H', I', r', h.2.1 i H x H' y, z⟩
  done := fun X e1 e2 e3 e4 i pins s σ H E I hf ht hg => t.done X e1 e2 e3 e4 i pins s σ H E I hf ht (h.2.2 i H hg)
  self := t.self
theorem PIE.le {pins : List (Addr × Obj)} {σ : St} {tg : Expr} {R R' : It → Hp → Prop} {v : Value} {s : Shared} (h : PIE X pins σ tg R' v s) (f : ∀ J H, R' J H → ∃ J', ((∀ i H, J'.go i H → J.go i H) ∧ (∀ i H x H', J.yld i H x H' → J'.yld i H x H') ∧ ∀ i H, J'.stop i H → J.stop i H) ∧ R J' H) : PIE X pins σ tg R v s := by
  obtain ⟨it, fp, tn, J, H', e, I, t, z, g, r⟩ := h
  obtain ⟨J', l, r'⟩ := f J H' r
  exact ⟨it, fp, tn, J', H', e, I, t.le l, z, g, r'⟩
theorem PE.wish {e : Expr} {t : TE} (h : PE X e t) (Q0 : V → Hp → Prop) : PE X e (fun σ H Q => t σ H Q0 ∧ ∀ x H1, Q0 x H1 → Q x H1) := fun pins s σ H Q I ⟨h1, h2⟩ => wpAny_mono (h pins s σ H Q0 I h1) (fun _ _ ⟨x, H1, I1, r1, q1⟩ => ⟨x, H1, I1, r1, h2 x H1 q1⟩) fun _ _ z => z
theorem pi_list0 {tg l : Expr} {tl : TE} (hl : PE X l tl) : PI X tg l (iList K0 tl) := fun pins s σ H R I h =>
  wpAny_mono (pi_list (hl.wish (fun x H1 => ∃ a, x = .ref a ∧ (∃ xs, SqL K0 H1 a xs) ∧ R (Itl K0 a) H1)) pins s σ H (fun J H' => ∃ a, J = Itl X.K a ∧ R (Itl K0 a) H') I ⟨h, fun x H1 ⟨a, e, ⟨xs, hx⟩, r⟩ => ⟨a, e, ⟨xs, hx.k0⟩, a, rfl, r⟩⟩)
    (fun _ _ q => wpAny_mono q (fun _ _ p => p.le fun J H' ⟨a, e, r⟩ => ⟨Itl K0 a, by subst e; exact Itl.le a, r⟩) fun _ _ z => z) fun _ _ z => z
end
end L2
set_option Elab.async false
set_option linter.all false
set_option maxHeartbeats 4000000
namespace L2
open PySem
section
variable {X : Cx} {pins : List (Addr × Obj)} {σ : St} {H : Hp} {s : Shared} {a : Addr} {kvs : List (Key × V)} {k : Key} {u : Value} {A : Around} {E : Value → Shared → Prop}
end
section
variable {X : Cx} {o e f : Expr} {apos cpos : Pos} {td ty tx : TE}
end
end L2
set_option Elab.async false
set_option linter.all false
set_option maxRecDepth 100000
set_option maxHeartbeats 4000000
namespace L2
open PySem PySem.Spec PyProof.Rows
theorem pe_gstr {X : Cx} {x z : Str} {pos : Pos} (hm : ∃ t, X.mg x = some (.str z t)) (hg : Gl X x := by rfl) (hd : (x == ("__debug__" : Str)) = false := by decide) : PE X (.Name x pos) (tC (.str z)) := by
  obtain ⟨t, hm⟩ := hm
  exact pe_glob hg hm ⟨t, rfl⟩ hd
theorem vals_from : ∀ (ps : List Str) (k : Nat), Vals (ps.map V.str) (strsFrom k ps)
  | [], _ => .nil
  | p :: r, k => .cons ⟨k, rfl⟩ (vals_from r (k + 1))
def rSplit : V → List V → Hp → VK → Prop := fun x vs H Q => ∃ z y, x = .str z ∧ vs = [.str y] ∧ (y.length == 0) = false ∧ z.length + 2 ≤ sizeLine ∧ ∀ p, H p = none → Q (.ref p) (upd H p (.lst ((Txt.split z y).map V.str)))
section
variable {X : Cx}
theorem mt_split : MtM X "str.split" rSplit := by
  intro pins s σ H x vs v us Q I rx rv h
  obtain ⟨z, y, rfl, rfl, hy, hz, q⟩ := h
  obtain ⟨t, rfl⟩ := rx
  obtain ⟨u, rfl, t', rfl⟩ := rv.one
  have hf := (fact_split z y).2
  have lay : ∀ (its : List Value) (tk : Nat), Vals ((Txt.split z y).map V.str) its → EP X pins σ Q (.ref s.heap.objs.size) { heap := s.heap.push { cls := .type "list", data := .seq its.toArray }, gens := s.gens, drawn := s.drawn, toks := tk, os := s.os } := fun its tk r => by
    refine ⟨.ref s.heap.objs.size, _, I.laid (t' := tk) (o := .lst ((Txt.split z y).map V.str)) (fun b ob q => Heap.get?_push_of_some _ q) (Nat.le_refl _) ?_, rfl, q _ (I.hok.fresh (Nat.le_refl _))⟩
    exact ⟨by rw [List.length_map]; omega, its, 0, r, Heap.get?_push_size _ rfl⟩
  cases c1 : (decide (z.length < y.length) || decide (Builtin.Str.strKind z < Builtin.Str.strKind y)) with
  | true =>
    have e : Txt.split z y = [z] := by unfold Txt.split; rw [if_pos c1]
    exact call_meets F.slot_str_split (typeIs_str s z t) F.entry_str_split (F.args_str_split_2 _ _) (meets_str_split_cannot_occur z y t t' c1) (lay [.str z t] _ (by rw [e]; exact .cons ⟨t, rfl⟩ .nil))
  | false =>
    cases c2 : (Builtin.Str.occurrences z y 0 z.length (z.length + 1)).isEmpty with
    | true =>
      have e : Txt.split z y = [z] := by unfold Txt.split; rw [if_neg (by rw [c1]; decide), if_pos c2]
      exact call_meets F.slot_str_split (typeIs_str s z t) F.entry_str_split (F.args_str_split_2 _ _) (meets_str_split_not_found z y t t' c1 hy c2) (lay [.str z t] _ (by rw [e]; exact .cons ⟨t, rfl⟩ .nil))
    | false =>
      have e : Txt.split z y = Builtin.Str.partsBetween z (Builtin.Str.occurrences z y 0 z.length (z.length + 1)) y.length := by unfold Txt.split; rw [if_neg (by rw [c1]; decide), if_neg (by rw [c2]; decide)]
      exact call_meets F.slot_str_split (typeIs_str s z t) F.entry_str_split (F.args_str_split_2 _ _) (meets_str_split_sep z y t t' c1 hy c2 (by omega) (by rw [← e]; omega)) (lay _ _ (by rw [e]; exact vals_from _ _))
def rPart : V → List V → Hp → VK → Prop := fun x vs H Q => ∃ z y, x = .str z ∧ vs = [.str y] ∧ (y.length == 0) = false ∧ z.length ≤ sizeLine ∧ ∀ p, H p = none → Q (.ref p) (upd H p (.tup [.str (Txt.partition z y).1, .str (Txt.partition z y).2.1, .str (Txt.partition z y).2.2]))
theorem mt_partition : MtM X "str.partition" rPart := by
  intro pins s σ H x vs v us Q I rx rv h
  obtain ⟨z, y, rfl, rfl, hy, hz, q⟩ := h
  obtain ⟨t, rfl⟩ := rx
  obtain ⟨u, rfl, t', rfl⟩ := rv.one
  have lay : ∀ (its : List Value) (tk : Nat), Vals [.str (Txt.partition z y).1, .str (Txt.partition z y).2.1, .str (Txt.partition z y).2.2] its → EP X pins σ Q (.ref s.heap.objs.size) { heap := s.heap.push { cls := .type "tuple", data := .seq its.toArray }, gens := s.gens, drawn := s.drawn, toks := tk, os := s.os } := fun its tk r => by
    refine ⟨.ref s.heap.objs.size, _, I.laid (t' := tk) (o := .tup _) (fun b ob q => Heap.get?_push_of_some _ q) (Nat.le_refl _) ?_, rfl, q _ (I.hok.fresh (Nat.le_refl _))⟩
    exact ⟨by show 3 ≤ sizeLine; decide, its, r, IsTup.new _ _⟩
  refine call_meets F.slot_str_partition (typeIs_str s z t) F.entry_str_partition (F.args_str_partition_2 _ _) (meets_str_partition z y t t' hy hz) ?_
  cases c : Builtin.Str.occurrences z y 0 z.length 1 with
  | nil => exact lay [.str z t, .str Str.empty s.toks, .str Str.empty s.toks] _ (by unfold Txt.partition; rw [c]; exact .cons ⟨_, rfl⟩ (.cons ⟨_, rfl⟩ (.cons ⟨_, rfl⟩ .nil)))
  | cons i r => exact lay [.str (Builtin.Str.strSub z 0 i) s.toks, .str y t', .str (Builtin.Str.strSub z (i + y.length) z.length) (s.toks + 1)] _ (by unfold Txt.partition; rw [c]; exact .cons ⟨_, rfl⟩ (.cons ⟨_, rfl⟩ (.cons ⟨_, rfl⟩ .nil)))
theorem strs_are : ∀ {ys : List Str} {us : List Value}, Vals (ys.map V.str) us → StrsAre us ys
  | [], _, r => by cases r; exact .nil
  | y :: ys, _, r => by
    cases r with
    | cons h r =>
      obtain ⟨t, e⟩ := h
      subst e
      exact .cons y t (strs_are r)
def rJoin (K : PySem.W.Frag) : V → List V → Hp → VK → Prop := fun x vs H Q => ∃ (z : Str) (a : Addr) (ys : List Str), x = .str z ∧ vs = [.ref a] ∧ SqL K H a (ys.map V.str) ∧ z.length ≤ 64 ∧ (ys.map fun x => x.length).sum + ys.length * 64 ≤ 16777216 ∧ Q (.str (Txt.join z ys)) H
theorem mt_join : MtM X "str.join" (rJoin X.K) := by
  intro pins s σ H x vs v us Q I rx rv h
  obtain ⟨z, a, ys, rfl, rfl, hq, h64, hs, q⟩ := h
  obtain ⟨t, rfl⟩ := rx
  obtain ⟨u, rfl, ru⟩ := rv.one
  cases ru
  obtain ⟨its, r, pl, hz⟩ := I.list hq
  exact PyProof.Rows.join_listC pl.isList (by simpa using strs_are r) h64 hs fun t' k => ⟨.str _, H, I.kept (t' := k) fun b o e => e, ⟨t', rfl⟩, q⟩
end
end L2
set_option Elab.async false
set_option linter.all false
set_option maxRecDepth 100000
set_option maxHeartbeats 4000000
namespace L2
open PySem PySem.Spec PyProof.Rows
theorem range_all (bs : List Bool) : (List.range bs.length).all (fun i => bs.getD i false) = bs.all id := by
  rw [Bool.eq_iff_iff, List.all_eq_true, List.all_eq_true]
  constructor
  · intro h b hb
    obtain ⟨i, hi⟩ := List.getElem?_of_mem hb
    have hl := (List.getElem?_eq_some_iff.mp hi).1
    have := h i (List.mem_range.mpr hl)
    rw [List.getD_eq_getElem?_getD, hi] at this
    exact this
  · intro h i hi
    have hl := List.mem_range.mp hi
    rw [List.getD_eq_getElem?_getD, List.getElem?_eq_getElem hl]
    exact h _ (List.getElem_mem hl)
section
variable {X : Cx}
theorem call_allL (hc : X.calm = true) : CallR X (.builtin "all") (fun xs H Q => ∃ (a : Addr) (bs : List Bool), xs = [.ref a] ∧ SqL X.K H a (bs.map V.bl) ∧ Q (.bl (bs.all id)) H) := by
  intro pins s σ H xs us Q I r h
  obtain ⟨a, bs, rfl, ha, q⟩ := h
  obtain ⟨u, rfl, ru⟩ := vals1 r
  cases ru
  obtain ⟨its, rv, pl, hz⟩ := I.list ha
  have ei := vals_bls rv
  subst ei
  have hal : a < s.heap.objs.size := by
    obtain ⟨o, h1, _⟩ := pl.isList
    exact Heap.lt_size h1
  refine call_all_walk (wpAny_pyIter_list pl.isList ⟨s.heap.objs.size, _, _, _, _, _, fun i => bs.getD i false, rfl, Walks.list (A := X.A.in1) (I.ok.hd hc) s.heap.objs.size a (Nat.ne_of_lt hal) (bs.map Value.bool).toArray, ⟨⟨_, Heap.get?_push_size _ rfl, rfl, rfl⟩, ?_⟩, fun i v s' Q' E' hv hq => ?_, fun h' tk k => ?_⟩)
  · obtain ⟨o, h1, h2⟩ := pl.isList
    exact ⟨o, Heap.get?_push_of_some _ h1, h2⟩
  · have hv' : (bs.map Value.bool)[i]? = some v := by simpa using hv
    rw [List.getElem?_map] at hv'
    cases e : bs[i]? with
    | none => rw [e] at hv'; cases hv'
    | some b =>
      rw [e] at hv'; cases hv'
      refine wpAny_truthy_bool ?_
      have : bs.getD i false = b := by rw [List.getD_eq_getElem?_getD, e]; rfl
      have hq' : Q' (bs.getD i false) s' := hq
      rw [this] at hq'
      exact hq'
  · have e : (List.range (bs.map Value.bool).toArray.size).all (fun i => bs.getD i false) = bs.all id := by
      rw [← range_all bs]; simp
    rw [e]
    refine ⟨.bl (bs.all id), H, I.kept (t' := tk) fun b o hb => ?_, rfl, q⟩
    exact k b o (by rw [List.mem_singleton]; exact Nat.ne_of_lt (Heap.lt_size hb)) (Heap.get?_push_of_some _ hb)
end
def Its (z : Str) : It where
  go := fun i _ => i < z.cps.size
  yld := fun i H x H' => H' = H ∧ ∃ c, z.cps[i]? = some c ∧ x = .str ⟨#[c]⟩
  stop := fun i _ => i = z.cps.size
theorem walk_str {P : Program} {w : World} {A : Around} (h : A.handled = none) (it : Addr) (z : Str) (t : Tok) : Walks P w A it [it] [it] z.cps.size (SignAt z) (fun i h => h.IsStrIter it (strIterType z) z t i) := by
  unfold strIterType
  split
  · exact Walks.strAscii h it z t
  · exact Walks.strWide h it z t
theorem turn_str {P : Program} {w : World} {K : PySem.W.Frag} {tg : Expr} (z : Str) (t : Tok) (it : Addr) : Turn P w K tg (Its z) [it] it (fun i h => h.IsStrIter it (strIterType z) z t i) where
  mem := by simp
  obj := fun i h st b hb => by
    have e : b = it := by simpa using hb
    subst e
    obtain ⟨o, e, c, d⟩ := st
    exact ⟨o, e, fun v z => by rw [d] at z; cases z⟩
  keep := fun i h h' st k => by
    obtain ⟨o, e, c, d⟩ := st
    exact ⟨o, k it (by simp) o e, c, d⟩
  item := by
    intro X hP hw hK hc i pins s σ H E I hf st hg
    subst hP hw hK
    obtain ⟨f0, f1, f2, f3, f4, f5⟩ := hf it (by simp)
    refine (walk_str (P := X.prog) (w := X.w) (I.ok.hd hc) it z t).item i s _ _ hg st fun v h' tk hv st' kk => ?_
    obtain ⟨c, u, hc', rfl⟩ := hv
    have I1 : Inv X pins σ H { s with heap := h', toks := tk } := I.turned (fun b o hb e => kk b o (by simpa using hb) e) f0 f1 f3 f4 f5
    obtain ⟨o, e, cc, d⟩ := id st'
    refine ⟨_, rfl, go_of (s := { s with heap := h', toks := tk }) e cc d (by unfold strIterType; split <;> decide) ⟨.str ⟨#[c]⟩, H, I1, ⟨u, rfl⟩, ⟨rfl, c, hc', rfl⟩, st', fun b hb => (hf b hb).1⟩⟩
  done := by
    intro X hP hw hK hc i pins s σ H E I hf st hg
    subst hP hw hK
    obtain ⟨f0, f1, f2, f3, f4, f5⟩ := hf it (by simp)
    have e : i = z.cps.size := hg
    subst e
    exact (walk_str (P := X.prog) (w := X.w) (I.ok.hd hc) it z t).done s _ _ st fun h' tk kk => ⟨rfl, I.turned (fun b o hb e => kk b o (by simpa using hb) e) f0 f1 f3 f4 f5⟩
  self := fun A i s Q E st h => by
    unfold strIterType at st
    split at st
    · exact wpAny_pyIter_striter_ascii st h
    · exact wpAny_pyIter_striter_wide st h
def iStr (tl : TE) : TI := fun σ H R => tl σ H fun x H1 => ∃ z, x = .str z ∧ R (Its z) H1
theorem pi_str {X : Cx} {tg l : Expr} {tl : TE} (hl : PE X l tl) : PI X tg l (iStr tl) := by
  intro pins s σ H R I h
  refine thn (hl pins s σ H _ I h) fun v s1 hm0 => ?_
  obtain ⟨x, H1, I1, r1, q1⟩ := hm0
  obtain ⟨z, e, q⟩ := q1
  subst e
  obtain ⟨t, rfl⟩ := r1
  refine wpAny_pyIter_strU ?_
  refine ⟨s1.heap.objs.size, [s1.heap.objs.size], _, _, H1, rfl, I1.kept (t' := s1.toks) fun b o e => Heap.get?_push_of_some _ e, turn_str z t _, ⟨_, Heap.get?_push_size _ rfl, rfl, rfl⟩, fun b hb => ?_, q⟩
  have e : b = s1.heap.objs.size := by simpa using hb
  subst e
  exact I1.fpOk (Nat.le_refl _) (I1.hok.fresh (Nat.le_refl _))
theorem comp_strD {z : Str} {tt : TTg} {tc : TT} {te : TE} {cap : List Nat} {σ : St} {H : Hp} {D : Addr → List V → Hp → Prop} (Pv : Nat → List V → Hp → Prop) (h0 : Pv 0 [] H) (hz : z.cps.size ≤ sizeLine) (hl : ∀ i ys H, i ≤ z.cps.size → Pv i ys H → ys.length ≤ i)
    (hs : ∀ i c ys H, z.cps[i]? = some c → Pv i ys H → tt (.str ⟨#[c]⟩) H fun ws => tc (ws.map some ++ capS σ cap) H fun b H4 => if b = true then te (ws.map some ++ capS σ cap) H4 fun y H5 => Pv (i + 1) (ys ++ [y]) H5 else Pv (i + 1) ys H4)
    (hd : ∀ ys H, Pv z.cps.size ys H → ∀ p, H p = none → D p ys H) :
    ∃ W : Nat → Nat → List V → Hp → Prop, (∃ m, W 0 m [] H) ∧ ∀ i m ys H2, W i m ys H2 →
    ((Its z).stop i H2 ∧ ys.length ≤ sizeLine ∧ ∀ p, H2 p = none → D p ys H2) ∨
    ((Its z).go i H2 ∧ ∃ N : List V → Hp → Prop, (∀ ys' H', N ys' H' → ys'.length ≤ sizeLine ∧ ∃ m', m' < m ∧ W (i + 1) m' ys' H') ∧
      ∀ x H3, (Its z).yld i H2 x H3 → tt x H3 fun ws => tc (ws.map some ++ capS σ cap) H3 fun b H4 => if b = true then te (ws.map some ++ capS σ cap) H4 fun y H5 => N (ys ++ [y]) H5 else N ys H4) := by
  refine ⟨fun i m ys H => m = z.cps.size - i ∧ i ≤ z.cps.size ∧ Pv i ys H, ⟨z.cps.size, by simp, Nat.zero_le _, h0⟩, ?_⟩
  rintro i m ys H2 ⟨rfl, hi, p⟩
  have q := hl i ys H2 hi p
  by_cases hlt : i < z.cps.size
  · refine .inr ⟨hlt, Pv (i + 1), fun ys' H' p' => ⟨Nat.le_trans (hl (i + 1) ys' H' hlt p') (Nat.le_trans hlt hz), z.cps.size - (i + 1), by omega, rfl, hlt, p'⟩, fun x H' y => ?_⟩
    obtain ⟨rfl, c, hc, rfl⟩ := y
    exact hs i c ys _ hc p
  · have e : i = z.cps.size := by omega
    subst e
    exact .inl ⟨rfl, Nat.le_trans q hz, fun p' hp' => hd ys H2 p p' hp'⟩
end L2
set_option Elab.async false
set_option linter.all false
set_option maxRecDepth 100000
set_option maxHeartbeats 4000000
namespace L2
open PySem PySem.Spec PyProof.Rows
section
variable {X : Cx} {o i : Expr} {pos : Pos} {td ty : TE}
end
end L2
set_option Elab.async false
set_option linter.all false
set_option maxRecDepth 100000
set_option maxHeartbeats 4000000
namespace L2
open PySem PySem.Spec PyProof.Rows
section
variable {X : Cx} {elt tg iter : Expr} {ifs : List Expr} {scope : Scope} {pos : Pos} {N : List Str} {k : Nat} {cap : List Nat} {wi : TI} {tt : TTg} {tc : TT} {te : TE}
end
section
variable {X : Cx} {elt tg iter : Expr} {ifs : List Expr} {scope : Scope} {pos : Pos} {wi : TI} {tt : TTg} {tc : TT} {te : TE}
end
section
variable {X : Cx} {elt tg iter : Expr} {ifs : List Expr} {scope : Scope} {pos : Pos} {wi : TI} {tt : TTg} {tc : TT} {te : TE}
theorem relabel_cf {sc : Scope} {env : Env} {x : Str} (h : sc.names.lookup x = some .cell ∨ sc.names.lookup x = some .free) : (relabel sc env).names.lookup x = some .cell ∨ (relabel sc env).names.lookup x = some .free := by
  rcases h with h | h
  · left
    have go : ∀ (names : List (Str × NameKind)), names.lookup x = some .cell → (names.map fun (n, k) => if (k == NameKind.free && env.scope.kind == .function && env.kindOf n == some .cell) then (n, NameKind.cell) else (n, k)).lookup x = some .cell := by
      intro names
      induction names with
      | nil => intro h; simp at h
      | cons z r ih =>
        obtain ⟨n, k⟩ := z
        intro h
        show List.lookup x ((if (k == NameKind.free && env.scope.kind == .function && env.kindOf n == some .cell) = true then (n, NameKind.cell) else (n, k)) :: _) = _
        cases hx : x == n with
        | true =>
          simp only [List.lookup_cons, hx] at h
          cases h
          split <;> simp [List.lookup_cons, hx]
        | false =>
          simp only [List.lookup_cons, hx] at h
          split <;> (simp only [List.lookup_cons, hx]; exact ih h)
    exact go _ h
  · exact relabel_free h
theorem CompOk.relabel {scope psc : Scope} {N PN : List Str} {k : Nat} {cap : List Nat} {env : Env} (h : CompOk scope psc N PN k cap) : CompOk scope (relabel psc env) N PN k cap :=
  ⟨h.kind, h.len, h.cell, h.loc, fun y hy hf => relabel_cf (h.free y hy hf), h.cap, h.free2⟩
theorem pe_lcN2 {psc : Scope} {env0 : Env} (PN N : List Str) (k : Nat) (cap : List Nat) (hi : PI X tg iter wi) (hg : ∀ cl C s H ex pn, PTg (compCx X scope N cl C s H ex pn) k tg tt) (ht : ∀ cl C s H ex pn, PTs (compCx X scope N cl C s H ex pn) ifs tc)
    (he : ∀ cl C s H ex pn, PE (compCx X scope N cl C s H ex pn) elt te) (hc : X.calm = true := by rfl) (h2 : X.N = PN := by rfl) (h1 : X.env.scope = PySem.relabel psc env0 := by rfl) (S : compOkB scope psc N PN k cap = true := by decide +kernel)
    (hs : ∀ x, foldedSetIterable iter X.env x = pure x := by intro _; rfl) :
    PE X (.ListComp elt [⟨tg, iter, ifs, 0⟩] scope pos) (tComp wi tt tc te cap) := pe_comp hc (by rw [h2, h1]; exact (compOk_of S).relabel) hi hg ht he hs
end
end L2
set_option Elab.async false
set_option linter.all false
set_option maxRecDepth 100000
set_option maxHeartbeats 4000000
namespace L2
open PySem PySem.Spec PyProof.Rows
theorem list_no_keys : typeLookup (.type "list") "keys" = pure none := am_miss_of_fast (by decide +kernel)
theorem no_keys_list {prog : Program} {w : World} {A : Around} {E : Value → Shared → Prop} {s : Shared} {a : Addr} {o : Obj} {xs : Array Value} {k : Nat} {Q : Option Value → Shared → Prop}
    (hx : s.heap.get? a = some o) (hc : o.cls = .type "list") (hdat : o.data = .seq xs k) (hd : o.dict = none) (hA : A.handled = none)
    (h : ∀ h' tk, (∀ b ob, s.heap.get? b = some ob → h'.get? b = some ob) → Q none { s with heap := h', toks := tk }) :
    wpAny (model prog w) A (getAttr? (.ref a) "keys") Q E s := by
  obtain ⟨c, dct, dat, sl⟩ := o
  simp only at hc hdat hd
  subst hc hdat hd
  obtain ⟨hp, g, d, tk, os⟩ := s
  have hT : ∀ tk', (⟨hp, g, d, tk', os⟩ : Shared).TypeIs (.ref a) "list" := fun _ => ⟨_, hx, rfl⟩
  have f1 := sub_AttributeError
  have f3 := F.slot_list_getattribute.lookup
  have f4 := F.slot_list_getattribute.bind (.ref a)
  have f5 := am_list_getattr_none
  unfold getAttr? getAttrBy? getAttrBy
  repeat (any_goals (first | assumption | exact hT _ | ((with_reducible show wpAny _ _ (call (Value.builtin "list.__getattribute__") _ _) _ _ _); refine call_meets F.slot_list_getattribute (hT _) am_entry_list_getattribute (F.args_list_getattribute_2 _ _) (meets_getattribute_miss_list a xs k sl "keys" _ list_no_keys (by decide +kernel) (by size_fits)) ⟨hx, hA, fun h' tk' e hx' => ?_⟩) | wp_step))
  obtain ⟨t', u', he⟩ := hx'.there
  show wpAny _ _ (getattributeRaised _ _ _ _ _ _ _) _ _ _
  unfold getattributeRaised
  repeat (any_goals (first | assumption | wp_step))
  exact h _ _ hx'.keeps
theorem entry_dict_update_loop : entryFor table "dict.update.loop" = some Builtin.«dict.update.loop» := entryFor_of_tree (by kernel_rfl)
theorem plain_dict_update_loop : plainId "dict.update.loop" = true := by decide +kernel
def putAll : List (Key × V) → List (Key × V) → List (Key × V) := List.foldl fun c p => putK c p.1 p.2
def PairsAt (P : Program) (w : World) (h : Heap) (d it : Addr) (items : List Value) (kys : List (Key × V)) : Prop :=
  ∀ (j : Nat) (ky : Key × V), kys[j]? = some ky → ∃ (t : Addr) (ku vu : Value), items[j]? = some (.ref t) ∧ h.IsTuple t #[ku, vu] ∧ (mixKind P w).is ky.1 ku = true ∧ RelV ky.2 vu ∧ t ≠ d ∧ t ≠ it
theorem upd_loop {P : Program} {w : World} {A : Around} {d it l : Addr} {items : List Value} {kys : List (Key × V)} (hh : A.handled = none) (hlen : items.length = kys.length) (hz : kys.length ≤ sizeLine) (hdi : d ≠ it) (hld : l ≠ d) (hli : l ≠ it) :
    ∀ (n i : Nat) (s : Shared) (cur : List (Key × V)) (vs : List (Key × Value)) (tk : Tok) (R : Result → Shared → Prop), kys.length - i = n → i ≤ kys.length → s.heap.IsListIter it l i → s.heap.IsList l items.toArray → PairsAt P w s.heap d it items kys → KV cur vs → s.heap.DictOf (mixKind P w) d vs → cur.length ≤ i →
      (∀ h' t' vs', KV (putAll cur (kys.drop i)) vs' → h'.DictOf (mixKind P w) d vs' → (putAll cur (kys.drop i)).length ≤ kys.length → (∀ b o, b ≠ d → b ≠ it → s.heap.get? b = some o → h'.get? b = some o) → R (.ok (.ret .none)) { s with heap := h', toks := t' }) →
      codeAny (model P w) A (.builtin "dict.update.loop" ⟨[.ref d, .ref it, .int (i : Int) tk, .none], []⟩) R s := by
  intro n
  induction n with
  | zero =>
    intro i s cur vs tk R hn hi hit hl hp hkv hd hc hR
    have e : i = kys.length := by omega
    subst e
    refine codeAny_builtin entry_dict_update_loop ?_
    rw [Around.under_plainId plain_dict_update_loop _]
    show wpAny _ A.in1 (pyNext (.ref it) >>= _) _ _ s
    refine wpAny_bind (wpAny_pyNext_list_end hh hit hl (by simp; omega) fun h' eb => ?_)
    show wpAny _ A.in1 (Builtin.Dict.addKeywords d [] >>= _) _ _ _
    refine wpAny_bind (wpAny_pure ?_)
    rw [List.drop_length] at hR
    exact wpAny_pure (hR h' s.toks vs hkv (hd.extBut eb hdi) hc fun b o _ h2 h3 => eb b o h2 h3)
  | succ n ih =>
    intro i s cur vs tk R hn hi hit hl hp hkv hd hc hR
    obtain ⟨ky, hky⟩ : ∃ ky, kys[i]? = some ky := ⟨kys[i]'(by omega), by simp⟩
    obtain ⟨t, ku, vu, h1, h2, h3, h4, h5, h6⟩ := hp i ky hky
    refine codeAny_builtin entry_dict_update_loop ?_
    rw [Around.under_plainId plain_dict_update_loop _]
    show wpAny _ A.in1 (pyNext (.ref it) >>= _) _ _ s
    refine wpAny_bind (wpAny_pyNext_list_item hit hl (x := .ref t) (by simpa using h1) fun h' st' sb => ?_)
    have h2' : h'.IsTuple t #[ku, vu] := by
      obtain ⟨o, e1, e2, n1, e3⟩ := h2
      exact ⟨o, (sb.2 t h6).trans e1, e2, n1, e3⟩
    obtain ⟨o, e1, e2, n1, e3⟩ := id h2'
    have hd' : h'.DictOf (mixKind P w) d vs := by
      obtain ⟨q, es, ep, hq, r⟩ := hd
      exact ⟨q, es, ep, (sb.2 d hdi).trans hq, r⟩
    show wpAny _ A.in1 (holding [Value.ref t] _ >>= _) _ _ _
    refine wpAny_bind (wpAny_holding (wpAny_bind (wpAny_tryCatch ?_)))
    unfold Builtin.Dict.pairItems
    refine wpAny_bind (wpAny_typeOf (T := "tuple") ⟨o, e1, e2⟩ ?_)
    rw [if_pos (by decide +kernel)]
    refine wpAny_bind (wpAny_seqItems (s := { s with heap := h' }) e1 e3 (wpAny_pure ?_))
    show wpAny _ A.in1 (holding [ku, vu] (dictSet d ku vu)) _ _ _
    refine wpAny_holding (wpAny_dictSet_pairs (s := { s with heap := h' }) (hsz := by rw [← hkv.length]; omega) h3 hd' fun h'' hd'' sb' => ?_)
    have eR : rawInt ((i : Int) + 1) = .int ((i + 1 : Nat) : Int) 0 := rfl
    refine wpAny_pure ⟨plainId_quiet plain_dict_update_loop _, ?_⟩
    rw [eR]
    have hl1 := length_putK cur ky.1 ky.2
    have ed : kys.drop i = ky :: kys.drop (i + 1) := by
      obtain ⟨hlt, e⟩ := List.getElem?_eq_some_iff.mp hky
      rw [List.drop_eq_getElem_cons hlt, e]
    refine ih (i + 1) _ (putK cur ky.1 ky.2) _ _ R (by omega) (by omega) ?_ ?_ (fun j ky' hj => ?_) (hkv.put ky.1 h4) hd'' (by omega) fun h3' t' vs' k1 k2 k3 k4 => ?_
    · obtain ⟨q, q1, q2, q3⟩ := st'
      exact ⟨q, (sb'.2 it (Ne.symm hdi)).trans q1, q2, q3⟩
    · obtain ⟨q, q1, q2, q3⟩ := hl
      exact ⟨q, (sb'.2 l hld).trans ((sb.2 l hli).trans q1), q2, q3⟩
    · obtain ⟨t2, ku2, vu2, g1, ⟨q, q1, q2, q3⟩, g3, g4, g5, g6⟩ := hp j ky' hj
      exact ⟨t2, ku2, vu2, g1, ⟨q, (sb'.2 t2 g5).trans ((sb.2 t2 g6).trans q1), q2, q3⟩, g3, g4, g5, g6⟩
    · have ep : putAll (putK cur ky.1 ky.2) (kys.drop (i + 1)) = putAll cur (kys.drop i) := by rw [ed]; rfl
      rw [ep] at k1 k3
      exact hR h3' t' vs' k1 k2 k3 fun b o b1 b2 hb => k4 b o b1 b2 ((sb'.2 b b1).trans ((sb.2 b b2).trans hb))
theorem call_dict_pairs {X : Cx} {K : PySem.W.Frag} (hK : X.K = K) (hc : X.calm = true) : CallR X (.type "dict") (fun xs H Q => ∃ (a : Addr) (ts : List (Addr × Key × V)), xs = [.ref a] ∧ SqL K H a (ts.map fun t => V.ref t.1) ∧ (∀ t ∈ ts, SqT K H t.1 [kV t.2.1, t.2.2]) ∧ ∀ p, H p = none → Q (.ref p) (upd H p (.dK (putAll [] (ts.map fun t => t.2))))) := by
  intro pins s σ H xs us Q I r h
  subst hK
  obtain ⟨a, ts, rfl, ha, ht, q⟩ := h
  obtain ⟨u, rfl, ru⟩ := vals1 r
  cases ru
  obtain ⟨its, rv, pl, hz⟩ := I.list ha
  have hl : its.length = (ts.map fun t => t.2).length := by rw [List.length_map, ← rv.length, List.length_map]
  have hz' : (ts.map fun t => t.2).length ≤ sizeLine := by rw [List.length_map] at hz ⊢; exact hz
  have hal : a < s.heap.objs.size := by
    obtain ⟨o, h1, _⟩ := pl.isList
    exact Heap.lt_size h1
  have hh : X.A.handled = none := I.ok.hd hc
  refine callType_codes (Q₁ := fun obj s₁ => obj = .ref s.heap.objs.size ∧ s₁ = { s with heap := s.heap.push { cls := .type "dict", data := .dict #[] } }) PySem.F.kt_called_dict (PySem.F.kt_typeCall_dict_1 _) PySem.F.entry_dict_init (kt_code_dict_new _ ⟨rfl, rfl⟩) ?_
  rintro obj s₁ ⟨rfl, rfl⟩
  have hnew : (s.heap.push { cls := .type "dict", data := .dict #[] }).DictOf (mixKind X.prog X.w) s.heap.objs.size [] := Heap.DictOf.new s.heap
  refine ⟨hnew.typeIs, PySem.F.args_dict_init_2 _ _, ?_⟩
  unfold Builtin.«dict.__init__»
  refine wpAny_bind ?_
  unfold Builtin.Dict.selfAndRest
  refine wpAny_bind (wpAny_notOrdered_dict hnew.typeIs ?_)
  show wpAny _ _ (pure (s.heap.objs.size, [Value.ref a])) _ _ _
  refine wpAny_pure ?_
  show wpAny _ _ (Builtin.Dict.updateFrom "dict.__init__" s.heap.objs.size (.ref a) [] .none) _ _ _
  unfold Builtin.Dict.updateFrom
  obtain ⟨o, n, e1, e2, e3, e4⟩ := pl
  refine wpAny_bind (wpAny_typeOf (T := "list") ⟨o, Heap.get?_push_of_some _ e1, e2⟩ ?_)
  rw [if_pos (by decide)]
  refine wpAny_bind (no_keys_list (s := { s with heap := s.heap.push { cls := .type "dict", data := .dict #[] } }) (Heap.get?_push_of_some _ e1) e2 e4 e3 hh fun h' tk kp => ?_)
  rw [if_pos (show (none : Option Value).isNone = true from rfl)]
  refine wpAny_bind (wpAny_rule ?_)
  have hl' : h'.IsList a its.toArray := ⟨o, kp _ _ (Heap.get?_push_of_some _ e1), e2, n, e4⟩
  refine wpAny_bind (wpAny_pyIter_list hl' ?_)
  have hdl : s.heap.objs.size < h'.objs.size := Heap.lt_size (kp _ _ (Heap.get?_push_size _ rfl))
  have kq : ∀ b ob, s.heap.get? b = some ob → (h'.push { cls := .type "list_iterator", data := .fields #[.ref a, .int 0 0] }).get? b = some ob := fun b ob e => Heap.get?_push_of_some _ (kp _ _ (Heap.get?_push_of_some _ e))
  refine wpAny_pure ⟨plainId_quiet plain_dict_update_loop _, ?_⟩
  refine upd_loop (kys := ts.map fun t => t.2) (l := a) (A := X.A.in1) hh hl hz' (Nat.ne_of_lt hdl) (Nat.ne_of_lt hal) (Nat.ne_of_lt (Nat.lt_trans hal hdl)) _ 0 _ [] [] 0 _ rfl (Nat.zero_le _) ⟨_, Heap.get?_push_size _ rfl, rfl, rfl⟩ ?_ ?_ .nil ?_ (Nat.zero_le _) ?_
  · exact ⟨o, kq _ _ e1, e2, n, e4⟩
  · intro j ky hj
    rw [List.getElem?_map] at hj
    cases et : ts[j]? with
    | none => rw [et] at hj; cases hj
    | some t =>
      rw [et] at hj; cases hj
      obtain ⟨u, hu, ru⟩ := rv.get (i := j) (x := V.ref t.1) (by rw [List.getElem?_map, et]; rfl)
      cases ru
      obtain ⟨its2, rv2, tp, _⟩ := I.tuple (ht t (List.mem_of_getElem? et))
      obtain ⟨k1, k2, rfl, r1, r2⟩ := vals2 rv2
      obtain ⟨o2, g1, g2, n2, g3⟩ := tp
      have hlt := Heap.lt_size g1
      exact ⟨t.1, k1, k2, hu, ⟨o2, kq _ _ g1, g2, n2, g3⟩, kV_is r1, r2, Nat.ne_of_lt hlt, Nat.ne_of_lt (Nat.lt_trans hlt hdl)⟩
  · exact Heap.DictOf.push (by
      obtain ⟨q, es, ep, hq, r⟩ := hnew
      exact ⟨q, es, ep, kp _ _ hq, r⟩) _
  · intro h3 t3 vs' k1 k2 k3 k4
    rw [List.drop_zero] at k1 k3
    refine ⟨rfl, .ref s.heap.objs.size, _, ?_, rfl, q _ (I.hok.fresh (Nat.le_refl _))⟩
    refine I.laid (a := s.heap.objs.size) (fun b ob e => ?_) (Nat.le_refl _) (dk_new (Nat.le_trans k3 hz') (beq_eq_false_iff_ne.mpr (Ne.symm (Nat.ne_of_lt I.big))) k1 k2)
    have hlt := Heap.lt_size e
    exact k4 b ob (Nat.ne_of_lt hlt) (Nat.ne_of_lt (Nat.lt_trans hlt hdl)) (kq _ _ e)
end L2
set_option Elab.async false
set_option linter.all false
set_option maxRecDepth 100000
set_option maxHeartbeats 4000000
namespace L2
open PySem PySem.Spec PyProof.Rows
def Ites (z : Str) : It where
  go := fun i _ => i < z.cps.size
  yld := fun i H v H' => ∃ T c, v = .ref T ∧ H T = none ∧ z.cps[i]? = some c ∧ H' = upd H T (.tup [.int (i : Nat), .str ⟨#[c]⟩])
  stop := fun i _ => i = z.cps.size
theorem draws_str {P : Program} {w : World} {A : Around} (h : A.handled = none) (it : Addr) (z : Str) (t : Tok) : Draws P w A it [it] z.cps.size (fun i v => ∃ c u, z.cps[i]? = some c ∧ v = .str ⟨#[c]⟩ u) (fun i h => h.IsStrIter it (strIterType z) z t i) := by
  unfold strIterType
  split
  · exact Draws.strAscii h it z t
  · exact Draws.strWide h it z t
theorem turn_enumS {P : Program} {w : World} {K : PySem.W.Frag} {elts : List Expr} {k : Nat} {pos : Pos} (z : Str) (t : Tok) (e it : Addr) (hne : e ≠ it) : Turn P w K (.Tuple elts k pos) (Ites z) [e, it] e (fun i h => (∃ old, IsEnum h e it (i : Nat) old) ∧ h.IsStrIter it (strIterType z) z t i) where
  mem := by simp
  obj := fun i h st b hb => by
    obtain ⟨⟨old, s1⟩, o, e1, c, d⟩ := st
    rcases List.mem_cons.mp hb with z | z
    · subst z
      exact ⟨_, s1, fun v z => by cases z⟩
    · have z : b = it := by simpa using z
      subst z
      exact ⟨o, e1, fun v z => by rw [d] at z; cases z⟩
  keep := fun i h h' st k => by
    obtain ⟨⟨old, s1⟩, o, e1, c, d⟩ := st
    exact ⟨⟨old, k e (by simp) _ s1⟩, o, k it (by simp) o e1, c, d⟩
  item := by
    intro X hP hw hK hc i pins s σ H E I hf st hg
    subst hP hw hK
    obtain ⟨⟨old, s1⟩, s2⟩ := st
    have le : e < s.heap.objs.size := Heap.lt_size s1
    refine wpAny_pyNext_enum_itemD (draws_str (A := X.A.in1) (I.ok.hd hc) it z t) s1 s2 hg hne (by simpa using hne) fun u h' tk hP ho hi' ht hsz kp => ?_
    obtain ⟨c, uu, hcc, rfl⟩ := hP
    refine ⟨_, rfl, wpAny_letOwnedTupleGo_enum ho fun h2 he2 sb => ?_⟩
    have I1 : Inv X pins σ H { s with heap := h2, toks := tk + 1 } := I.turnedL (t' := tk + 1) (ch := [e, it]) hf fun b o hb q => by
      have hbe : b ≠ e := fun z => hb (by simp [z])
      have hbi : b ≠ it := fun z => hb (by simp [z])
      exact (sb.2 b hbe).trans (kp b o hbe hbi q)
    have hT : h2.get? s.heap.objs.size = some { cls := .type "tuple", data := .seq #[Value.int (i : Nat) tk, Value.str ⟨#[c]⟩ uu] } := (sb.2 _ (Nat.ne_of_gt le)).trans ht
    have hfr : H s.heap.objs.size = none := I.hok.fresh (Nat.le_refl _)
    have vs2 : Vals [V.int (i : Nat), V.str ⟨#[c]⟩] [Value.int (i : Nat) tk, Value.str ⟨#[c]⟩ uu] := .cons ⟨tk, rfl⟩ (.cons ⟨uu, rfl⟩ .nil)
    have I2 := I1.adopt (o := .tup [.int (i : Nat), .str ⟨#[c]⟩]) (I.fpOk (Nat.le_refl _) hfr) ⟨(by show 2 ≤ sizeLine; decide), [Value.int (i : Nat) tk, Value.str ⟨#[c]⟩ uu], vs2, ⟨_, hT, rfl, _, rfl⟩⟩
    have en : IsEnum h2 e it ((i + 1 : Nat) : Int) (Value.str ⟨#[c]⟩ uu) := by
      have e1 : ((i + 1 : Nat) : Int) = ((i : Nat) : Int) + 1 := by omega
      rw [e1]; exact he2
    refine ⟨.ref s.heap.objs.size, _, I2, rfl, ⟨_, c, rfl, hfr, hcc, rfl⟩, ⟨⟨_, en⟩, ?_⟩, fun b hb => ?_⟩
    · obtain ⟨o, q, r1, r2⟩ := hi'
      exact ⟨o, (sb.2 it (Ne.symm hne)).trans q, r1, r2⟩
    rw [upd_ne (fun z => ?_)]
    · exact (hf b hb).1
    · subst z
      rcases List.mem_cons.mp hb with z | z
      · exact absurd z (Nat.ne_of_gt le)
      · have z : s.heap.objs.size = it := by simpa using z
        obtain ⟨o, q, _⟩ := s2
        exact absurd z (Nat.ne_of_gt (Heap.lt_size q))
  done := by
    intro X hP hw hK hc i pins s σ H E I hf st hg
    subst hP hw hK
    obtain ⟨⟨old, s1⟩, s2⟩ := st
    have hg' : i = z.cps.size := hg
    subst hg'
    refine wpAny_pyNext_enum_endD (draws_str (A := X.A.in1) (I.ok.hd hc) it z t) s1 s2 fun h' eb => ⟨rfl, ?_⟩
    exact I.turnedL (t' := s.toks) (ch := [it]) (fun b hb => hf b (List.mem_cons_of_mem _ hb)) fun b o hb q => eb b o (fun z => hb (by simp [z])) q
  self := fun _ _ _ _ _ st h => wpAny_pyIter_enum st.1.choose_spec h
def iEnumS (ta : TA) : TI := fun σ H R => ta σ H fun vs H1 => ∃ z, vs = [.str z] ∧ R (Ites z) H1
theorem pi_enumS {X : Cx} {elts : List Expr} {k : Nat} {tpos : Pos} {l : Expr} {ta : TA} {p pos : Pos} (hg : Gl X "enumerate") (hm : X.mg "enumerate" = none) (ha : PA X [l] ta) (hs : starEach [l] X.env = [(false, eval l X.env)] := by rfl) :
    PI X (.Tuple elts k tpos) (.Call (.Name "enumerate" p) [l] [] pos) (iEnumS ta) := by
  intro pins s σ H R I h
  refine Call_ (ld_blt I hg hm PyProof.Rows.boot_enumerate (PyProof.Rows.callWith_type1 (thn (ha pos pins s σ H _ I h) fun us s1 hm0 => ?_) hs rfl))
  obtain ⟨vs, H1, I1, r1, q1⟩ := hm0
  obtain ⟨z, rfl, q⟩ := q1
  obtain ⟨u, rfl, ru⟩ := vals1 r1
  obtain ⟨t, rfl⟩ := ru
  refine call_enumerate_str fun h' he hi hsz kp => ?_
  refine wpAny_pyIter_enum he ?_
  refine ⟨s1.heap.objs.size + 1, [s1.heap.objs.size + 1, s1.heap.objs.size], _, _, H1, rfl, I1.kept (t' := s1.toks) kp, turn_enumS z t _ _ (Nat.succ_ne_self _), ⟨⟨_, he⟩, hi⟩, fun b hb => ?_, q⟩
  have hb' : s1.heap.objs.size ≤ b := by
    rcases List.mem_cons.mp hb with z | z
    · rw [z]; exact Nat.le_succ _
    · have z : b = s1.heap.objs.size := by simpa using z
      rw [z]; exact Nat.le_refl _
  exact I1.fpOk hb' (I1.hok.fresh hb')
theorem comp_enumSD {z : Str} {tt : TTg} {tc : TT} {te : TE} {cap : List Nat} {σ : St} {H : Hp} {D : Addr → List V → Hp → Prop} (Pv : Nat → List V → Hp → Prop) (h0 : Pv 0 [] H) (hz : z.cps.size ≤ sizeLine) (hl : ∀ i ys H, i ≤ z.cps.size → Pv i ys H → ys.length ≤ i)
    (hs : ∀ i c T ys H, z.cps[i]? = some c → Pv i ys H → H T = none → tt (.ref T) (upd H T (.tup [.int (i : Nat), .str ⟨#[c]⟩])) fun ws => tc (ws.map some ++ capS σ cap) (upd H T (.tup [.int (i : Nat), .str ⟨#[c]⟩])) fun b H4 => if b = true then te (ws.map some ++ capS σ cap) H4 fun y H5 => Pv (i + 1) (ys ++ [y]) H5 else Pv (i + 1) ys H4)
    (hd : ∀ ys H, Pv z.cps.size ys H → ∀ p, H p = none → D p ys H) :
    ∃ W : Nat → Nat → List V → Hp → Prop, (∃ m, W 0 m [] H) ∧ ∀ i m ys H2, W i m ys H2 →
    ((Ites z).stop i H2 ∧ ys.length ≤ sizeLine ∧ ∀ p, H2 p = none → D p ys H2) ∨
    ((Ites z).go i H2 ∧ ∃ N : List V → Hp → Prop, (∀ ys' H', N ys' H' → ys'.length ≤ sizeLine ∧ ∃ m', m' < m ∧ W (i + 1) m' ys' H') ∧
      ∀ x H3, (Ites z).yld i H2 x H3 → tt x H3 fun ws => tc (ws.map some ++ capS σ cap) H3 fun b H4 => if b = true then te (ws.map some ++ capS σ cap) H4 fun y H5 => N (ys ++ [y]) H5 else N ys H4) := by
  refine ⟨fun i m ys H => m = z.cps.size - i ∧ i ≤ z.cps.size ∧ Pv i ys H, ⟨z.cps.size, by simp, Nat.zero_le _, h0⟩, ?_⟩
  rintro i m ys H2 ⟨rfl, hi, p⟩
  have q := hl i ys H2 hi p
  by_cases hlt : i < z.cps.size
  · refine .inr ⟨hlt, Pv (i + 1), fun ys' H' p' => ⟨Nat.le_trans (hl (i + 1) ys' H' hlt p') (Nat.le_trans hlt hz), z.cps.size - (i + 1), by omega, rfl, hlt, p'⟩, fun x H' y => ?_⟩
    obtain ⟨T, c, rfl, hT, hc, rfl⟩ := y
    exact hs i c T ys _ hc p hT
  · have e : i = z.cps.size := by omega
    subst e
    exact .inl ⟨rfl, Nat.le_trans q hz, fun p' hp' => hd ys H2 p p' hp'⟩
theorem comp_enumD {K : PySem.W.Frag} {a : Addr} {xs : List V} {tt : TTg} {tc : TT} {te : TE} {cap : List Nat} {σ : St} {H : Hp} {D : Addr → List V → Hp → Prop} (Pv : Nat → List V → Hp → Prop) (h0 : Pv 0 [] H) (hz : xs.length ≤ sizeLine) (hl : ∀ i ys H, i ≤ xs.length → Pv i ys H → SqL K H a xs ∧ ys.length ≤ i)
    (hs : ∀ i x T ys H, xs[i]? = some x → Pv i ys H → H T = none → tt (.ref T) (upd H T (.tup [.int (i : Nat), x])) fun ws => tc (ws.map some ++ capS σ cap) (upd H T (.tup [.int (i : Nat), x])) fun b H4 => if b = true then te (ws.map some ++ capS σ cap) H4 fun y H5 => Pv (i + 1) (ys ++ [y]) H5 else Pv (i + 1) ys H4)
    (hd : ∀ ys H, Pv xs.length ys H → ∀ p, H p = none → D p ys H) :
    ∃ W : Nat → Nat → List V → Hp → Prop, (∃ m, W 0 m [] H) ∧ ∀ i m ys H2, W i m ys H2 →
    ((Ite K a).stop i H2 ∧ ys.length ≤ sizeLine ∧ ∀ p, H2 p = none → D p ys H2) ∨
    ((Ite K a).go i H2 ∧ ∃ N : List V → Hp → Prop, (∀ ys' H', N ys' H' → ys'.length ≤ sizeLine ∧ ∃ m', m' < m ∧ W (i + 1) m' ys' H') ∧
      ∀ x H3, (Ite K a).yld i H2 x H3 → tt x H3 fun ws => tc (ws.map some ++ capS σ cap) H3 fun b H4 => if b = true then te (ws.map some ++ capS σ cap) H4 fun y H5 => N (ys ++ [y]) H5 else N ys H4) := by
  refine ⟨fun i m ys H => m = xs.length - i ∧ i ≤ xs.length ∧ Pv i ys H, ⟨xs.length, by simp, Nat.zero_le _, h0⟩, ?_⟩
  rintro i m ys H2 ⟨rfl, hi, p⟩
  obtain ⟨q, hy⟩ := hl i ys H2 hi p
  by_cases hlt : i < xs.length
  · refine .inr ⟨⟨xs, xs[i], q, by simp [hlt]⟩, Pv (i + 1), fun ys' H' r => ?_, fun x H3 y => ?_⟩
    · obtain ⟨_, h2⟩ := hl (i + 1) ys' H' hlt r
      exact ⟨by omega, xs.length - (i + 1), by omega, rfl, hlt, r⟩
    · obtain ⟨T, z, rfl, hT, y, rfl⟩ := y
      exact hs i z T ys _ (y xs q) p hT
  · have e : i = xs.length := by omega
    subst e
    exact .inl ⟨⟨xs, q, Nat.le_refl _⟩, by omega, hd ys H2 p⟩
end L2
set_option Elab.async false
set_option linter.all false
set_option maxRecDepth 100000
set_option maxHeartbeats 4000000
namespace L2
open PySem PySem.Spec PyProof.Rows
section
variable {X : Cx}
theorem call_int_text : CallR X (.type "int") (fun xs H Q => ∃ (x : Str) (n : Int), xs = [.str x] ∧ intText? x = some n ∧ x.length ≤ 640 ∧ Q (.int n) H) := by
  intro pins s σ H xs us Q I r h
  obtain ⟨x, n, rfl, hn, hl, q⟩ := h
  obtain ⟨u, rfl, t, rfl⟩ := vals1 r
  exact PySem.W.KIN.call_text hn hl ⟨.int n, H, I.tok _, ⟨_, rfl⟩, q⟩
theorem mt_startswith : MtM X "str.startswith" (fun x vs H Q => ∃ z y, x = .str z ∧ vs = [.str y] ∧ Q (.bl (0 + y.length ≤ z.length && Builtin.Str.subAt z y 0)) H) := by
  intro pins s σ H x vs v us Q I rx rv h
  obtain ⟨z, y, rfl, rfl, q⟩ := h
  obtain ⟨t, rfl⟩ := rx
  obtain ⟨u, rfl, t', rfl⟩ := rv.one
  exact call_meets F.slot_str_startswith (typeIs_str s z t) F.entry_str_startswith (F.args_str_startswith_2 _ _) (gives_str_startswith z y t t').meets ⟨.bl _, H, I, rfl, q⟩
def picked (x : Str) (lo hi : Option Int) : List Nat := Builtin.Str.strSliceIndices lo hi 1 x.length
def cutS (x : Str) (lo hi : Option Int) : Str := if (picked x lo hi).length = x.length then x else ⟨((picked x lo hi).filterMap (x.cps[·]?)).toArray⟩
theorem part_of {v : Value} {lo : Option Int} (h : IsPart v lo) : ∃ p : Option (Int × Tok), v = partValue p ∧ p.map (·.1) = lo := by
  cases h with
  | none => exact ⟨none, rfl, rfl⟩
  | int i t => exact ⟨some (i, t), rfl, rfl⟩
theorem sl_str : SlR X (fun x lo hi H Q => ∃ z, x = .str z ∧ (cutS z lo hi).length ≤ sizeLine ∧ Q (.str (cutS z lo hi)) H) := by
  intro pins s σ H x v vl vu lo hi sl Q I rx hs pl pu h
  obtain ⟨z, rfl, hz, q⟩ := h
  obtain ⟨t, rfl⟩ := rx
  obtain ⟨p1, rfl, rfl⟩ := part_of pl
  obtain ⟨p2, rfl, rfl⟩ := part_of pu
  refine ⟨"str", _, slot_str_getitem.lookup, typeIs_str s z t, ?_⟩
  refine getItem_meets (typeIs_str s z t) (by decide) F.slot_str_getitem F.entry_str_getitem (F.args_str_getitem_2 _ _) (meets_str_getitem_slice z t sl p1 p2 none rfl) ⟨hs, ?_⟩
  have e : slicePicked z p1 p2 none = picked z (p1.map (·.1)) (p2.map (·.1)) := rfl
  unfold sliceMade
  rw [e]
  unfold cutS at q hz
  by_cases c : (picked z (p1.map (·.1)) (p2.map (·.1))).length = z.length
  · rw [if_pos c] at q
    rw [if_pos (by rw [c]; simp)]
    exact ⟨.str z, H, I, ⟨_, rfl⟩, q⟩
  · rw [if_neg c] at q hz
    rw [if_neg (by simp [c])]
    exact ⟨hz, .str _, H, I.tok _, ⟨_, rfl⟩, q⟩
def rStr : Rel Str := fun _ x v => v = .str x
theorem eqok_str : EqOk 0 rStr := by
  refine ⟨fun X pins σ H s A x v w u1 u2 I hu h1 h2 r1 r2 => ?_⟩
  have e1 : v = .str x := h1
  have e2 : w = .str x := h2
  subst e1; subst e2
  have := eqAt_V (A := A) (s := s) r1 r2 rfl rfl
  simpa [eqV] using this
end
end L2
set_option linter.all false
namespace Law
open PySem L2
end Law
set_option Elab.async false
set_option linter.all false
set_option maxRecDepth 100000
set_option maxHeartbeats 4000000
namespace L2
open PySem PySem.Spec PyProof.Rows
theorem one_at {x : Str} {c i : Nat} : StrLaws.At x ⟨#[c]⟩ x.length i ↔ x.cps.toList[i]? = some c := by
  have hl : x.cps.toList.length = x.length := Array.length_toList
  unfold StrLaws.At Builtin.Str.subAt
  show i + 1 ≤ x.length ∧ (x.cps.extract i (i + 1) == #[c]) = true ↔ _
  have e : (x.cps.extract i (i + 1)).toList = (x.cps.toList.drop i).take 1 := by rw [Array.toList_extract, List.extract_eq_drop_take]; simp
  constructor
  · rintro ⟨h1, h2⟩
    have h3 : x.cps.extract i (i + 1) = #[c] := eq_of_beq h2
    rw [h3] at e
    have h4 : x.cps.toList[i]? = some (x.cps.toList[i]'(by omega)) := by simp
    rw [List.drop_eq_getElem_cons (show i < x.cps.toList.length by omega)] at e
    have h5 : c = x.cps.toList[i]'(by omega) := by simpa using e
    rw [h4, h5]
  · intro h
    obtain ⟨h1, h2⟩ := List.getElem?_eq_some_iff.mp h
    refine ⟨by omega, ?_⟩
    have h3 : x.cps.extract i (i + 1) = #[c] := by
      apply Array.toList_inj.mp
      rw [e, List.drop_eq_getElem_cons h1, h2]; simp
    rw [h3]; simp
theorem part_one {a b : List Nat} {c : Nat} (hc : c ∉ a) : Txt.partition ⟨(a ++ c :: b).toArray⟩ ⟨#[c]⟩ = (⟨a.toArray⟩, ⟨#[c]⟩, ⟨b.toArray⟩) := by
  have hl : (⟨(a ++ c :: b).toArray⟩ : Str).length = a.length + 1 + b.length := by show (a ++ c :: b).toArray.size = _; simp; omega
  have here : (a ++ c :: b)[a.length]? = some c := by simp
  unfold Txt.partition
  rcases StrLaws.occ_head (⟨(a ++ c :: b).toArray⟩ : Str) ⟨#[c]⟩ 1 (Nat.le_refl 1) with ⟨h0, hn⟩ | ⟨i, r, h0, hi, hn⟩
  · exact absurd (one_at.mpr (by simpa using here)) (hn a.length)
  · rw [h0]
    have hi' : (a ++ c :: b)[i]? = some c := by simpa using one_at.mp hi
    have e : i = a.length := by
      rcases Nat.lt_trichotomy i a.length with h | h | h
      · rw [List.getElem?_append_left h] at hi'
        exact absurd (List.mem_of_getElem? hi') hc
      · exact h
      · exact absurd (one_at.mpr (by simpa using here)) (hn _ h)
    subst e
    show (Builtin.Str.strSub _ 0 a.length, (⟨#[c]⟩ : Str), Builtin.Str.strSub _ (a.length + 1) _) = _
    unfold Builtin.Str.strSub
    rw [hl]
    refine Prod.ext ?_ (Prod.ext rfl ?_)
    · show (⟨_⟩ : Str) = ⟨_⟩
      congr 1
      apply Array.toList_inj.mp
      rw [Array.toList_extract]; simp
    · show (⟨_⟩ : Str) = ⟨_⟩
      congr 1
      apply Array.toList_inj.mp
      rw [Array.toList_extract]; simp
end L2
set_option Elab.async false
set_option linter.all false
set_option maxRecDepth 100000
set_option maxHeartbeats 4000000
namespace L2
open PySem PySem.Spec PyProof.Rows
theorem str_list {x : Str} {l : List Nat} (h : x.cps.toList = l) : x = ⟨l.toArray⟩ := by
  obtain ⟨a⟩ := x
  subst h
  rfl
theorem str_len (x : Str) : x.length = x.cps.toList.length := by rw [Array.length_toList]; rfl
theorem app_list (x y : Str) : (x ++ y).cps.toList = x.cps.toList ++ y.cps.toList := by
  show (x.cps ++ y.cps).toList = _
  simp
theorem sub_list (x : Str) (i j : Nat) : (Builtin.Str.strSub x i j).cps.toList = (x.cps.toList.drop i).take (j - i) := by
  unfold Builtin.Str.strSub
  show (x.cps.extract i j).toList = _
  rw [Array.toList_extract, List.extract_eq_drop_take]
theorem at_iff {x y : Str} {i : Nat} : StrLaws.At x y x.length i ↔ i + y.cps.toList.length ≤ x.cps.toList.length ∧ (x.cps.toList.drop i).take y.cps.toList.length = y.cps.toList := by
  have hl := str_len x
  have hy := str_len y
  unfold StrLaws.At Builtin.Str.subAt
  rw [hl, hy]
  refine and_congr_right fun h => ?_
  have e : (x.cps.extract i (i + y.cps.toList.length)).toList = (x.cps.toList.drop i).take y.cps.toList.length := by
    rw [Array.toList_extract, List.extract_eq_drop_take]; simp
  rw [← e]
  constructor
  · intro h; rw [eq_of_beq h]
  · intro h
    have := Array.toList_inj.mp h
    rw [this]; simp
theorem at_first {x y : Str} {c : Nat} {r : List Nat} {i : Nat} (hy : y.cps.toList = c :: r) (h : StrLaws.At x y x.length i) : x.cps.toList[i]? = some c := by
  obtain ⟨h1, h2⟩ := at_iff.mp h
  rw [hy] at h1 h2
  have hi : i < x.cps.toList.length := by simp at h1; simp; omega
  rw [List.drop_eq_getElem_cons hi] at h2
  rw [List.getElem?_eq_getElem hi]
  have := congrArg List.head? h2
  simpa using this
def flatL (s : List Nat) : List (List Nat) → List Nat
  | [] => []
  | [p] => p
  | p :: q :: r => p ++ s ++ flatL s (q :: r)
theorem flat_join (y : Str) : ∀ ps : List Str, (Txt.join y ps).cps.toList = flatL y.cps.toList (ps.map fun p => p.cps.toList) := by
  intro ps
  show (Builtin.Str.glued y ps).cps.toList = _
  rw [StrLaws.glued_eq_join]
  induction ps with
  | nil => rfl
  | cons p r ih =>
    cases r with
    | nil => rfl
    | cons q r =>
      rw [Str.join.eq_3 _ _ _ (fun z => by cases z), app_list, app_list, ih]; rfl
theorem parts_flat {x y : Str} {c : Nat} {s : List Nat} (hy : y.cps.toList = c :: s) : ∀ (ps : List (List Nat)) (a f : Nat) (cuts : List Nat), ps ≠ [] → (∀ p ∈ ps, c ∉ p) → a ≤ x.cps.toList.length → x.cps.toList.drop a = flatL (c :: s) ps → StrLaws.ChainG x y x.length a cuts f → (∀ k, f ≤ k → ¬ StrLaws.At x y x.length k) → StrLaws.partsFrom x y.length a cuts = ps.map fun p => ⟨p.toArray⟩
  | [], _, _, _, h, _, _, _, _, _ => absurd rfl h
  | [p], a, f, cuts, _, hp, ha, he, hc, hf => by
    have he' : x.cps.toList.drop a = p := he
    cases cuts with
    | nil =>
      rw [StrLaws.partsFrom.eq_1]
      refine congrArg (fun z => [z]) (str_list ?_)
      rw [sub_list, he', List.take_of_length_le]
      rw [str_len, ← he', List.length_drop]; omega
    | cons i r =>
      rw [StrLaws.ChainG.eq_2] at hc
      have h1 := at_first hy hc.2.1
      refine absurd ?_ (hp p List.mem_cons_self)
      rw [← he', List.mem_iff_getElem?]
      exact ⟨i - a, by rw [List.getElem?_drop, ← h1]; congr 1; omega⟩
  | p :: q :: r, a, f, cuts, _, hp, ha, he, hc, hf => by
    have he' : x.cps.toList.drop a = p ++ (c :: s) ++ flatL (c :: s) (q :: r) := he
    have hl : x.cps.toList.length - a = p.length + (s.length + 1) + (flatL (c :: s) (q :: r)).length := by
      rw [← List.length_drop, he']; simp; omega
    have here : StrLaws.At x y x.length (a + p.length) := by
      rw [at_iff, hy]
      refine ⟨by rw [List.length_cons]; omega, ?_⟩
      rw [← List.drop_drop, he', List.append_assoc, List.drop_left, List.take_left]
    cases cuts with
    | nil =>
      rw [StrLaws.ChainG.eq_1] at hc
      exact absurd here (hf _ (by omega))
    | cons i t =>
      rw [StrLaws.ChainG.eq_2] at hc
      obtain ⟨c1, c2, c3, c4⟩ := hc
      have h1 := at_first hy c2
      have ei : i = a + p.length := by
        rcases Nat.lt_trichotomy i (a + p.length) with h | h | h
        · refine absurd ?_ (hp p List.mem_cons_self)
          have e1 : (x.cps.toList.drop a)[i - a]? = some c := by rw [List.getElem?_drop, ← h1]; congr 1; omega
          rw [he', List.append_assoc, List.getElem?_append_left (by omega)] at e1
          exact List.mem_of_getElem? e1
        · exact h
        · exact absurd here (c3 _ (by omega) h)
      subst ei
      rw [StrLaws.partsFrom.eq_2, List.map_cons]
      have hyl : y.length = s.length + 1 := by rw [str_len, hy]; rfl
      refine congr (congrArg List.cons (str_list ?_)) ?_
      · rw [sub_list, he', List.append_assoc, Nat.add_sub_cancel_left, List.take_left]
      · refine parts_flat hy (q :: r) _ f t (fun z => by cases z) (fun p' h' => hp p' (List.mem_cons_of_mem _ h')) (by omega) ?_ c4 hf
        rw [hyl, Nat.add_assoc, ← List.drop_drop, he', List.append_assoc, ← List.drop_drop, List.drop_left]
        exact List.drop_left (l₁ := c :: s)
theorem split_join {y : Str} {c : Nat} {s : List Nat} (hy : y.cps.toList = c :: s) (hk : Builtin.Str.strKind y = 1) {ps : List Str} (hne : ps ≠ []) (hp : ∀ p ∈ ps, c ∉ p.cps.toList) : Txt.split (Txt.join y ps) y = ps := by
  obtain ⟨f, h1, h2⟩ := StrLaws.occ_tight (Txt.join y ps) y (by rw [str_len, hy]; simp)
  have key := parts_flat (x := Txt.join y ps) hy (ps.map fun p => p.cps.toList) 0 f _ (fun z => hne (List.map_eq_nil_iff.mp z)) (fun p h => by obtain ⟨q, hq, rfl⟩ := List.mem_map.mp h; exact hp q hq) (Nat.zero_le _) (by rw [List.drop_zero, flat_join, hy]) h1 h2
  have eq : (ps.map fun p => p.cps.toList).map (fun p => (⟨p.toArray⟩ : Str)) = ps := by
    rw [List.map_map]
    exact List.map_id'' (fun x => rfl) _
  rw [eq] at key
  have one : ∀ p, ps = [p] → Txt.join y ps = p := fun p e => by rw [e]; rfl
  unfold Txt.split
  by_cases c1 : (decide ((Txt.join y ps).length < y.length) || decide (Builtin.Str.strKind (Txt.join y ps) < Builtin.Str.strKind y)) = true
  · rw [if_pos c1]
    match hps : ps, hne with
    | [p], _ => rfl
    | p :: q :: r, _ =>
      exfalso
      rw [Bool.or_eq_true] at c1
      rcases c1 with c1 | c1
      · have c1 := of_decide_eq_true c1
        rw [str_len, str_len, flat_join] at c1
        have : flatL y.cps.toList ((p :: q :: r).map fun p => p.cps.toList) = p.cps.toList ++ y.cps.toList ++ flatL y.cps.toList ((q :: r).map fun p => p.cps.toList) := rfl
        rw [hps, this] at c1
        simp at c1
        omega
      · have c1 := of_decide_eq_true c1
        rw [hk] at c1
        unfold Builtin.Str.strKind at c1
        split at c1
        · omega
        · split at c1 <;> omega
  · rw [if_neg c1]
    by_cases c2 : (Builtin.Str.occurrences (Txt.join y ps) y 0 (Txt.join y ps).length ((Txt.join y ps).length + 1)).isEmpty = true
    · rw [if_pos c2]
      have e := List.isEmpty_iff.mp c2
      rw [e, StrLaws.partsFrom.eq_1] at key
      refine Eq.trans ?_ key
      refine congrArg (fun z => [z]) ?_
      symm
      refine (str_list (sub_list _ _ _)).trans ?_
      rw [str_len, List.drop_zero, Nat.sub_zero, List.take_length]
    · rw [if_neg c2, StrLaws.partsBetween_eq]; exact key
end L2
set_option Elab.async false
set_option linter.all false
set_option maxRecDepth 100000
set_option maxHeartbeats 4000000
namespace L2
open PySem PySem.Spec PyProof.Rows
def tSortR (K : PySem.W.Frag) (ta tk : TA) : TE := fun σ H Q => ta σ H fun vs H1 => tk σ H1 fun zs H2 => ∃ (a : Addr) (ks : List Int) (b : Bool), vs = [.ref a] ∧ zs = [.bl b] ∧ SqL K H2 a (ks.map V.int) ∧ ks.length < 64 ∧ ∀ (p : Addr) (ns : List Int), H2 p = none → ns.Perm ks → Q (.ref p) (upd H2 p (.lst (ns.map V.int)))
theorem pe_sortR {X : Cx} {K : PySem.W.Frag} {e v : Expr} {ta tk : TA} {p pos kpos : Pos} (hK : X.K = K) (hg : Gl X "sorted") (hm : X.mg "sorted" = none) (ha : PA X [e] ta) (hk : PK X [⟨some ("reverse" : Str), v, kpos⟩] tk)
    (h1 : backTo pos (starEach [e] X.env) = (false, eval e X.env) :: backTo pos (starEach [] X.env) := by rfl) (h2 : ((backTo pos (starEach [e] X.env)).any fun x => x.fst) = false := by rfl)
    (h3 : ((backToKw pos (keywordEach [⟨some ("reverse" : Str), v, kpos⟩] X.env)).all fun x => x.fst.isSome) = true := by rfl) (h4 : ((backToKw pos (keywordEach [⟨some ("reverse" : Str), v, kpos⟩] X.env)).any fun x => x.fst.isNone) = false := by rfl)
    (h5 : List.filterMap (fun x => x.fst) (backToKw pos (keywordEach [⟨some ("reverse" : Str), v, kpos⟩] X.env)) = [("reverse" : Str)] := by rfl) :
    PE X (.Call (.Name "sorted" p) [e] [⟨some ("reverse" : Str), v, kpos⟩] pos) (tSortR K ta tk) := by
  subst hK
  intro pins s σ H Q I h
  refine wpAny_Call_Name_kw (ld_blt I hg hm boot_sorted ?_ (by decide) (by decide))
  refine PyProof.Rows.callWith_kw (thn (ha pos pins s σ H _ I h) fun us s1 hm0 => ?_) h1 h2 h3 h4
  obtain ⟨vs, H1, I1, r1, q1⟩ := hm0
  refine thn (hk pos pins s1 σ H1 _ I1 q1) fun ws s2 hm0 => ?_
  obtain ⟨zs, H2, I2, r2, q2⟩ := hm0
  obtain ⟨a, ks, b, rfl, rfl, hS, h64, q⟩ := q2
  rw [h5]
  obtain ⟨u, rfl, ru⟩ := vals1 r1
  cases ru
  obtain ⟨u2, rfl, ru2⟩ := vals1 r2
  cases ru2
  obtain ⟨its, rv, pl, hz⟩ := I2.list hS
  have hi : IntsAre its ks := intsAre_of rv
  refine sorted_ints_rev (b := b) pl.isList hi (by rw [hi.length]; exact h64) fun out ns' i2 pm _ => ?_
  obtain ⟨e, he⟩ := sortedAll_at s2.heap its out
  have hz : (ns'.map V.int).length ≤ sizeLine := by rw [List.length_map, pm.length_eq]; exact small (m := 64) (Nat.le_of_lt h64)
  have k0 : ∀ b o, s2.heap.get? b = some o → (sortedAll s2.heap its out).get? b = some o := fun b o => sortedAll_old
  have f1 : H2 (s2.heap.objs.size + 1) = none := I2.hok.fresh (Nat.le_succ _)
  refine ⟨.ref (s2.heap.objs.size + 1), _, I2.laid (t' := s2.toks) (o := .lst (ns'.map V.int)) k0 (Nat.le_succ _) ⟨hz, out.toList, e, vals_of i2, by simpa using he⟩, rfl, q _ ns' f1 pm⟩
end L2
set_option Elab.async false
set_option linter.all false
set_option maxRecDepth 100000
set_option maxHeartbeats 4000000
namespace L2
open PySem PySem.Spec PyProof.Rows
def dl (n : Nat) : List Nat := (Nat.toDigits 10 n).map Char.toNat
theorem dl_val (n : Nat) : NumText.digitsVal (dl n) = n := PySem.W.KIN.val_back n
theorem dl_len (n : Nat) : 1 ≤ (dl n).length := by unfold dl; rw [List.length_map]; exact Nat.length_toDigits_pos
theorem dl_le {n k : Nat} (hk : 0 < k) (h : n < 10 ^ k) : (dl n).length ≤ k := by unfold dl; rw [List.length_map]; exact (Nat.length_toDigits_le_iff (by decide) hk).mpr h
theorem dl_all (n : Nat) : NumText.AllDigits (dl n) := fun c hc => by
  obtain ⟨d, hd, rfl⟩ := List.mem_map.mp hc
  have := Nat.isDigit_of_mem_toDigits (b := 10) (by decide) (by decide) hd
  unfold Char.isDigit at this
  rw [Bool.and_eq_true] at this
  have h1 := of_decide_eq_true this.1
  have h2 := of_decide_eq_true this.2
  have e1 : (48 : UInt32) ≤ d.val := h1
  have e2 : d.val ≤ (57 : UInt32) := h2
  rw [UInt32.le_iff_toNat_le] at e1 e2
  exact ⟨e1, e2⟩
theorem dl_zero : dl 0 = [48] := by decide +kernel
theorem dl_head {n : Nat} {r : List Nat} (h : dl n = 48 :: r) : n = 0 := by
  have hv := dl_val n
  have ha := dl_all n
  have h1 := NumText.toDigits_all (dl n) ha
  rw [hv] at h1
  have hl : (Nat.toDigits 10 n).length = (dl n).length := by unfold dl; rw [List.length_map]
  rw [h1, h] at hl
  have hd : List.dropWhile (fun x => x == 48) (48 :: r) = List.dropWhile (fun x => x == 48) r := by rw [List.dropWhile_cons]; rfl
  rw [hd] at hl
  have hle : (List.dropWhile (fun x : Nat => x == 48) r).length ≤ r.length := List.Sublist.length_le (List.dropWhile_sublist _)
  cases e : List.dropWhile (fun x : Nat => x == 48) r with
  | nil =>
    rw [e] at hl
    have hr : r = [] := by
      have : 1 = r.length + 1 := by simpa using hl
      exact List.length_eq_zero_iff.mp (by omega)
    rw [hr] at h
    have : NumText.digitsVal (dl n) = 0 := by rw [h]; rfl
    omega
  | cons c t =>
    rw [e] at hl hle
    simp at hl hle
    omega
theorem neg_text {i : Int} (h : i < 0) : (Str.ofString (toString i)).cps.toList = 45 :: dl i.natAbs := by
  obtain ⟨m, rfl⟩ : ∃ m : Nat, i = Int.negSucc m := by
    cases i with
    | ofNat n => exact absurd h (by simp)
    | negSucc m => exact ⟨m, rfl⟩
  have e : toString (Int.negSucc m) = "-" ++ toString (m + 1) := rfl
  rw [e, Str.ofString_eq_toList]
  show ((("-" ++ toString (m + 1)).toList.map Char.toNat).toArray).toList = _
  rw [List.toList_toArray, String.toList_append, List.map_append]
  have e2 : (toString (m + 1)).toList = Nat.toDigits 10 (m + 1) := Nat.toList_repr
  rw [e2]; rfl
theorem pos_text {i : Int} (h : 0 ≤ i) : (Str.ofString (toString i)).cps.toList = dl i.natAbs := by
  obtain ⟨m, rfl⟩ : ∃ m : Nat, i = Int.ofNat m := ⟨i.toNat, by simp; omega⟩
  rw [text_ofNat]; rfl
theorem int_back (i : Int) (h : i.natAbs < 10 ^ 60) : intText? (Str.ofString (toString i)) = some i ∧ (Str.ofString (toString i)).length ≤ 61 := by
  have hl : (dl i.natAbs).length ≤ 60 := dl_le (by decide) h
  have hne : dl i.natAbs ≠ [] := fun z => by have := dl_len i.natAbs; rw [z] at this; simp at this
  by_cases hi : i < 0
  · have ht := neg_text hi
    have hL : (Str.ofString (toString i)).length ≤ 61 := by rw [str_len, ht, List.length_cons]; omega
    refine ⟨?_, hL⟩
    rw [intText_neg ht (dl_all _) hne (by omega), dl_val]
    congr 1; omega
  · have ht := pos_text (i := i) (by omega)
    have hL : (Str.ofString (toString i)).length ≤ 61 := by rw [str_len, ht]; omega
    refine ⟨?_, hL⟩
    rw [intText_digits (by rw [ht]; exact dl_all _) (by rw [ht]; exact hne) (by omega), ht, dl_val]
    congr 1; omega
end L2
set_option Elab.async false
set_option linter.all false
set_option maxRecDepth 100000
set_option maxHeartbeats 4000000
namespace Law
open PySem L2
def top (i : Nat) : Stmt := PySem.Challenge.pw_rankgarth_k70_texts_of_purse_games.main.body.getD i (.Pass ⟨0, 0, 0, 0⟩)
abbrev s_is_whole : Stmt := top 9
abbrev s_is_place : Stmt := top 10
abbrev s_check_hand : Stmt := top 11
abbrev s_check_ways : Stmt := top 12
abbrev s_check_purse_ways : Stmt := top 15
abbrev s_check_amounts : Stmt := top 16
abbrev s_check_purse_rows : Stmt := top 17
abbrev s_purse_game : Stmt := top 18
abbrev s_is_made_of : Stmt := top 25
abbrev s_is_name : Stmt := top 26
abbrev s_is_figures : Stmt := top 27
abbrev s_is_amount : Stmt := top 28
abbrev s_check_form : Stmt := top 29
abbrev s_places_told : Stmt := top 30
abbrev s_read_head : Stmt := top 31
abbrev s_read_purse_way : Stmt := top 32
abbrev s_read_purse_place : Stmt := top 33
abbrev s_numbered : Stmt := top 34
abbrev s_number_of : Stmt := top 35
abbrev s_read_purses : Stmt := top 36
abbrev s_shown_purses : Stmt := top 37
abbrev s_law_cell_at : Stmt := top 39
abbrev s_law_whole : Stmt := top 40
abbrev s_law_names : Stmt := top 41
abbrev s_law_amount : Stmt := top 42
abbrev s_law_rows : Stmt := top 43
abbrev s_law_text : Stmt := top 44
abbrev s_law_alike : Stmt := top 45
abbrev s_law : Stmt := top 46
structure Txt (mg : Str → Option Value) : Prop where
  b_abs : mg "abs" = none
  b_all : mg "all" = none
  b_bool : mg "bool" = none
  b_dict : mg "dict" = none
  b_enumerate : mg "enumerate" = none
  b_int : mg "int" = none
  b_isinstance : mg "isinstance" = none
  b_len : mg "len" = none
  b_list : mg "list" = none
  b_range : mg "range" = none
  b_set : mg "set" = none
  b_sorted : mg "sorted" = none
  b_str : mg "str" = none
  b_tuple : mg "tuple" = none
  b_zip : mg "zip" = none
  g_FIGURES : ∃ t, mg "FIGURES" = some (.str "0123456789" t)
  g_HAND_SIGNS : ∃ t, mg "HAND_SIGNS" = some (.str "+-" t)
  g_LETTERS : ∃ t, mg "LETTERS" = some (.str "abcdefghijklmnopqrstuvwxyz" t)
  g_MOST_AMOUNT_FIGURES : ∃ t, mg "MOST_AMOUNT_FIGURES" = some (.int 60 t)
  g_MOST_LETTERS : ∃ t, mg "MOST_LETTERS" = some (.int 8 t)
  g_MOST_PURSE_PLACES : ∃ t, mg "MOST_PURSE_PLACES" = some (.int 16 t)
abbrev xRs : List Str := ["NoHand", "NoWay", "NoAmount", "TooMany"]
abbrev xNs : List Str := ["NoAmount", "TooMany"]
theorem sc_is_whole : FnScope ["value"] ["value"] (defScope s_is_whole) := ⟨rfl, rfl, rfl, by decide +kernel, rfl, by decide +kernel, by decide +kernel⟩
theorem sc_is_place : FnScope ["value", "count"] ["value", "count"] (defScope s_is_place) := ⟨rfl, rfl, rfl, by decide +kernel, rfl, by decide +kernel, by decide +kernel⟩
theorem sc_check_hand : FnScope ["hand"] ["hand"] (defScope s_check_hand) := ⟨rfl, rfl, rfl, by decide +kernel, rfl, by decide +kernel, by decide +kernel⟩
theorem sc_check_ways : FnScope ["ways", "count", "way"] ["ways", "count"] (defScope s_check_ways) := ⟨rfl, rfl, rfl, by decide +kernel, rfl, by decide +kernel, by decide +kernel⟩
theorem sc_check_purse_ways : FnScope ["ways", "count", "places"] ["ways", "count"] (defScope s_check_purse_ways) := ⟨rfl, rfl, rfl, by decide +kernel, rfl, by decide +kernel, by decide +kernel⟩
theorem sc_check_amounts : FnScope ["ways", "way"] ["ways"] (defScope s_check_amounts) := ⟨rfl, rfl, rfl, by decide +kernel, rfl, by decide +kernel, by decide +kernel⟩
theorem sc_check_purse_rows : FnScope ["rows", "row"] ["rows"] (defScope s_check_purse_rows) := ⟨rfl, rfl, rfl, by decide +kernel, rfl, by decide +kernel, by decide +kernel⟩
theorem sc_purse_game : FnScope ["rows"] ["rows"] (defScope s_purse_game) := ⟨rfl, rfl, rfl, by decide +kernel, rfl, by decide +kernel, by decide +kernel⟩
theorem sc_is_made_of : FnScope ["word", "signs", "most"] ["word", "signs", "most"] (defScope s_is_made_of) := ⟨rfl, rfl, rfl, by decide +kernel, rfl, by decide +kernel, by decide +kernel⟩
theorem sc_is_name : FnScope ["word"] ["word"] (defScope s_is_name) := ⟨rfl, rfl, rfl, by decide +kernel, rfl, by decide +kernel, by decide +kernel⟩
theorem sc_is_figures : FnScope ["word", "most"] ["word", "most"] (defScope s_is_figures) := ⟨rfl, rfl, rfl, by decide +kernel, rfl, by decide +kernel, by decide +kernel⟩
theorem sc_is_amount : FnScope ["word"] ["word"] (defScope s_is_amount) := ⟨rfl, rfl, rfl, by decide +kernel, rfl, by decide +kernel, by decide +kernel⟩
theorem sc_check_form : FnScope ["right"] ["right"] (defScope s_check_form) := ⟨rfl, rfl, rfl, by decide +kernel, rfl, by decide +kernel, by decide +kernel⟩
theorem sc_places_told : FnScope ["text"] ["text"] (defScope s_places_told) := ⟨rfl, rfl, rfl, by decide +kernel, rfl, by decide +kernel, by decide +kernel⟩
theorem sc_read_head : FnScope ["word", "found", "parts"] ["word"] (defScope s_read_head) := ⟨rfl, rfl, rfl, by decide +kernel, rfl, by decide +kernel, by decide +kernel⟩
theorem sc_read_purse_way : FnScope ["word", "parts"] ["word"] (defScope s_read_purse_way) := ⟨rfl, rfl, rfl, by decide +kernel, rfl, by decide +kernel, by decide +kernel⟩
theorem sc_read_purse_place : FnScope ["text", "words", "head"] ["text"] (defScope s_read_purse_place) := ⟨rfl, rfl, rfl, by decide +kernel, rfl, by decide +kernel, by decide +kernel⟩
theorem sc_numbered : FnScope ["names", "numbers"] ["names"] (defScope s_numbered) := ⟨rfl, rfl, rfl, by decide +kernel, rfl, by decide +kernel, by decide +kernel⟩
theorem sc_number_of : FnScope ["numbers", "name"] ["numbers", "name"] (defScope s_number_of) := ⟨rfl, rfl, rfl, by decide +kernel, rfl, by decide +kernel, by decide +kernel⟩
theorem sc_read_purses : FnScope ["text", "places", "names", "numbers", "rows", "place"] ["text"] (defScope s_read_purses) := ⟨rfl, rfl, rfl, by decide +kernel, rfl, by decide +kernel, by decide +kernel⟩
theorem sc_shown_purses : FnScope ["names", "game", "texts", "name", "row", "head"] ["names", "game"] (defScope s_shown_purses) := ⟨rfl, rfl, rfl, by decide +kernel, rfl, by decide +kernel, by decide +kernel⟩
theorem sc_law_cell_at : FnScope ["_law_script", "_law_k"] ["_law_script", "_law_k"] (defScope s_law_cell_at) := ⟨rfl, rfl, rfl, by decide +kernel, rfl, by decide +kernel, by decide +kernel⟩
theorem sc_law_whole : FnScope ["_law_found"] ["_law_found"] (defScope s_law_whole) := ⟨rfl, rfl, rfl, by decide +kernel, rfl, by decide +kernel, by decide +kernel⟩
theorem sc_law_names : FnScope ["_law_script", "_law_many", "_law_letters", "_law_cell", "_law_size", "_law_at", "_law_names_here", "_law_k", "_law_word", "_law_j", "_law_turn"] ["_law_script", "_law_many"] (defScope s_law_names) := ⟨rfl, rfl, rfl, by decide +kernel, rfl, by decide +kernel, by decide +kernel⟩
theorem sc_law_amount : FnScope ["_law_cell", "_law_some"] ["_law_cell"] (defScope s_law_amount) := ⟨rfl, rfl, rfl, by decide +kernel, rfl, by decide +kernel, by decide +kernel⟩
theorem sc_law_rows : FnScope ["_law_script", "_law_many", "_law_rows_here", "_law_k", "_law_cell", "_law_places", "_law_j", "_law_place"] ["_law_script"] (defScope s_law_rows) := ⟨rfl, rfl, rfl, by decide +kernel, rfl, by decide +kernel, by decide +kernel⟩
theorem sc_law_text : FnScope ["_law_names_here", "_law_rows_here", "_law_parts", "_law_name", "_law_row", "_law_words"] ["_law_names_here", "_law_rows_here"] (defScope s_law_text) := ⟨rfl, rfl, rfl, by decide +kernel, rfl, by decide +kernel, by decide +kernel⟩
theorem sc_law_alike : FnScope ["_law_found", "_law_names_here", "_law_game", "_law_row", "_law_way"] ["_law_found", "_law_names_here", "_law_game"] (defScope s_law_alike) := ⟨rfl, rfl, rfl, by decide +kernel, rfl, by decide +kernel, by decide +kernel⟩
theorem sc_law : FnScope ["_law_script", "_law_rows_here", "_law_names_here", "_law_game", "_law_found", "_law_line", "_law_row"] ["_law_script"] (defScope s_law) := ⟨rfl, rfl, rfl, by decide +kernel, rfl, by decide +kernel, by decide +kernel⟩
section
variable {P : Program} {w : World} {K : PySem.W.Frag} {mg : Str → Option Value} {base : Heap}
def spWhole : Sp := fun vs H Q _ => ∃ z : Int, vs = [.int z] ∧ Q (.bl true) H
theorem ok_whole (F : DefAt K mg "_law_whole" s_law_whole ["_law_found"]) (T : Txt mg) : Dn P w K mg base "_law_whole" 1 ["_law_found"] spWhole := by
  have sc := sc_law_whole
  refine F.ok sc (fun vs H Q E h => ?_) (fun f cdv A outer s H vs Q E hr h => ?_)
  · obtain ⟨z, rfl, _⟩ := h; rfl
  obtain ⟨z, rfl, q⟩ := h
  refine ⟨_, (pss_one (ps_ret (pe_and (pe_callB (clIsi (K := K) rfl (T := "int")) rfl T.b_isinstance PyProof.Rows.boot_isinstance (pa_cons (pv 0) (pa_cons (pe_bltn (v := .ty "int") rfl T.b_int PyProof.Rows.boot_int rfl) pa_nil))) (pe_one (pe_not (pe_callB (clIsi (K := K) rfl (T := "bool")) rfl T.b_isinstance PyProof.Rows.boot_isinstance (pa_cons (pv 0) (pa_cons (pe_bltn (v := .ty "bool") rfl T.b_bool PyProof.Rows.boot_bool rfl) pa_nil)))))))), ?_⟩
  refine ⟨_, rfl, _, "int", _, rfl, rfl, isi_same _, true, rfl, ?_⟩
  refine iteT ?_
  exact ⟨_, rfl, _, "int", _, rfl, rfl, isi_int_bool, false, rfl, q⟩
theorem ok_is_whole (F : DefAt K mg "is_whole" s_is_whole ["value"]) (T : Txt mg) : Dn P w K mg base "is_whole" 1 ["value"] spWhole := by
  have sc := sc_is_whole
  refine F.ok sc (fun vs H Q E h => ?_) (fun f cdv A outer s H vs Q E hr h => ?_)
  · obtain ⟨z, rfl, _⟩ := h; rfl
  obtain ⟨z, rfl, q⟩ := h
  refine ⟨_, (pss_one (ps_ret (pe_and (pe_callB (clIsi (K := K) rfl (T := "int")) rfl T.b_isinstance PyProof.Rows.boot_isinstance (pa_cons (pv 0) (pa_cons (pe_bltn (v := .ty "int") rfl T.b_int PyProof.Rows.boot_int rfl) pa_nil))) (pe_one (pe_not (pe_callB (clIsi (K := K) rfl (T := "bool")) rfl T.b_isinstance PyProof.Rows.boot_isinstance (pa_cons (pv 0) (pa_cons (pe_bltn (v := .ty "bool") rfl T.b_bool PyProof.Rows.boot_bool rfl) pa_nil)))))))), ?_⟩
  refine ⟨_, rfl, _, "int", _, rfl, rfl, isi_same _, true, rfl, ?_⟩
  refine iteT ?_
  exact ⟨_, rfl, _, "int", _, rfl, rfl, isi_int_bool, false, rfl, q⟩
def spPlace : Sp := fun vs H Q _ => ∃ z n : Int, vs = [.int z, .int n] ∧ Q (.bl (decide (0 ≤ z ∧ z < n))) H
theorem ok_is_place (F : DefAt K mg "is_place" s_is_place ["value", "count"]) (T : Txt mg) (D_is_whole : Dn P w K mg base "is_whole" 1 ["value"] spWhole) : Dn P w K mg base "is_place" 2 ["value", "count"] spPlace := by
  have sc := sc_is_place
  refine F.ok sc (fun vs H Q E h => ?_) (fun f cdv A outer s H vs Q E hr h => ?_)
  · obtain ⟨_, _, rfl, _⟩ := h; rfl
  obtain ⟨z, n, rfl, q⟩ := h
  refine ⟨_, (pss_one (ps_ret (pe_and (pe_dn D_is_whole hr (pa_cons (pv 0) pa_nil)) (pe_one (pe_chain op_le op_lt pe_int (pv 0) (pv 1)))))), ?_⟩
  refine ⟨_, rfl, z, rfl, true, rfl, ?_⟩
  refine iteT ?_
  refine ⟨_, rfl, _, _, rfl, rfl, decide (0 ≤ z), rfl, ?_⟩
  refine ite2 (fun c => ?_) (fun c => ?_)
  · have h0 : 0 ≤ z := of_decide_eq_true c
    refine ⟨_, rfl, _, _, rfl, rfl, ?_⟩
    show Q (V.bl (decide (z < n))) H
    have e : decide (z < n) = decide (0 ≤ z ∧ z < n) := by
      by_cases h : z < n
      · rw [decide_eq_true h, decide_eq_true ⟨h0, h⟩]
      · rw [decide_eq_false h, decide_eq_false fun k => h k.2]
    rw [e]; exact q
  · have e : decide (0 ≤ z ∧ z < n) = false := decide_eq_false fun k => c (decide_eq_true k.1)
    rw [e] at q; exact q
def HandOk (z : Int) : Prop := z = 0 ∨ z = 1
def WG (n : Int) (ws : List Int) : Prop := ws ≠ [] ∧ ∀ x ∈ ws, 0 ≤ x ∧ x < n
def spHand (K : PySem.W.Frag) : Sp := fun vs H Q E => ∃ z : Int, vs = [.int z] ∧ (HandOk z → ∀ H', Same H H' → Q .non H') ∧ (¬ HandOk z → ∀ H', Same H H' → E (.ref (clK K "NoHand")) none H')
theorem ok_check_hand (F : DefAt K mg "check_hand" s_check_hand ["hand"]) (T : Txt mg) (XC : XT K mg "GarthError" xRs xNs) (D_is_whole : Dn P w K mg base "is_whole" 1 ["value"] spWhole) : DnX P w K mg base "check_hand" 2 ["hand"] (spHand K) := by
  have sc := sc_check_hand
  refine F.okX sc (fun vs H Q E h => ?_) (fun f cdv A outer s H vs Q E hr h => ?_)
  · obtain ⟨z, rfl, _⟩ := h; rfl
  obtain ⟨z, rfl, q1, q2⟩ := h
  refine ⟨_, (pss_one (ps_if (PW.pt (pw_or (pt_not (pt_val (pe_dn D_is_whole hr (pa_cons (pv 0) pa_nil)))) (pw_or1 (pt_cmpR (notInS (K := K) rfl) (pv 0) (pe_tup (pa_cons pe_int (pa_cons pe_int pa_nil))) rfl))))
      (pss_one (ps_raise raisesR (XC.m "NoHand" (by decide)) (XC.exc "NoHand" (by decide)) (pa_cons pe_str pa_nil)))
      pss_nil)), ?_⟩
  refine ⟨_, rfl, z, rfl, _, rfl, ?_⟩
  refine iteF ?_
  refine ⟨_, rfl, (by show 2 ≤ sizeLine; decide), fun t ht => ?_⟩
  refine ⟨t, _, rfl, .inr (SqT.of upd_same), rfl, rfl, _, rfl, ?_⟩
  show if (!inV (.int z) (([0, 1] : List Int).map V.int)) = true then _ else _
  rw [inV_ints]
  refine ite2 (fun c => ?_) (fun c => ?_)
  · exact ⟨(by show 1 ≤ sizeLine; decide), q2 (fun k => by simp at c; rcases k with k | k <;> omega) _ (same_upd ht _)⟩
  · refine q1 ?_ _ (same_upd ht _)
    have h : ¬ z = 0 → z = 1 := by simpa using c
    by_cases e : z = 0
    · exact .inl e
    · exact .inr (h e)
def spCheckWays (K : PySem.W.Frag) : Sp := fun vs H Q E => ∃ (wa : Addr) (ws : List Int) (n : Int), vs = [.ref wa, .int n] ∧ H wa = some (.lst (ws.map V.int)) ∧ (WG n ws → Q .non H) ∧ (¬ WG n ws → E (.ref (clK K "NoWay")) none H)
theorem ok_check_ways (F : DefAt K mg "check_ways" s_check_ways ["ways", "count"]) (T : Txt mg) (XC : XT K mg "GarthError" xRs xNs) (D_is_place : Dn P w K mg base "is_place" 2 ["value", "count"] spPlace) : DnX P w K mg base "check_ways" 3 ["ways", "count"] (spCheckWays K) := by
  have sc := sc_check_ways
  refine F.okX sc (fun vs H Q E h => ?_) (fun f cdv A outer s H vs Q E hr h => ?_)
  · obtain ⟨_, _, _, rfl, _⟩ := h; rfl
  obtain ⟨wa, ws, n, rfl, hw, q1, q2⟩ := h
  refine ⟨_, (pss_cons (ps_if (pt_cmpR op_eq (pe_callB (clLen (K := K) rfl) rfl T.b_len PySem.boot_len (pa_cons (pv 0) pa_nil)) pe_int (nomark _))
      (pss_one (ps_raise raisesR (XC.m "NoWay" (by decide)) (XC.exc "NoWay" (by decide)) (pa_cons pe_str pa_nil)))
      pss_nil)
      (pss_one (ps_for PassesOwn.leaving rfl (pi_list (pv 0)) (pg_name (i := 2) sc.nd rfl (Or.inl rfl))
      (pss_one (ps_if (pt_not (pt_val (pe_dn D_is_place hr (pa_cons (pv 2) (pa_cons (pv 1) pa_nil)))))
      (pss_one (ps_raise raisesR (XC.m "NoWay" (by decide)) (XC.exc "NoWay" (by decide)) (pa_cons pe_str pa_nil)))
      pss_nil))))), ?_⟩
  have hl : (ws.map V.int).length = ws.length := List.length_map _
  refine ⟨_, rfl, wa, _, rfl, .inl (SqL.of hw), rfl, _, rfl, ?_⟩
  refine ite2 (fun c => ?_) (fun c => ?_)
  · have c' := of_decide_eq_true c
    have c2 : (((ws.map V.int).length : Nat) : Int) = 0 := by injection c'
    refine ⟨(by show 1 ≤ sizeLine; decide), q2 fun k => k.1 (List.length_eq_zero_iff.mp (by omega))⟩
  have hne : ws ≠ [] := fun z => c (by rw [z]; rfl)
  refine ⟨_, rfl, wa, rfl, ⟨_, SqL.of hw⟩, for_list (K := K) (a := wa) (xs := ws.map V.int) (fun i σ H2 => H2 = H ∧ (∃ y : Option V, σ = [some (.ref wa), some (.int n), y]) ∧ ∀ x ∈ ws.take i, 0 ≤ x ∧ x < n) ⟨rfl, ⟨_, rfl⟩, fun _ z => by cases z⟩ (fun i σ H2 _ h => ?_) (fun i x σ H2 hi h => ?_) (fun σ H2 h => ?_)⟩
  · obtain ⟨rfl, _⟩ := h; exact SqL.of hw
  · obtain ⟨rfl, ⟨y, rfl⟩, hk⟩ := h
    obtain ⟨z, hz, rfl⟩ := int_of_at hi
    refine ⟨_, rfl, _, rfl, z, n, rfl, _, rfl, ?_⟩
    refine ite2 (fun c => ?_) (fun c => ?_)
    · exact ⟨(by show 1 ≤ sizeLine; decide), q2 fun k => by have := k.2 z (List.mem_of_getElem? hz); simp [this] at c⟩
    · refine ⟨rfl, ⟨_, rfl⟩, fun x hx => ?_⟩
      rcases (mem_take_snoc hz).mp hx with h | h
      · exact hk x h
      · rw [h]; simpa using c
  · obtain ⟨rfl, _, hk⟩ := h
    rw [List.length_map, List.take_length] at hk
    exact q1 ⟨hne, hk⟩
def PWayOk (n : Nat) (w : Int × Int) : Prop := 0 ≤ w.1 ∧ w.1 < n ∧ -(10 ^ 60) < w.2 ∧ w.2 < 10 ^ 60
def PRowOk (n : Nat) (r : PRow) : Prop := HandOk r.1 ∧ r.2 ≠ [] ∧ (∀ w ∈ r.2, PWayOk n w) ∧ (r.2.map fun w => w.1).Nodup ∧ r.2.length ≤ 60
def PGood (G : List PRow) : Prop := G.length ≤ 16 ∧ ∀ r ∈ G, PRowOk G.length r
theorem pair_at {ts : List (Addr × Int × Int)} {i : Nat} {x : V} (h : (ts.map fun t => V.ref t.1)[i]? = some x) : ∃ t, ts[i]? = some t ∧ x = .ref t.1 := by
  rw [List.getElem?_map] at h
  cases e : ts[i]? with
  | none => rw [e] at h; cases h
  | some t => rw [e] at h; cases h; exact ⟨t, rfl, rfl⟩
def spCPW (K : PySem.W.Frag) : Sp := fun vs H Q _ => ∃ (wa : Addr) (ts : List (Addr × Int × Int)) (n : Nat), vs = [.ref wa, .int ((n : Nat) : Int)] ∧ WaysAt H wa ts ∧ PRowOk n (0, ts.map fun t => t.2) ∧ ∀ H', Same H H' → Q .non H'
theorem ok_cpw (F : DefAt K mg "check_purse_ways" s_check_purse_ways ["ways", "count"]) (T : Txt mg) (XC : XT K mg "GarthError" xRs xNs) (D_check_ways : DnX P w K mg base "check_ways" 3 ["ways", "count"] (spCheckWays K)) : DnX P w K mg base "check_purse_ways" 4 ["ways", "count"] (spCPW K) := by
  have sc := sc_check_purse_ways
  refine F.okX sc (fun vs H Q E h => ?_) (fun f cdv A outer s H vs Q E hr h => ?_)
  · obtain ⟨_, _, _, rfl, _⟩ := h; rfl
  obtain ⟨wa, ts, n, rfl, hw, hok, q⟩ := h
  obtain ⟨_, hne, hin, hpw, h60⟩ := hok
  have hl : (ts.map fun t => V.ref t.1).length = ts.length := List.length_map _
  have h60' : ts.length ≤ 60 := by simpa using h60
  have hin' : ∀ x : Int, x ∈ ts.map (fun t => t.2.1) → 0 ≤ x ∧ x < n := fun x hx => by
    obtain ⟨t, ht, rfl⟩ := List.mem_map.mp hx
    have := hin t.2 (List.mem_map.mpr ⟨t, ht, rfl⟩)
    exact ⟨this.1, this.2.1⟩
  have hnd : (ts.map fun t => t.2.1).Nodup := by
    have h2 : ((ts.map fun t => t.2).map fun w => w.1).Nodup := hpw
    rwa [List.map_map] at h2
  refine ⟨_, (pss_cons (ps_lc (i := 2) (defScope s_check_purse_ways) ["ways", "count", "places"] ["way"] 1 [] sc.nd rfl rfl (pi_list (pv 0)) (fun _ _ _ _ _ _ => (ptg_name (show List.Nodup (["way"] : List Str) by decide +kernel) rfl rfl)) (fun _ _ _ _ _ _ => pts_nil) (fun _ _ _ _ _ _ => (pe_ix (ixT (K := K) rfl) (pv 0) pe_int (fun _ _ => rfl))))
      (pss_cons (ps_expr (pe_dnX passR D_check_ways hr (pa_cons (pv 2) (pa_cons (pv 1) pa_nil))))
      (pss_one (ps_if (pt_cmpR op_lt (pe_len_set (K := K) rfl rfl rfl T.b_len rfl T.b_set (pa_cons (pv 2) pa_nil)) (pe_callB (clLen (K := K) rfl) rfl T.b_len PySem.boot_len (pa_cons (pv 2) pa_nil)) (nomark _))
      (pss_one (ps_raise raisesR (XC.m "NoWay" (by decide)) (XC.exc "NoWay" (by decide)) (pa_cons pe_str pa_nil)))
      pss_nil)))), ?_⟩
  refine ⟨_, rfl, wa, rfl, ⟨_, SqL.of hw.1⟩, comp_listD (K := K) (a := wa) (xs := ts.map fun t => V.ref t.1) (fun i ys H3 => H3 = H ∧ ys = ((ts.take i).map fun t => t.2.1).map V.int) ⟨rfl, rfl⟩ (small (m := 1000) (by omega)) (fun i ys H3 hi h => ?_) (fun i x ys H3 hi h => ?_) (fun ys H3 h p hp => ?_)⟩
  · obtain ⟨rfl, rfl⟩ := h
    exact ⟨SqL.of hw.1, by simp; omega⟩
  · obtain ⟨rfl, rfl⟩ := h
    obtain ⟨t, ht, rfl⟩ := pair_at hi
    refine comp_yes ?_
    refine ⟨_, rfl, t.1, _, _, _, rfl, rfl, SqT.of (hw.2 t (List.mem_of_getElem? ht)), atI_nat (j := 0) rfl, rfl, ?_⟩
    rw [List.take_add_one, ht, List.map_append, List.map_append]; rfl
  obtain ⟨rfl, rfl⟩ := h
  rw [hl, List.take_length]
  have sp := same_upd hp (.lst ((ts.map fun t => t.2.1).map V.int))
  refine ⟨_, rfl, _, rfl, p, _, n, rfl, upd_same, fun _ => ?_, fun z => absurd ⟨fun z2 => hne (by simpa using z2), hin'⟩ z⟩
  refine ⟨_, rfl, p, _, rfl, SqL.of upd_same, by simp; omega, fun ns hn hmem => ?_⟩
  refine ⟨_, rfl, p, _, rfl, .inl (SqL.of upd_same), _, _, rfl, rfl, _, rfl, ?_⟩
  refine ite2 (fun c => ?_) (fun c => ?_)
  · exfalso
    have c' := of_decide_eq_true c
    have := nodup_sub (ts.map fun t => t.2.1) ns hnd fun k hk => (hmem k).mpr hk
    rw [List.length_map] at c'
    omega
  · exact q _ sp
def spCA (K : PySem.W.Frag) : Sp := fun vs H Q _ => ∃ (wa : Addr) (ts : List (Addr × Int × Int)) (n : Nat), vs = [.ref wa] ∧ WaysAt H wa ts ∧ PRowOk n (0, ts.map fun t => t.2) ∧ Q .non H
theorem ok_ca (F : DefAt K mg "check_amounts" s_check_amounts ["ways"]) (T : Txt mg) (XC : XT K mg "GarthError" xRs xNs) (D_is_whole : Dn P w K mg base "is_whole" 1 ["value"] spWhole) : DnX P w K mg base "check_amounts" 2 ["ways"] (spCA K) := by
  have sc := sc_check_amounts
  refine F.okX sc (fun vs H Q E h => ?_) (fun f cdv A outer s H vs Q E hr h => ?_)
  · obtain ⟨_, _, _, rfl, _⟩ := h; rfl
  obtain ⟨wa, ts, n, rfl, hw, hok, q⟩ := h
  obtain ⟨_, hne, hin, hpw, h60⟩ := hok
  refine ⟨_, (pss_one (ps_for PassesOwn.leaving rfl (pi_list (pv 0)) (pg_name (i := 1) sc.nd rfl (Or.inl rfl))
      (pss_one (ps_if (PW.pt (pw_or (pt_not (pt_val (pe_dn D_is_whole hr (pa_cons (pe_ix (ixT (K := K) rfl) (pv 1) pe_int (fun _ _ => rfl)) pa_nil)))) (pw_or1 (pt_cmpR op_ge (pe_callB call_abs1 rfl T.b_abs PyProof.Rows.boot_abs (pa_cons (pe_ix (ixT (K := K) rfl) (pv 1) pe_int (fun _ _ => rfl)) pa_nil)) (pe_op op_pow pe_int pe_int) (nomark _)))))
      (pss_one (ps_raise raisesR (XC.m "NoAmount" (by decide)) (XC.exc "NoAmount" (by decide)) (pa_cons pe_str pa_nil)))
      pss_nil)))), ?_⟩
  refine ⟨_, rfl, wa, rfl, ⟨_, SqL.of hw.1⟩, for_list (K := K) (a := wa) (xs := ts.map fun t => V.ref t.1) (fun i σ H2 => H2 = H ∧ ∃ y : Option V, σ = [some (.ref wa), y]) ⟨rfl, _, rfl⟩ (fun i σ H2 _ h => ?_) (fun i x σ H2 hi h => ?_) (fun σ H2 h => ?_)⟩
  · obtain ⟨rfl, _⟩ := h; exact SqL.of hw.1
  · obtain ⟨rfl, y, rfl⟩ := h
    obtain ⟨t, ht, rfl⟩ := pair_at hi
    have htm := List.mem_of_getElem? ht
    have hb := hin t.2 (List.mem_map.mpr ⟨t, htm, rfl⟩)
    obtain ⟨_, _, b1, b2⟩ := hb
    refine ⟨_, rfl, t.1, _, _, _, rfl, rfl, SqT.of (hw.2 t htm), atI_nat (j := 1) rfl, _, rfl, _, rfl, ?_⟩
    refine iteF ?_
    refine ⟨_, rfl, t.1, _, _, _, rfl, rfl, SqT.of (hw.2 t htm), atI_nat (j := 1) rfl, _, rfl, _, _, rfl, rfl, ⟨by decide, by decide, by decide⟩, _, _, rfl, rfl, _, rfl, ?_⟩
    refine ite2 (fun c => ?_) (fun c => ?_)
    · exfalso
      have c' : (10 : Int) ^ (60 : Int).toNat ≤ (if t.2.2 < 0 then -t.2.2 else t.2.2) := of_decide_eq_true c
      have e : (10 : Int) ^ (60 : Int).toNat = 10 ^ 60 := rfl
      rw [e] at c'
      split at c' <;> omega
    · exact ⟨rfl, _, rfl⟩
  · obtain ⟨rfl, _⟩ := h
    exact q
def spCPR (K : PySem.W.Frag) : Sp := fun vs H Q E => ∃ (v : V) (G : List PRow), vs = [v] ∧ rPG H G v ∧ G.length ≤ 1000 ∧ ((16 < G.length ∧ ∀ H', Same H H' → E (.ref (clK K "TooMany")) none H') ∨ (PGood G ∧ ∀ H', Same H H' → Q .non H'))
theorem ok_cpr (F : DefAt K mg "check_purse_rows" s_check_purse_rows ["rows"]) (T : Txt mg) (XC : XT K mg "GarthError" xRs xNs) (D_check_hand : DnX P w K mg base "check_hand" 2 ["hand"] (spHand K)) (D_check_purse_ways : DnX P w K mg base "check_purse_ways" 4 ["ways", "count"] (spCPW K)) (D_check_amounts : DnX P w K mg base "check_amounts" 2 ["ways"] (spCA K)) : DnX P w K mg base "check_purse_rows" 5 ["rows"] (spCPR K) := by
  have sc := sc_check_purse_rows
  refine F.okX sc (fun vs H Q E h => ?_) (fun f cdv A outer s H vs Q E hr h => ?_)
  · obtain ⟨_, _, rfl, _⟩ := h; rfl
  obtain ⟨v, G, rfl, hG, h1000, q⟩ := h
  obtain ⟨g0, gv, rfl, hg0, hgl, hrow⟩ := pg_parts hG
  refine ⟨_, (pss_cons (ps_if (pt_cmpR op_gt (pe_callB (clLen (K := K) rfl) rfl T.b_len PySem.boot_len (pa_cons (pv 0) pa_nil)) (pe_gint T.g_MOST_PURSE_PLACES) (nomark _))
      (pss_one (ps_raise raisesR (XC.m "TooMany" (by decide)) (XC.exc "TooMany" (by decide)) (pa_cons (pe_join (pj_str (pj_int T.g_MOST_PURSE_PLACES (pj_str pj_nil)))) pa_nil)))
      pss_nil)
      (pss_one (ps_for PassesOwn.leaving rfl (pi_list (pv 0)) (pg_name (i := 1) sc.nd rfl (Or.inl rfl))
      (pss_cons (ps_expr (pe_dnX passR D_check_hand hr (pa_cons (pe_ix (ixT (K := K) rfl) (pv 1) pe_int (fun _ _ => rfl)) pa_nil)))
      (pss_cons (ps_expr (pe_dnX passR D_check_purse_ways hr (pa_cons (pe_ix (ixT (K := K) rfl) (pv 1) pe_int (fun _ _ => rfl)) (pa_cons (pe_callB (clLen (K := K) rfl) rfl T.b_len PySem.boot_len (pa_cons (pv 0) pa_nil)) pa_nil))))
      (pss_one (ps_expr (pe_dnX passR D_check_amounts hr (pa_cons (pe_ix (ixT (K := K) rfl) (pv 1) pe_int (fun _ _ => rfl)) pa_nil))))))))), ?_⟩
  refine ⟨_, rfl, g0, _, rfl, .inl (SqL.of hg0), _, _, rfl, rfl, _, rfl, ?_⟩
  refine ite2 (fun c => ?_) (fun c => ?_)
  · have : (16 : Int) < (gv.length : Nat) := of_decide_eq_true c
    rcases q with ⟨_, q⟩ | ⟨hg, _⟩
    · exact fun x => ⟨(by show 1 ≤ sizeLine; decide), q _ (Same.refl _)⟩
    · have := hg.1; omega
  have h16 : ¬ (16 : Int) < (gv.length : Nat) := fun k => c (decide_eq_true k)
  rcases q with ⟨h, _⟩ | ⟨hg, q⟩
  · omega
  refine ⟨_, rfl, g0, rfl, ⟨_, SqL.of hg0⟩, for_list (K := K) (a := g0) (xs := gv) (fun i σ H2 => Same H H2 ∧ ∃ y : Option V, σ = [some (.ref g0), y]) ⟨Same.refl _, _, rfl⟩ (fun i σ H2 _ h => ?_) (fun i x σ H2 hi h => ?_) (fun σ H2 h => ?_)⟩
  · exact SqL.of (h.1 _ _ hg0)
  · obtain ⟨s2, y, rfl⟩ := h
    have hil : i < G.length := by have := (List.getElem?_eq_some_iff.mp hi).1; omega
    obtain ⟨row, hrw⟩ : ∃ row, G[i]? = some row := ⟨G[i], by simp⟩
    obtain ⟨t, wa, ts, p1, p2, p3, p4⟩ := hrow i row hrw
    rw [hi] at p1; cases p1
    have hok := hg.2 row (List.mem_of_getElem? hrw)
    have hok' : PRowOk G.length (0, ts.map fun t => t.2) := by rw [p4]; exact ⟨.inl rfl, hok.2⟩
    refine ⟨_, rfl, t, _, _, _, rfl, rfl, SqT.of (s2 _ _ p2), atI_nat (j := 0) rfl, row.1, rfl, fun _ H3 s3 => ?_, fun z => absurd hok.1 z⟩
    have s23 := s2.trans s3
    refine ⟨_, rfl, t, _, _, _, rfl, rfl, SqT.of (s23 _ _ p2), atI_nat (j := 1) rfl, _, rfl, g0, _, rfl, .inl (SqL.of (s23 _ _ hg0)), wa, ts, G.length, congrArg (fun z : Nat => [V.ref wa, V.int (z : Int)]) hgl, p3.up s23, hok', fun H4 s4 => ?_⟩
    have s24 := s23.trans s4
    refine ⟨_, rfl, t, _, _, _, rfl, rfl, SqT.of (s24 _ _ p2), atI_nat (j := 1) rfl, wa, ts, G.length, rfl, p3.up s24, hok', ?_⟩
    exact ⟨s24, _, rfl⟩
  · exact q _ h.1
def srt (l : List (Int × Int)) : List (Int × Int) := l.mergeSort (fun a b => decide (a.1 ≤ b.1))
theorem srt_perm (l : List (Int × Int)) : (srt l).Perm l := List.mergeSort_perm l _
theorem srt_lt {l : List (Int × Int)} (h : (l.map fun w => w.1).Nodup) : (srt l).Pairwise (fun a b => a.1 < b.1) := by
  have h1 : (srt l).Pairwise (fun a b => decide (a.1 ≤ b.1) = true) := List.pairwise_mergeSort (le := fun a b : Int × Int => decide (a.1 ≤ b.1)) (fun a b c h1 h2 => decide_eq_true (Int.le_trans (of_decide_eq_true h1) (of_decide_eq_true h2))) (fun a b => by rcases Int.le_total a.1 b.1 with h | h <;> simp [h]) l
  have h2 : ((srt l).map fun w => w.1).Nodup := ((srt_perm l).map _).nodup_iff.mpr h
  have h3 : (srt l).Pairwise (fun a b => a.1 ≠ b.1) := by
    unfold List.Nodup at h2
    rwa [List.pairwise_map] at h2
  exact (h1.and h3).imp fun h => by
    have := of_decide_eq_true h.1
    have := h.2
    omega
theorem srt_is {l l' : List (Int × Int)} (h : (l.map fun w => w.1).Nodup) (pm : l'.Perm l) (pw : l'.Pairwise (fun a b => a.1 < b.1)) : l' = srt l := rise_eq (pm.trans (srt_perm l).symm) pw (srt_lt h)
def ptold (G : List PRow) : List PRow := G.map fun r => (r.1, srt r.2)
theorem ptold_len (G : List PRow) : (ptold G).length = G.length := List.length_map _
theorem ptold_at {G : List PRow} {i : Nat} {r : PRow} (h : G[i]? = some r) : (ptold G)[i]? = some (r.1, srt r.2) := by unfold ptold; rw [List.getElem?_map, h]; rfl
def spPurse (K : PySem.W.Frag) : Sp := fun vs H Q E => ∃ (v : V) (G : List PRow), vs = [v] ∧ rPG H G v ∧ G.length ≤ 1000 ∧ ((16 < G.length ∧ ∀ H', Same H H' → E (.ref (clK K "TooMany")) none H') ∨ (PGood G ∧ ∀ (g : Addr) (gv : List V) (H1 : Hp), Same H H1 → H1 g = none → Paired (rPR (newp H H1)) (ptold G) gv → Q (.ref g) (upd H1 g (.lst gv))))
theorem ok_purse (F : DefAt K mg "purse_game" s_purse_game ["rows"]) (T : Txt mg) (XC : XT K mg "GarthError" xRs xNs) (D_check_purse_rows : DnX P w K mg base "check_purse_rows" 5 ["rows"] (spCPR K)) : DnX P w K mg base "purse_game" 6 ["rows"] (spPurse K) := by
  have sc := sc_purse_game
  refine F.okX sc (fun vs H Q E h => ?_) (fun f cdv A outer s H vs Q E hr h => ?_)
  · obtain ⟨_, _, rfl, _⟩ := h; rfl
  obtain ⟨v, G, rfl, hG, h1000, q⟩ := h
  obtain ⟨g0, gv, rfl, hg0, hgl, hrow⟩ := pg_parts hG
  refine ⟨_, (pss_cons (ps_expr (pe_dnX passR D_check_purse_rows hr (pa_cons (pv 0) pa_nil)))
      (pss_one (ps_ret (pe_lc (defScope s_purse_game) ["rows"] ["row"] 1 [] (pi_list (pv 0)) (fun _ _ _ _ _ _ => (ptg_name (show List.Nodup (["row"] : List Str) by decide +kernel) rfl rfl)) (fun _ _ _ _ _ _ => pts_nil) (fun _ _ _ _ _ _ => (pe_tup (pa_cons (pe_ix (ixT (K := K) rfl) (pv 0) pe_int (fun _ _ => rfl)) (pa_cons (pe_callB (call_sortedP (K := K) rfl) rfl T.b_sorted PyProof.Rows.boot_sorted (pa_cons (pe_lcN2  ["row"] ["way"] 1 [] (pi_list0 (pe_ix (ixT (K := K) rfl) (pv 0) pe_int (fun _ _ => rfl))) (fun _ _ _ _ _ _ => (ptg_name (show List.Nodup (["way"] : List Str) by decide +kernel) rfl rfl)) (fun _ _ _ _ _ _ => pts_nil) (fun _ _ _ _ _ _ => (pe_tup (pa_cons (pe_ix (ixT (K := K) rfl) (pv 0) pe_int (fun _ _ => rfl)) (pa_cons (pe_ix (ixT (K := K) rfl) (pv 0) pe_int (fun _ _ => rfl)) pa_nil))))) pa_nil)) pa_nil)))))))), ?_⟩
  rcases q with ⟨h16, q⟩ | ⟨hg, q⟩
  · exact ⟨_, rfl, _, G, rfl, hG, h1000, .inl ⟨h16, q⟩⟩
  refine ⟨_, rfl, _, G, rfl, hG, h1000, .inr ⟨hg, fun H1 s1 => ?_⟩⟩
  have h16 := hg.1
  refine ⟨_, rfl, g0, rfl, ⟨_, SqL.of (s1 _ _ hg0)⟩, comp_listD (K := K) (a := g0) (xs := gv) (fun i ys H2 => Same H H2 ∧ Paired (rPR (newp H H2)) ((ptold G).take i) ys) ⟨s1, .nil⟩ (small (m := 1000) (by omega)) (fun i ys H2 hi h => ?_) (fun i x ys H2 hi h => ?_) (fun ys H2 h p hp => ?_)⟩
  · exact ⟨SqL.of (h.1 _ _ hg0), by have := h.2.length; rw [List.length_take, ptold_len] at this; omega⟩
  · obtain ⟨s2, pr⟩ := h
    have hil : i < G.length := by have := (List.getElem?_eq_some_iff.mp hi).1; omega
    obtain ⟨row, hrw⟩ : ∃ row, G[i]? = some row := ⟨G[i], by simp⟩
    obtain ⟨t, wa, ts, p1, p2, p3, p4⟩ := hrow i row hrw
    rw [hi] at p1; cases p1
    obtain ⟨_, hne, hin, hpw, h60⟩ := hg.2 row (List.mem_of_getElem? hrw)
    have htl : ts.length ≤ 60 := by rw [← p4, List.length_map] at h60; exact h60
    refine comp_yes ?_
    refine ⟨_, rfl, t, _, _, _, rfl, rfl, SqT.of (s2 _ _ p2), atI_nat (j := 0) rfl, _, rfl, t, _, _, _, rfl, rfl, SqT.of (s2 _ _ p2), atI_nat (j := 1) rfl, wa, rfl, ⟨_, SqL.of ((p3.up s2).1)⟩, comp_listD (K := K0) (a := wa) (xs := ts.map fun t => V.ref t.1) (fun j zs H3 => ∃ us : List (Addr × Int × Int), Same H2 H3 ∧ zs = us.map (fun u => V.ref u.1) ∧ us.map (fun u => u.2) = (ts.take j).map (fun u => u.2) ∧ ∀ u ∈ us, newp H2 H3 u.1 = some (.tup [.int u.2.1, .int u.2.2])) ⟨[], Same.refl _, rfl, rfl, fun _ z => by cases z⟩ (small (m := 1000) (by rw [List.length_map]; omega)) (fun j zs H3 hj h => ?_) (fun j x zs H3 hj h => ?_) (fun zs H3 h p hp => ?_)⟩
    · obtain ⟨us, s3, rfl, e2, _⟩ := h
      refine ⟨SqL.of ((p3.up (s2.trans s3)).1), ?_⟩
      have := congrArg List.length e2
      rw [List.length_map, List.length_map, List.length_take] at this
      rw [List.length_map]; omega
    · obtain ⟨us, s3, rfl, e2, e3⟩ := h
      obtain ⟨u, hu, rfl⟩ := pair_at hj
      have hut := (p3.up (s2.trans s3)).2 u (List.mem_of_getElem? hu)
      refine comp_yes ?_
      refine ⟨_, rfl, u.1, _, _, _, rfl, rfl, SqT.of hut, atI_nat (j := 0) rfl, _, rfl, u.1, _, _, _, rfl, rfl, SqT.of hut, atI_nat (j := 1) rfl, (by show 2 ≤ sizeLine; decide), fun t2 ht2 => ?_⟩
      refine ⟨us ++ [(t2, u.2)], s3.trans (same_upd ht2 _), by simp, by rw [List.map_append, e2, List.take_add_one, hu, List.map_append]; rfl, fun z hz => ?_⟩
      rcases List.mem_append.mp hz with h | h
      · exact newp_in (same_upd ht2 _) _ _ (e3 z h)
      · rw [List.mem_singleton.mp h]
        rw [newp_at (s3.free ht2), upd_same]
    obtain ⟨us, s3, rfl, e2, e3⟩ := h
    rw [List.length_map, List.take_length, p4] at e2
    have hul : us.length ≤ 60 := by have := congrArg List.length e2; rw [List.length_map] at this; omega
    have s4 := same_upd hp (.lst (us.map fun u => V.ref u.1))
    have hnd : (us.map fun u => u.2.1).Nodup := by
      have h2 : ((us.map fun u => u.2).map fun w => w.1).Nodup := by rw [e2]; exact hpw
      rwa [List.map_map] at h2
    refine ⟨p, us, rfl, SqL.of upd_same, by omega, fun u hu => SqT.of (s4 _ _ (newp_same _ _ _ _ (e3 u hu))), hnd, fun l us' hl pm pw => ?_⟩
    have e4 : us'.map (fun u => u.2) = srt row.2 := by
      refine srt_is hpw ?_ (by rw [List.pairwise_map]; exact pw)
      rw [← e2]
      exact pm.map _
    refine ⟨(by show 2 ≤ sizeLine; decide), fun t2 ht2 => ?_⟩
    have s5 := s4.trans (same_upd hl (.lst (us'.map fun u => V.ref u.1)))
    have s6 := s5.trans (same_upd ht2 (.tup [.int row.1, .ref l]))
    have s26 := s3.trans s6
    refine ⟨s2.trans s26, ?_⟩
    rw [List.take_add_one, ptold_at hrw]
    refine Paired.app (paired_mono mono_pr (newp_in s26) pr) (.cons ?_ .nil)
    have hl2 : H2 l = none := (s3.trans s4).free hl
    have hlt : l ≠ t2 := fun z => by rw [z] at hl; rw [← z, upd_same] at ht2; cases ht2
    have W : WaysAt (newp H (upd (upd (upd H3 p (.lst (us.map fun u => V.ref u.1))) l (.lst (us'.map fun u => V.ref u.1))) t2 (.tup [.int row.1, .ref l]))) l us' := by
      refine ⟨by rw [newp_at (s2.free hl2), upd_ne hlt, upd_same], fun u hu => ?_⟩
      have := e3 u (pm.mem_iff.mp hu)
      exact newp_mono s2 s6 _ _ this
    have := W.rel
    rw [e4] at this
    exact ⟨t2, _, _, rfl, by rw [newp_at (s2.free ((s3.trans s5).free ht2)), upd_same], rfl, this⟩
  · obtain ⟨s2, pr⟩ := h
    rw [hgl, ← ptold_len G, List.take_length] at pr
    exact q p ys H2 s2 hp pr
def inT (signs : Str) (c : Nat) : Bool := !(Builtin.Str.occurrences signs ⟨#[c]⟩ 0 signs.length 1).isEmpty
def spMade : Sp := fun vs H Q _ => ∃ (z signs : Str) (m : Int), vs = [.str z, .str signs, .int m] ∧ z.length ≤ 100000 ∧ ∀ H', Same H H' → Q (.bl (decide (1 ≤ z.length ∧ (z.length : Int) ≤ m) && z.cps.toList.all (inT signs))) H'
theorem ok_made (F : DefAt K mg "is_made_of" s_is_made_of ["word", "signs", "most"]) (T : Txt mg) : Dn P w K mg base "is_made_of" 1 ["word", "signs", "most"] spMade := by
  have sc := sc_is_made_of
  refine F.ok sc (fun vs H Q E h => ?_) (fun f cdv A outer s H vs Q E hr h => ?_)
  · obtain ⟨_, _, _, rfl, _⟩ := h; rfl
  obtain ⟨z, signs, m, rfl, hz, q⟩ := h
  refine ⟨_, (pss_one (ps_ret (pe_and (pe_chain op_le op_le pe_int (pe_callB call_len_str rfl T.b_len PySem.boot_len (pa_cons (pv 0) pa_nil)) (pv 2)) (pe_one (pe_callB (call_allL rfl) rfl T.b_all PyProof.Rows.boot_all (pa_cons (pe_lc (defScope s_is_made_of) ["word", "signs", "most"] ["sign", "signs"] 1 [1] (pi_str (pv 0)) (fun _ _ _ _ _ _ => (ptg_name (show List.Nodup (["sign", "signs"] : List Str) by decide +kernel) rfl rfl)) (fun _ _ _ _ _ _ => pts_nil) (fun _ _ _ _ _ _ => (pe_cmpR op_in_str (pv 0) (pv 1) rfl))) pa_nil)))))), ?_⟩
  refine ⟨_, rfl, z, rfl, small (m := 100000) hz, _, _, rfl, rfl, ?_⟩
  have fin : decide (1 ≤ z.length ∧ (z.length : Int) ≤ m) = false → Q (.bl false) H := fun e => by
    have := q H (Same.refl _)
    rw [e] at this; exact this
  refine ⟨_, rfl, ?_⟩
  refine ite2 (fun c => ?_) (fun c => ?_)
  · have c1 : (1 : Int) ≤ z.length := of_decide_eq_true c
    refine ⟨_, rfl, _, _, rfl, rfl, _, rfl, ?_⟩
    refine ite2 (fun c => ?_) (fun c => ?_)
    · have c2 : (z.length : Int) ≤ m := of_decide_eq_true c
      refine ⟨_, rfl, z, rfl, comp_strD (z := z) (fun i ys H3 => H3 = H ∧ ys = ((z.cps.toList.take i).map (inT signs)).map V.bl) ⟨rfl, rfl⟩ (small (m := 100000) hz) (fun i ys H3 hi h => ?_) (fun i c ys H3 hi h => ?_) (fun ys H3 h p hp => ?_)⟩
      · obtain ⟨rfl, rfl⟩ := h
        simp; omega
      · obtain ⟨rfl, rfl⟩ := h
        refine comp_yes ?_
        refine ⟨_, rfl, _, rfl, _, _, rfl, rfl, rfl, ?_⟩
        have hi' : z.cps.toList[i]? = some c := by simpa using hi
        rw [List.take_add_one, hi', List.map_append, List.map_append]; rfl
      · obtain ⟨rfl, rfl⟩ := h
        refine ⟨p, _, rfl, SqL.of upd_same, ?_⟩
        have e := q _ (same_upd hp (.lst (((z.cps.toList.take z.cps.size).map (inT signs)).map V.bl)))
        rw [decide_eq_true ⟨by omega, c2⟩, Bool.true_and] at e
        have el : z.cps.toList.take z.cps.size = z.cps.toList := List.take_of_length_le (by simp)
        rw [el] at e ⊢
        rw [show ((z.cps.toList.map (inT signs)).all id) = z.cps.toList.all (inT signs) by rw [List.all_map]; rfl]
        exact e
    · exact fin (decide_eq_false fun h => c (decide_eq_true h.2))
  · refine ⟨_, rfl, ?_⟩
    refine iteF ?_
    exact fin (decide_eq_false fun h => c (decide_eq_true (by have := h.1; omega)))
def isName (z : Str) : Bool := decide (1 ≤ z.length ∧ (z.length : Int) ≤ 8) && z.cps.toList.all (inT "abcdefghijklmnopqrstuvwxyz")
def spName : Sp := fun vs H Q _ => ∃ z : Str, vs = [.str z] ∧ z.length ≤ 100000 ∧ ∀ H', Same H H' → Q (.bl (isName z)) H'
theorem ok_name (F : DefAt K mg "is_name" s_is_name ["word"]) (T : Txt mg) (D_is_made_of : Dn P w K mg base "is_made_of" 1 ["word", "signs", "most"] spMade) : Dn P w K mg base "is_name" 2 ["word"] spName := by
  have sc := sc_is_name
  refine F.ok sc (fun vs H Q E h => ?_) (fun f cdv A outer s H vs Q E hr h => ?_)
  · obtain ⟨_, rfl, _⟩ := h; rfl
  obtain ⟨z, rfl, hz, q⟩ := h
  refine ⟨_, (pss_one (ps_ret (pe_dn D_is_made_of hr (pa_cons (pv 0) (pa_cons (pe_gstr T.g_LETTERS) (pa_cons (pe_gint T.g_MOST_LETTERS) pa_nil)))))), ?_⟩
  exact ⟨_, rfl, z, _, _, rfl, hz, fun H' s' => q _ s'⟩
def isFig (z : Str) (m : Int) : Bool := (decide (1 ≤ z.length ∧ (z.length : Int) ≤ m) && z.cps.toList.all (inT "0123456789")) && (z == "0" || !(z.cps.toList[0]? == some 48))
def spFig : Sp := fun vs H Q _ => ∃ (z : Str) (m : Int), vs = [.str z, .int m] ∧ z.length ≤ 100000 ∧ ∀ H', Same H H' → Q (.bl (isFig z m)) H'
theorem ok_fig (F : DefAt K mg "is_figures" s_is_figures ["word", "most"]) (T : Txt mg) (D_is_made_of : Dn P w K mg base "is_made_of" 1 ["word", "signs", "most"] spMade) : Dn P w K mg base "is_figures" 2 ["word", "most"] spFig := by
  have sc := sc_is_figures
  refine F.ok sc (fun vs H Q E h => ?_) (fun f cdv A outer s H vs Q E hr h => ?_)
  · obtain ⟨_, _, rfl, _⟩ := h; rfl
  obtain ⟨z, m, rfl, hz, q⟩ := h
  refine ⟨_, (pss_one (ps_ret (pe_and (pe_dn D_is_made_of hr (pa_cons (pv 0) (pa_cons (pe_gstr T.g_FIGURES) (pa_cons (pv 1) pa_nil)))) (pe_one (pe_or (pe_cmpR op_eq (pv 0) pe_str (nomark _)) (pe_one (pe_cmpR op_ne (pe_ix ix_str (pv 0) pe_int (fun _ _ => rfl)) pe_str (nomark _)))))))), ?_⟩
  refine ⟨_, rfl, _, rfl, z, _, _, rfl, hz, fun H1 s1 => ?_⟩
  have fin : ∀ b c : Bool, isFig z m = (b && c) → Q (.bl (b && c)) H1 := fun b c e => by rw [← e]; exact q _ s1
  refine ⟨_, rfl, ?_⟩
  refine ite2 (fun c => ?_) (fun c => ?_)
  · have c1 := c
    rw [Bool.and_eq_true] at c1
    have l1 : 1 ≤ z.length := (of_decide_eq_true c1.1).1
    obtain ⟨c0, hc0⟩ : ∃ c0, z.cps.toList[0]? = some c0 := ⟨z.cps.toList[0]'(by rw [Array.length_toList]; exact l1), by simp⟩
    have ef : isFig z m = (z == "0" || !(some c0 == some 48)) := by unfold isFig; rw [c, hc0, Bool.true_and]
    refine ⟨_, rfl, rfl, ?_⟩
    refine ⟨_, rfl, ?_⟩
    refine ite2 (fun d => ?_) (fun d => ?_)
    · have e : z = "0" := by have := of_decide_eq_true d; injection this
      have := q _ s1
      rw [ef, e, show (("0" : Str) == ("0" : Str)) = true from rfl, Bool.true_or] at this; exact this
    · have e : (z == "0") = false := by
        rw [dec_str] at d
        exact Bool.eq_false_iff.mpr d
      refine ⟨_, rfl, z, 0, c0, rfl, rfl, small (m := 100000) hz, atI_nat (j := 0) hc0, rfl, ?_⟩
      have := q _ s1
      rw [ef, e, Bool.false_or] at this
      have e2 : decide (V.str ⟨#[c0]⟩ = V.str "0") = (some c0 == some 48) := by
        rw [dec_str]
        by_cases h : c0 = 48
        · subst h; rfl
        · have h1 : (some c0 == some 48) = false := by simp [h]
          rw [h1]
          refine Bool.eq_false_iff.mpr fun k => h ?_
          have := eq_of_beq k
          have e3 : (⟨#[c0]⟩ : Str).cps = (Str.ofString "0").cps := by rw [this]
          have e4 : (#[c0] : Array Nat) = #[48] := e3
          simpa using e4
      rw [e2]; exact this
  · have e : isFig z m = false := by unfold isFig; rw [Bool.eq_false_iff.mpr c, Bool.false_and]
    have := q _ s1
    rw [e] at this; exact this
def spForm : Sp := fun vs H Q _ => vs = [.bl true] ∧ Q .non H
theorem ok_form (F : DefAt K mg "check_form" s_check_form ["right"]) (T : Txt mg) : Dn P w K mg base "check_form" 1 ["right"] spForm := by
  have sc := sc_check_form
  refine F.ok sc (fun vs H Q E h => ?_) (fun f cdv A outer s H vs Q E hr h => ?_)
  · obtain ⟨rfl, _⟩ := h; rfl
  obtain ⟨rfl, q⟩ := h
  refine ⟨_, (pss_one (ps_if (pt_not (pt_val (pv 0)))
      (pss_one ps_never)
      pss_nil)), ?_⟩
  exact ⟨_, rfl, _, rfl, q⟩
def spTold : Sp := fun vs H Q _ => ∃ z : Str, vs = [.str z] ∧ z.length ≤ 100000 ∧ ∀ (p : Addr) (H' : Hp), Same H H' → H p = none → H' p = some (.lst ((if z.length = 0 then [] else Txt.split z "; ").map V.str)) → Q (.ref p) H'
theorem ok_told (F : DefAt K mg "places_told" s_places_told ["text"]) (T : Txt mg) (D_check_form : Dn P w K mg base "check_form" 1 ["right"] spForm) : Dn P w K mg base "places_told" 2 ["text"] spTold := by
  have sc := sc_places_told
  refine F.ok sc (fun vs H Q E h => ?_) (fun f cdv A outer s H vs Q E hr h => ?_)
  · obtain ⟨_, rfl, _⟩ := h; rfl
  obtain ⟨z, rfl, hz, q⟩ := h
  refine ⟨_, (pss_cons (ps_expr (pe_dn D_check_form hr (pa_cons (pe_callB (clIsi (K := K) rfl (T := "str")) rfl T.b_isinstance PyProof.Rows.boot_isinstance (pa_cons (pv 0) (pa_cons (pe_bltn (v := .ty "str") rfl T.b_str PyProof.Rows.boot_str rfl) pa_nil))) pa_nil)))
      (pss_one (ps_ret (pe_ifExp (pt_truth (pv 0) (by intro _; rfl)) (pe_bm PySem.F.plainAttrs_str PySem.F.slot_str_split PySem.F.type_str_split mt_split (pv 0) (pa_cons pe_str pa_nil)) (pe_lst pa_nil))))), ?_⟩
  refine ⟨_, rfl, _, "str", _, rfl, rfl, isi_same _, rfl, ?_⟩
  refine ⟨_, rfl, decide (z.length ≠ 0), ?_, ?_⟩
  · refine ⟨small (m := 100000) hz, ?_⟩
    by_cases e : z.length = 0
    · rw [e]; rfl
    · rw [decide_eq_true e]
      symm
      simp [e]
  refine ite2 (fun c => ?_) (fun c => ?_)
  · have e : z.length ≠ 0 := of_decide_eq_true c
    refine ⟨_, rfl, rfl, z, _, rfl, rfl, rfl, small (m := 100002) (by omega), fun p hp => ?_⟩
    refine q p _ (same_upd hp _) hp ?_
    rw [if_neg e, upd_same]
  · have e : z.length = 0 := Classical.byContradiction fun e => c (decide_eq_true e)
    refine ⟨Nat.zero_le _, fun p hp => ?_⟩
    refine q p _ (same_upd hp _) hp ?_
    rw [if_pos e, upd_same]; rfl
theorem inT_mem (x : Str) (c : Nat) : inT x c = decide (c ∈ x.cps.toList) := PySem.StrLaws.found_one x c
theorem let_no {c : Nat} (h : inT "abcdefghijklmnopqrstuvwxyz" c = true) : c ≠ 43 ∧ c ≠ 45 := by
  rw [inT_mem] at h
  have := of_decide_eq_true h
  exact ⟨fun e => by subst e; revert this; decide +kernel, fun e => by subst e; revert this; decide +kernel⟩
theorem fig_no {c : Nat} (h : inT "0123456789" c = true) : c ≠ 43 ∧ c ≠ 45 := by
  rw [inT_mem] at h
  have := of_decide_eq_true h
  exact ⟨fun e => by subst e; revert this; decide +kernel, fun e => by subst e; revert this; decide +kernel⟩
def headT (nm : Str) (hand : Int) (d : Str) : Str := nm ++ (if hand = 0 then ("+" : Str) else "-") ++ d
def sgn (hand : Int) : Nat := if hand = 0 then 43 else 45
theorem head_eq (nm d : Str) (hand : Int) : headT nm hand d = ⟨(nm.cps.toList ++ sgn hand :: d.cps.toList).toArray⟩ := by
  obtain ⟨a⟩ := nm
  obtain ⟨b⟩ := d
  unfold headT sgn
  by_cases h : hand = 0
  · rw [if_pos h, if_pos h]
    show (⟨a ++ #[43] ++ b⟩ : Str) = _
    congr 1
    apply Array.toList_inj.mp
    simp
  · rw [if_neg h, if_neg h]
    show (⟨a ++ #[45] ++ b⟩ : Str) = _
    congr 1
    apply Array.toList_inj.mp
    simp
theorem head_in {nm d : Str} {hand : Int} (hn : isName nm = true) (hd : ∀ c ∈ d.cps.toList, inT "0123456789" c = true) (c : Nat) (hc : c = 43 ∨ c = 45) : inT (headT nm hand d) c = decide (c = sgn hand) := by
  rw [inT_mem, head_eq]
  have h1 : ∀ c ∈ nm.cps.toList, inT "abcdefghijklmnopqrstuvwxyz" c = true := fun c hc => by
    unfold isName at hn
    rw [Bool.and_eq_true] at hn
    exact List.all_eq_true.mp hn.2 c hc
  have n1 : c ∉ nm.cps.toList := fun z => by
    have := let_no (h1 c z)
    omega
  have n2 : c ∉ d.cps.toList := fun z => by
    have := fig_no (hd c z)
    omega
  have e : (c ∈ (nm.cps.toList ++ sgn hand :: d.cps.toList).toArray.toList) ↔ c = sgn hand := by
    simp [n1, n2]
  exact decide_eq_decide.mpr e
def spHead : Sp := fun vs H Q _ => ∃ (nm d : Str) (hand : Int), vs = [.str (headT nm hand d)] ∧ (hand = 0 ∨ hand = 1) ∧ isName nm = true ∧ (∀ c ∈ d.cps.toList, inT "0123456789" c = true) ∧ d.length ≤ 1000 ∧ ∀ (p : Addr) (H' : Hp), Same H H' → H p = none → H' p = some (.tup [.str nm, .int hand, .str d]) → Q (.ref p) H'
theorem ok_head (F : DefAt K mg "read_head" s_read_head ["word"]) (T : Txt mg) (D_check_form : Dn P w K mg base "check_form" 1 ["right"] spForm) (D_is_name : Dn P w K mg base "is_name" 2 ["word"] spName) : Dn P w K mg base "read_head" 3 ["word"] spHead := by
  have sc := sc_read_head
  refine F.ok sc (fun vs H Q E h => ?_) (fun f cdv A outer s H vs Q E hr h => ?_)
  · obtain ⟨_, _, _, rfl, _⟩ := h; rfl
  obtain ⟨nm, d, hand, rfl, hh, hn, hd, hl, q⟩ := h
  refine ⟨_, (pss_cons (ps_lc (i := 1) (defScope s_read_head) ["word", "found", "parts"] ["hand", "sign", "word"] 2 [0] sc.nd rfl rfl (pi_enumS rfl T.b_enumerate (pa_cons (pe_gstr T.g_HAND_SIGNS) pa_nil)) (fun _ _ _ _ _ _ => (ptg2 (K := K) rfl rfl (show List.Nodup (["hand", "sign", "word"] : List Str) by decide +kernel) rfl rfl rfl rfl)) (fun _ _ _ _ _ _ => (pts_one (pt_cmpR op_in_str (pv 1) (pv 2) rfl))) (fun _ _ _ _ _ _ => (pv 0)))
      (pss_cons (ps_expr (pe_dn D_check_form hr (pa_cons (pe_cmpR op_gt (pe_callB (clLen (K := K) rfl) rfl T.b_len PySem.boot_len (pa_cons (pv 1) pa_nil)) pe_int (nomark _)) pa_nil)))
      (pss_cons (ps_set (i := 2) sc.nd rfl (Or.inl rfl) (pe_bm PySem.F.plainAttrs_str PySem.F.slot_str_partition PySem.F.type_str_partition mt_partition (pv 0) (pa_cons (pe_ix ix_str (pe_gstr T.g_HAND_SIGNS) (pe_ix (ixL (K := K) rfl) (pv 1) pe_int (fun _ _ => rfl)) (fun _ _ => rfl)) pa_nil)))
      (pss_cons (ps_expr (pe_dn D_check_form hr (pa_cons (pe_dn D_is_name hr (pa_cons (pe_ix (ixT (K := K) rfl) (pv 2) pe_int (fun _ _ => rfl)) pa_nil)) pa_nil)))
      (pss_one (ps_ret (pe_tup (pa_cons (pe_ix (ixT (K := K) rfl) (pv 2) pe_int (fun _ _ => rfl)) (pa_cons (pe_ix (ixL (K := K) rfl) (pv 1) pe_int (fun _ _ => rfl)) (pa_cons (pe_ix (ixT (K := K) rfl) (pv 2) pe_int (fun _ _ => rfl)) pa_nil)))))))))), ?_⟩
  have hw : (headT nm hand d).length ≤ 2000 := by
    have h8 : nm.length ≤ 8 := by
      unfold isName at hn
      rw [Bool.and_eq_true] at hn
      have := (of_decide_eq_true hn.1).2
      omega
    rw [head_eq]
    show (nm.cps.toList ++ sgn hand :: d.cps.toList).toArray.size ≤ 2000
    have a1 : nm.cps.size = nm.length := rfl
    have a2 : d.cps.size = d.length := rfl
    simp; omega
  refine ⟨"+-", rfl, comp_enumSD (z := "+-") (fun i ys H3 => Same H H3 ∧ ys = (if i = 0 then [] else if i = 1 then (if hand = 0 then [V.int 0] else []) else [V.int hand])) ⟨Same.refl _, rfl⟩ (by decide +kernel) (fun i ys H3 hi h => ?_) (fun i c T0 ys H3 hi h hT => ?_) (fun ys H3 h p hp => ?_)⟩
  · obtain ⟨_, rfl⟩ := h
    by_cases h0 : i = 0
    · rw [if_pos h0]; exact Nat.zero_le _
    · rw [if_neg h0]
      by_cases h1 : i = 1
      · rw [if_pos h1]; split <;> simp <;> omega
      · rw [if_neg h1]; simp; omega
  · obtain ⟨s3, rfl⟩ := h
    have s4 := s3.trans (same_upd hT (.tup [.int (i : Nat), .str ⟨#[c]⟩]))
    have hi2 : i < 2 := (Array.getElem?_eq_some_iff.mp hi).1
    have hiT : ∀ c, (!(Builtin.Str.occurrences (headT nm hand d) ⟨#[c]⟩ 0 (headT nm hand d).length 1).isEmpty) = inT (headT nm hand d) c := fun _ => rfl
    rcases (show i = 0 ∨ i = 1 by omega) with rfl | rfl
    · have ec : 43 = c := Option.some.inj (show some 43 = some c from hi)
      subst ec
      refine ⟨T0, _, rfl, SqT.of upd_same, rfl, ?_⟩
      refine ⟨_, rfl, _, rfl, _, _, rfl, rfl, _, rfl, ?_⟩
      rw [hiT, head_in hn hd 43 (.inl rfl)]
      refine ite2 (fun b => ?_) (fun b => ?_)
      · have b' : 43 = sgn hand := of_decide_eq_true b
        have e0 : hand = 0 := by unfold sgn at b'; split at b' <;> omega
        exact ⟨_, rfl, s4, by subst e0; rfl⟩
      · have e0 : ¬ hand = 0 := fun e => b (decide_eq_true (by unfold sgn; rw [if_pos e]))
        exact ⟨s4, by rw [if_pos rfl, if_neg (by decide), if_pos rfl, if_neg e0]⟩
    · have ec : 45 = c := Option.some.inj (show some 45 = some c from hi)
      subst ec
      refine ⟨T0, _, rfl, SqT.of upd_same, rfl, ?_⟩
      refine ⟨_, rfl, _, rfl, _, _, rfl, rfl, _, rfl, ?_⟩
      rw [hiT, head_in hn hd 45 (.inr rfl)]
      refine ite2 (fun b => ?_) (fun b => ?_)
      · have b' : 45 = sgn hand := of_decide_eq_true b
        have e0 : hand = 1 := by unfold sgn at b'; split at b' <;> omega
        exact ⟨_, rfl, s4, by subst e0; rfl⟩
      · have e0 : hand = 0 := Classical.byContradiction fun e => b (decide_eq_true (by unfold sgn; rw [if_neg e]))
        exact ⟨s4, by subst e0; rfl⟩
  obtain ⟨s3, rfl⟩ := h
  have s4 := s3.trans (same_upd hp (.lst [V.int hand]))
  have hp1 : upd H3 p (.lst [V.int hand]) p = some (.lst [V.int hand]) := upd_same
  have ee : (if ("+-" : Str).cps.size = 0 then [] else if ("+-" : Str).cps.size = 1 then (if hand = 0 then [V.int 0] else []) else [V.int hand]) = [V.int hand] := rfl
  rw [ee]
  generalize upd H3 p (.lst [V.int hand]) = H4 at s4 hp1 ⊢
  refine ⟨_, rfl, p, _, rfl, .inl (SqL.of hp1), _, _, rfl, rfl, rfl, ?_⟩
  have hat : atI (("+-" : Str).cps.toList) hand = some (sgn hand) := by rcases hh with rfl | rfl <;> rfl
  have hnm : sgn hand ∉ nm.cps.toList := fun z => by
    have h1 : inT "abcdefghijklmnopqrstuvwxyz" (sgn hand) = true := by
      unfold isName at hn
      rw [Bool.and_eq_true] at hn
      exact List.all_eq_true.mp hn.2 _ z
    have := let_no h1
    unfold sgn at this
    split at this <;> omega
  have hpt : Txt.partition (headT nm hand d) ⟨#[sgn hand]⟩ = (nm, ⟨#[sgn hand]⟩, d) := by rw [head_eq, part_one hnm]
  refine ⟨_, rfl, rfl, _, rfl, p, _, _, _, rfl, rfl, SqL.of hp1, atI_nat (j := 0) rfl, "+-", hand, sgn hand, rfl, rfl, (by decide +kernel), hat, _, _, rfl, rfl, rfl, small (m := 2000) hw, fun tp htp => ?_⟩
  rw [hpt]
  have s5 := s4.trans (same_upd htp (.tup [.str nm, .str ⟨#[sgn hand]⟩, .str d]))
  have hp2 := same_upd htp (.tup [.str nm, .str ⟨#[sgn hand]⟩, .str d]) _ _ hp1
  have ht2 : upd H4 tp (.tup [.str nm, .str ⟨#[sgn hand]⟩, .str d]) tp = some (.tup [.str nm, .str ⟨#[sgn hand]⟩, .str d]) := upd_same
  generalize upd H4 tp (.tup [.str nm, .str ⟨#[sgn hand]⟩, .str d]) = H5 at s5 hp2 ht2 ⊢
  refine ⟨_, rfl, tp, _, _, _, rfl, rfl, SqT.of ht2, atI_nat (j := 0) rfl, nm, rfl, (by unfold isName at hn; rw [Bool.and_eq_true] at hn; have := (of_decide_eq_true hn.1).2; omega), fun H6 s6 => ⟨by rw [hn]; rfl, ?_⟩⟩
  refine ⟨_, rfl, tp, _, _, _, rfl, rfl, SqT.of (s6 _ _ ht2), atI_nat (j := 0) rfl, _, rfl, p, _, _, _, rfl, rfl, SqL.of (s6 _ _ hp2), atI_nat (j := 0) rfl, _, rfl, tp, _, _, _, rfl, rfl, SqT.of (s6 _ _ ht2), atI_nat (j := 2) rfl, (by show 3 ≤ sizeLine; decide), fun rp hrp => ?_⟩
  exact q rp _ (s5.trans (s6.trans (same_upd hrp _))) (s5.free (s6.free hrp)) upd_same
def spNumOf : Sp := fun vs H Q _ => ∃ (a : Addr) (kvs : List (Key × V)) (x : Str) (n : Int), vs = [.ref a, .str x] ∧ H a = some (.dK kvs) ∧ valV kvs (.inr x) = some (.int n) ∧ Q (.int n) H
theorem ok_numof (F : DefAt K mg "number_of" s_number_of ["numbers", "name"]) (T : Txt mg) : Dn P w K mg base "number_of" 1 ["numbers", "name"] spNumOf := by
  have sc := sc_number_of
  refine F.ok sc (fun vs H Q E h => ?_) (fun f cdv A outer s H vs Q E hr h => ?_)
  · obtain ⟨_, _, _, _, rfl, _⟩ := h; rfl
  obtain ⟨a, kvs, x, n, rfl, ha, hv, q⟩ := h
  refine ⟨_, (pss_cons (ps_if (pt_cmp (pc_dnotin (hu_n hr 1) (pv 1) (pv 0)))
      (pss_one ps_never)
      pss_nil)
      (pss_one (ps_ret (pe_dget (hu_n hr 1) (pv 0) (pv 1) (fun _ _ => rfl))))), ?_⟩
  have g : DGet H a (.str x) (some (.int n)) := .inl ⟨kvs, .inr x, .inl ha, rfl, hv.symm⟩
  refine ⟨_, rfl, _, rfl, a, _, rfl, g, _, rfl, ?_⟩
  refine iteF ?_
  exact ⟨_, rfl, _, rfl, a, _, rfl, g, q⟩
def numKV (names : List Str) : List (Key × V) := names.zipIdx.map fun p => (.inr p.1, .int (p.2 : Nat))
theorem put_new : ∀ (l c : List (Key × V)), (∀ p ∈ l, p.1 ∉ c.map (·.1)) → (l.map (·.1)).Nodup → putAll c l = c ++ l
  | [], c, _, _ => by rw [List.append_nil]; rfl
  | p :: r, c, h, hn => by
    show putAll (putK c p.1 p.2) r = _
    have h1 : ¬ (c.any fun kv => decide (kv.1 = p.1)) = true := fun z => by
      obtain ⟨q, hq, e⟩ := List.any_eq_true.mp z
      exact h p List.mem_cons_self (List.mem_map.mpr ⟨q, hq, of_decide_eq_true e⟩)
    have e : putK c p.1 p.2 = c ++ [p] := by unfold putK; rw [if_neg h1]
    rw [List.map_cons, List.nodup_cons] at hn
    rw [e, put_new r (c ++ [p]) (fun q hq z => ?_) hn.2, List.append_assoc]; rfl
    rw [List.map_append] at z
    rcases List.mem_append.mp z with z | z
    · exact h q (List.mem_cons_of_mem _ hq) z
    · have z : q.1 = p.1 := by simpa using z
      exact hn.1 (by rw [← z]; exact List.mem_map.mpr ⟨q, hq, rfl⟩)
def spNumbered (K : PySem.W.Frag) : Sp := fun vs H Q _ => ∃ (a : Addr) (names : List Str), vs = [.ref a] ∧ SqL K H a (names.map V.str) ∧ names.Nodup ∧ names.length ≤ 1000 ∧ ∀ (p : Addr) (H' : Hp), Same H H' → H p = none → H' p = some (.dK (numKV names)) → Q (.ref p) H'
theorem ok_numbered (F : DefAt K mg "numbered" s_numbered ["names"]) (T : Txt mg) : Dn P w K mg base "numbered" 1 ["names"] (spNumbered K) := by
  have sc := sc_numbered
  refine F.ok sc (fun vs H Q E h => ?_) (fun f cdv A outer s H vs Q E hr h => ?_)
  · obtain ⟨_, _, rfl, _⟩ := h; rfl
  obtain ⟨a, names, rfl, ha, hn, hl, q⟩ := h
  refine ⟨_, (pss_cons (ps_set (i := 1) sc.nd rfl (Or.inl rfl) (pe_callTy (call_dict_pairs (K := K) rfl rfl) rfl T.b_dict PyProof.Rows.boot_dict (pa_cons (pe_lc (defScope s_numbered) ["names", "numbers"] ["number", "name"] 2 [] (pi_enum (K := K) rfl rfl T.b_enumerate (pa_cons (pv 0) pa_nil)) (fun _ _ _ _ _ _ => (ptg2 (K := K) rfl rfl (show List.Nodup (["number", "name"] : List Str) by decide +kernel) rfl rfl rfl rfl)) (fun _ _ _ _ _ _ => pts_nil) (fun _ _ _ _ _ _ => (pe_tup (pa_cons (pv 1) (pa_cons (pv 0) pa_nil))))) pa_nil)))
      (pss_cons (ps_if (pt_cmpR op_lt (pe_callB call_lenD rfl T.b_len PySem.boot_len (pa_cons (pv 1) pa_nil)) (pe_callB (clLen (K := K) rfl) rfl T.b_len PySem.boot_len (pa_cons (pv 0) pa_nil)) (nomark _))
      (pss_one ps_never)
      pss_nil)
      (pss_one (ps_ret (pv 1))))), ?_⟩
  have hlm : (names.map V.str).length = names.length := List.length_map _
  have hlk : (numKV names).length = names.length := by unfold numKV; simp
  refine ⟨_, rfl, a, rfl, ⟨_, ha⟩, comp_enumD (K := K) (a := a) (xs := names.map V.str) (fun i ys H3 => Same H H3 ∧ ∃ ts : List (Addr × Key × V), ys = ts.map (fun t => V.ref t.1) ∧ (ts.map fun t => t.2) = (numKV names).take i ∧ (∀ t ∈ ts, H3 t.1 = some (.tup [kV t.2.1, t.2.2]))) ⟨Same.refl _, [], rfl, rfl, fun _ z => by cases z⟩ (small (m := 1000) (by omega)) (fun i ys H3 hi h => ?_) (fun i x T0 ys H3 hi h hT => ?_) (fun ys H3 h p hp => ?_)⟩
  · obtain ⟨s3, ts, rfl, e2, _⟩ := h
    refine ⟨s3.seq ha, ?_⟩
    have := congrArg List.length e2
    rw [List.length_map, List.length_take] at this
    rw [List.length_map]; omega
  · obtain ⟨s3, ts, rfl, e2, e3⟩ := h
    rw [List.getElem?_map] at hi
    obtain ⟨z, hz, rfl⟩ : ∃ z, names[i]? = some z ∧ x = V.str z := by
      cases e : names[i]? with
      | none => rw [e] at hi; cases hi
      | some z => rw [e] at hi; cases hi; exact ⟨z, rfl, rfl⟩
    have s4 := same_upd hT (.tup [.int (i : Nat), .str z])
    refine comp_yesT (SqT.of upd_same) rfl ?_
    refine ⟨_, rfl, _, rfl, (by show 2 ≤ sizeLine; decide), fun t2 ht2 => ?_⟩
    have s5 := s4.trans (same_upd ht2 (.tup [.str z, .int (i : Nat)]))
    refine ⟨s3.trans s5, ts ++ [(t2, .inr z, .int (i : Nat))], by rw [List.map_append]; rfl, ?_, fun t ht => ?_⟩
    · have hk : (numKV names)[i]? = some (.inr z, .int (i : Nat)) := by unfold numKV; rw [List.getElem?_map, List.getElem?_zipIdx, hz]; simp
      rw [List.take_add_one, hk, List.map_append, e2]; rfl
    · rcases List.mem_append.mp ht with h | h
      · exact s5 _ _ (e3 t h)
      · rw [List.mem_singleton.mp h]; exact upd_same
  obtain ⟨s3, ts, rfl, e2, e3⟩ := h
  rw [hlm, ← hlk, List.take_length] at e2
  have s4 := same_upd hp (.lst (ts.map fun t => V.ref t.1))
  refine ⟨p, ts, rfl, SqL.of upd_same, fun t ht => SqT.of (s4 _ _ (e3 t ht)), fun d hd => ?_⟩
  have hnd : ((numKV names).map (·.1)).Nodup := by
    have e : (numKV names).map (·.1) = names.map Sum.inr := by
      unfold numKV
      rw [List.map_map]
      show names.zipIdx.map (Sum.inr ∘ Prod.fst) = _
      rw [← List.map_map, List.zipIdx_map_fst]
    rw [e]
    exact hn.map _ fun x y h z => h (Sum.inr.inj z)
  rw [e2, put_new _ [] (fun _ _ z => by cases z) hnd, List.nil_append]
  have s5 := s3.trans (s4.trans (same_upd hd (.dK (numKV names))))
  refine ⟨_, rfl, d, _, rfl, upd_same, _, rfl, a, _, rfl, .inl (s5.seq ha), _, _, rfl, rfl, _, rfl, ?_⟩
  rw [hlk, hlm, decide_eq_false (by omega)]
  refine iteF ?_
  exact ⟨_, rfl, q d _ s5 ((s3.trans s4).free hd) upd_same⟩
def intS (i : Int) : Str := toString i
theorem name_few {z : Str} (h : isName z = true) : 1 ≤ z.length ∧ z.length ≤ 8 ∧ ∀ c ∈ z.cps.toList, 97 ≤ c ∧ c ≤ 122 := by
  unfold isName at h
  rw [Bool.and_eq_true] at h
  have h1 := of_decide_eq_true h.1
  refine ⟨h1.1, by omega, fun c hc => ?_⟩
  have h2 := List.all_eq_true.mp h.2 c hc
  rw [inT_mem] at h2
  have h3 := of_decide_eq_true h2
  have h4 : ("abcdefghijklmnopqrstuvwxyz" : Str).cps.toList.all (fun c => decide (97 ≤ c ∧ c ≤ 122)) = true := by decide +kernel
  exact of_decide_eq_true (List.all_eq_true.mp h4 c h3)
structure NmOk (names : List Str) : Prop where
  nd : names.Nodup
  nm : ∀ x ∈ names, isName x = true
theorem get_name {names : List Str} (hn : NmOk names) {x : Int} (h0 : 0 ≤ x) (h1 : x < names.length) : ∃ z, names[x.toNat]? = some z ∧ names.getD x.toNat "" = z ∧ isName z = true := by
  obtain ⟨z, hz⟩ : ∃ z, names[x.toNat]? = some z := ⟨names[x.toNat]'(by omega), by simp⟩
  exact ⟨z, hz, by rw [List.getD_eq_getElem?_getD, hz]; rfl, hn.nm z (List.mem_of_getElem? hz)⟩
theorem flat_mem {s : List Nat} : ∀ (ps : List (List Nat)) (c : Nat), c ∈ flatL s ps → c ∈ s ∨ ∃ p ∈ ps, c ∈ p
  | [], _, h => by cases h
  | [p], c, h => .inr ⟨p, List.mem_cons_self, h⟩
  | p :: q :: r, c, h => by
    have h' : c ∈ p ++ s ++ flatL s (q :: r) := h
    rcases List.mem_append.mp h' with h | h
    · rcases List.mem_append.mp h with h | h
      · exact .inr ⟨p, List.mem_cons_self, h⟩
      · exact .inl h
    · rcases flat_mem (q :: r) c h with h | ⟨x, hx, h⟩
      · exact .inl h
      · exact .inr ⟨x, List.mem_cons_of_mem _ hx, h⟩
theorem sum_le (B : Nat) : ∀ (l : List Str), (∀ x ∈ l, x.length ≤ B) → (l.map fun x => x.length).sum ≤ l.length * B
  | [], _ => by simp
  | x :: r, h => by
    have := sum_le B r fun y hy => h y (List.mem_cons_of_mem _ hy)
    have h0 := h x List.mem_cons_self
    rw [List.map_cons, List.sum_cons, List.length_cons, Nat.succ_mul]
    omega
theorem join_few {y : Str} {ps : List Str} {B : Nat} (h : ∀ x ∈ ps, x.length ≤ B) : (Txt.join y ps).length ≤ ps.length * (B + y.length) := by
  have h1 := StrLaws.join_length_le y ps
  have h2 := sum_le B ps h
  show (Builtin.Str.glued y ps).length ≤ _
  rw [StrLaws.glued_eq_join, Nat.mul_add]
  omega
theorem num_find : ∀ (names : List Str) (i k : Nat) (z : Str), names.Nodup → names[i]? = some z → valV ((names.zipIdx k).map fun p => ((.inr p.1 : Key), V.int (p.2 : Nat))) (.inr z) = some (.int ((k + i : Nat)))
  | [], i, k, z, _, h => by cases h
  | y :: r, i, k, z, hn, h => by
    rw [List.zipIdx_cons, List.map_cons]
    rw [List.nodup_cons] at hn
    unfold valV
    cases i with
    | zero =>
      have e : y = z := by simpa using h
      subst e
      rw [List.find?_cons_of_pos (by simp)]; rfl
    | succ i =>
      have h' : r[i]? = some z := by simpa using h
      have hne : y ≠ z := fun e => hn.1 (by rw [e]; exact List.mem_of_getElem? h')
      rw [List.find?_cons_of_neg (by simp [hne])]
      have := num_find r i (k + 1) z hn.2 h'
      unfold valV at this
      rw [this, show k + 1 + i = k + (i + 1) by omega]
theorem num_val {names : List Str} (hn : names.Nodup) {x : Int} (h0 : 0 ≤ x) (h1 : x < names.length) : valV (numKV names) (.inr (names.getD x.toNat "")) = some (.int x) := by
  obtain ⟨z, hz⟩ : ∃ z, names[x.toNat]? = some z := ⟨names[x.toNat]'(by omega), by simp⟩
  have e : names.getD x.toNat "" = z := by rw [List.getD_eq_getElem?_getD, hz]; rfl
  rw [e]
  have := num_find names x.toNat 0 z hn hz
  unfold numKV
  rw [this, Nat.zero_add, Int.toNat_of_nonneg h0]
theorem app_len (x y : Str) : (x ++ y).length = x.length + y.length := by rw [str_len, app_list, List.length_append, ← str_len, ← str_len]
theorem head_is (nm d : Str) (hand : Int) : nm ++ ⟨#[sgn hand]⟩ ++ d = headT nm hand d := by
  unfold headT sgn
  by_cases h : hand = 0
  · rw [if_pos h, if_pos h]; rfl
  · rw [if_neg h, if_neg h]; rfl
def spCell (K : PySem.W.Frag) : Sp := fun vs H Q _ => ∃ (a : Addr) (ns : List Int) (k : Int), vs = [.ref a, .int k] ∧ SqL K H a (ns.map V.int) ∧ 0 ≤ k ∧ ∀ m : Int, Q (.int m) H
theorem ok_cell (F : DefAt K mg "_law_cell_at" s_law_cell_at ["_law_script", "_law_k"]) (T : Txt mg) : Dn P w K mg base "_law_cell_at" 1 ["_law_script", "_law_k"] (spCell K) := by
  have sc := sc_law_cell_at
  refine F.ok sc (fun vs H Q E h => ?_) (fun f cdv A outer s H vs Q E hr h => ?_)
  · obtain ⟨a, ns, k, rfl, _⟩ := h; rfl
  obtain ⟨a, ns, k, rfl, hS, h0, q⟩ := h
  have hl : (ns.map V.int).length = ns.length := List.length_map _
  refine ⟨_, (pss_cons (ps_if (pt_cmpR op_lt (pv 1) (pe_callB (clLen (K := K) rfl) rfl T.b_len PySem.boot_len (pa_cons (pv 0) pa_nil)) (nomark _))
      (pss_one (ps_ret (pe_ix (ixL (K := K) rfl) (pv 0) (pv 1) (fun _ _ => rfl))))
      pss_nil)
      (pss_one (ps_ret pe_int))), ?_⟩
  refine ⟨_, rfl, _, rfl, a, _, rfl, .inl hS, _, _, rfl, rfl, _, rfl, ?_⟩
  refine ite2 (fun c => ?_) (fun c => ?_)
  · have c' := of_decide_eq_true c
    rw [hl] at c'
    obtain ⟨m, hm⟩ : ∃ m, ns[k.toNat]? = some m := ⟨ns[k.toNat]'(by omega), by simp⟩
    exact ⟨_, rfl, _, rfl, a, _, _, _, rfl, rfl, hS, atI_i h0 (by rw [List.getElem?_map, hm]; rfl), q m⟩
  · exact q 0
def lt1 (t : Int) : Nat := 97 + t.toNat
def abc : Str := "abcdefghijklmnopqrstuvwxyz"
theorem abc_at : ∀ t : Int, 0 ≤ t → t < 26 → atI abc.cps.toList t = some (lt1 t) := by
  have h : (List.range 26).all (fun k => decide (atI abc.cps.toList ((k : Nat) : Int) = some (lt1 ((k : Nat) : Int)))) = true := by decide +kernel
  intro t h0 h1
  have := List.all_eq_true.mp h t.toNat (List.mem_range.mpr (by omega))
  rw [show ((t.toNat : Nat) : Int) = t by omega] at this
  exact of_decide_eq_true this
theorem name_back {l : List Nat} (h1 : 1 ≤ l.length) (h8 : l.length ≤ 8) (h : ∀ c ∈ l, 97 ≤ c ∧ c ≤ 122) : isName ⟨l.toArray⟩ = true := by
  have hb : (List.range 26).all (fun k => decide (97 + k ∈ abc.cps.toList)) = true := by decide +kernel
  have el : (⟨l.toArray⟩ : Str).length = l.length := by rw [str_len]
  unfold isName
  rw [Bool.and_eq_true]
  refine ⟨decide_eq_true (by rw [el]; omega), List.all_eq_true.mpr fun c hc => ?_⟩
  rw [inT_mem]
  refine decide_eq_true ?_
  have hc' := h c hc
  have := of_decide_eq_true (List.all_eq_true.mp hb (c - 97) (List.mem_range.mpr (by omega)))
  rw [show 97 + (c - 97) = c by omega] at this
  exact this
theorem lt1_in {t : Int} (h0 : 0 ≤ t) (h1 : t < 26) : 97 ≤ lt1 t ∧ lt1 t ≤ 122 := by unfold lt1; omega
def wrd (l : List Int) : Str := ⟨(l.map lt1).toArray⟩
theorem wrd_list (l : List Int) : (wrd l).cps.toList = l.map lt1 := rfl
theorem wrd_len (l : List Int) : (wrd l).length = l.length := by rw [str_len, wrd_list, List.length_map]
theorem wrd_snoc (l : List Int) (t : Int) : wrd l ++ ⟨#[lt1 t]⟩ = wrd (l ++ [t]) := by
  have := app_list (wrd l) ⟨#[lt1 t]⟩
  rw [wrd_list] at this
  rw [str_list this]
  unfold wrd
  rw [List.map_append]; rfl
theorem wrd_name {l : List Int} (h1 : 1 ≤ l.length) (h8 : l.length ≤ 8) (h : ∀ t ∈ l, 0 ≤ t ∧ t < 26) : isName (wrd l) = true := by
  refine name_back (by rw [List.length_map]; exact h1) (by rw [List.length_map]; exact h8) fun c hc => ?_
  obtain ⟨t, ht, rfl⟩ := List.mem_map.mp hc
  exact lt1_in (h t ht).1 (h t ht).2
theorem wrd_inj {l l' : List Int} (h : ∀ t ∈ l, 0 ≤ t) (h' : ∀ t ∈ l', 0 ≤ t) (e : wrd l = wrd l') : l = l' := by
  have e1 : l.map lt1 = l'.map lt1 := by rw [← wrd_list, ← wrd_list, e]
  have back : ∀ l : List Int, (∀ t ∈ l, 0 ≤ t) → (l.map lt1).map (fun c : Nat => (c : Int) - 97) = l := fun l hl => by
    rw [List.map_map]
    have : l.map ((fun c : Nat => (c : Int) - 97) ∘ lt1) = l.map id := List.map_congr_left fun t ht => by
      have := hl t ht
      show ((lt1 t : Nat) : Int) - 97 = t
      unfold lt1; omega
    rw [this, List.map_id]
  rw [← back l h, ← back l' h', e1]
theorem map_nodup {f : Nat → Str} {n : Nat} (h : ∀ i j, i < n → j < n → f i = f j → i = j) : ((List.range n).map f).Nodup := by
  unfold List.Nodup
  rw [List.pairwise_map]
  exact List.Pairwise.imp_of_mem (fun ha hb hne e => hne (h _ _ (List.mem_range.mp ha) (List.mem_range.mp hb) e)) List.nodup_range
theorem strs_rel {H : Hp} {a : Addr} {xs : List Str} (h : H a = some (.lst (xs.map V.str))) : rLst rStr H xs (.ref a) := by
  refine ⟨a, _, rfl, h, ?_⟩
  clear h
  induction xs with
  | nil => exact .nil
  | cons x r ih => exact .cons rfl ih
theorem fig_in {c : Nat} (h : 48 ≤ c ∧ c ≤ 57) : inT "0123456789" c = true := by
  have hb : (List.range 10).all (fun k => decide (48 + k ∈ (Str.ofString "0123456789").cps.toList)) = true := by decide +kernel
  rw [inT_mem]
  refine decide_eq_true ?_
  have := of_decide_eq_true (List.all_eq_true.mp hb (c - 48) (List.mem_range.mpr (by omega)))
  rw [show 48 + (c - 48) = c by omega] at this
  exact this
theorem fig_dl {n : Nat} (h : n < 10 ^ 60) {x : Str} (hx : x.cps.toList = dl n) : isFig x 60 = true := by
  have hl := dl_le (k := 60) (by decide) h
  have h1 := dl_len n
  have el := str_len x
  rw [hx] at el
  unfold isFig
  rw [hx, decide_eq_true (show 1 ≤ x.length ∧ (x.length : Int) ≤ 60 by omega), Bool.true_and, List.all_eq_true.mpr fun c hc => fig_in (dl_all n c hc), Bool.true_and]
  by_cases h0 : n = 0
  · have e : x = "0" := by
      rw [h0, dl_zero] at hx
      exact str_list hx
    rw [e]; rfl
  · have : (dl n)[0]? ≠ some 48 := fun z => by
      cases e : dl n with
      | nil => rw [e] at z; cases z
      | cons c r =>
        rw [e] at z
        have : c = 48 := by simpa using z
        subst this
        exact h0 (dl_head e)
    have e2 : ((dl n)[0]? == some 48) = false := by
      rw [Bool.eq_false_iff]
      intro z
      exact this (eq_of_beq z)
    rw [e2]; simp
def AmtOk (z : Int) : Prop := -(10 ^ 60) < z ∧ z < 10 ^ 60
theorem amt_abs {z : Int} (h : AmtOk z) : z.natAbs < 10 ^ 60 := by obtain ⟨h1, h2⟩ := h; omega
theorem sw_is (x : Str) : ((decide (0 + (Str.ofString "-").length ≤ x.length)) && Builtin.Str.subAt x "-" 0) = (x.cps.toList[0]? == some 45) := by
  have h : StrLaws.At x ⟨#[45]⟩ x.length 0 ↔ _ := one_at
  rw [Bool.eq_iff_iff, Bool.and_eq_true, beq_iff_eq, ← h]
  unfold StrLaws.At
  rw [decide_eq_true_iff]
  rfl
theorem picked1 : ∀ n : Nat, n ≤ 61 → Builtin.Str.strSliceIndices (some 1) none 1 (n + 1) = List.range' 1 n := by
  have h : (List.range 62).all (fun n => decide (Builtin.Str.strSliceIndices (some 1) none 1 (n + 1) = List.range' 1 n)) = true := by decide +kernel
  intro n h8
  exact of_decide_eq_true (List.all_eq_true.mp h n (List.mem_range.mpr (by omega)))
theorem tail_range (c : Nat) (l : List Nat) : ∀ n, (List.range' 1 n).filterMap (((c :: l).toArray)[·]?) = l.take n
  | 0 => rfl
  | n + 1 => by
    rw [List.range'_concat, List.filterMap_append, tail_range c l n, List.take_add_one]
    congr 1
    have e : ((c :: l).toArray)[1 + 1 * n]? = l[n]? := by
      rw [show 1 + 1 * n = n + 1 by omega]; simp
    simp only [List.filterMap_cons, List.filterMap_nil, e]
    cases l[n]? <;> rfl
theorem cut_tail {x : Str} {c : Nat} {l : List Nat} (h : x.cps.toList = c :: l) (hl : l.length ≤ 61) : cutS x (some 1) none = ⟨l.toArray⟩ := by
  have hx := str_list h
  subst hx
  have hp : picked ⟨(c :: l).toArray⟩ (some 1) none = List.range' 1 l.length := picked1 l.length hl
  unfold cutS
  have e : (⟨(c :: l).toArray⟩ : Str).length = l.length + 1 := rfl
  rw [hp, List.length_range', e, if_neg (by omega)]
  refine congrArg Str.mk ?_
  rw [tail_range, List.take_length]
def spIsAmt : Sp := fun vs H Q _ => ∃ z : Int, vs = [.str (intS z)] ∧ AmtOk z ∧ ∀ H', Same H H' → Q (.bl true) H'
theorem ok_isamt (F : DefAt K mg "is_amount" s_is_amount ["word"]) (T : Txt mg) (D_is_figures : Dn P w K mg base "is_figures" 2 ["word", "most"] spFig) : Dn P w K mg base "is_amount" 3 ["word"] spIsAmt := by
  have sc := sc_is_amount
  refine F.ok sc (fun vs H Q E h => ?_) (fun f cdv A outer s H vs Q E hr h => ?_)
  · obtain ⟨_, rfl, _⟩ := h; rfl
  obtain ⟨z, rfl, hz, q⟩ := h
  have ha := amt_abs hz
  have hl := (int_back z ha).2
  have hd := dl_le (k := 60) (by decide) ha
  refine ⟨_, (pss_cons (ps_if (pt_val (pe_bm PySem.F.plainAttrs_str PySem.F.slot_str_startswith PySem.F.type_str_startswith mt_startswith (pv 0) (pa_cons pe_str pa_nil)))
      (pss_one (ps_ret (pe_and (pe_cmpR op_ne (pv 0) pe_str (nomark _)) (pe_one (pe_dn D_is_figures hr (pa_cons (pe_slice sl_str (pv 0) (po_some pe_int) po_none) (pa_cons (pe_gint T.g_MOST_AMOUNT_FIGURES) pa_nil)))))))
      pss_nil)
      (pss_one (ps_ret (pe_dn D_is_figures hr (pa_cons (pv 0) (pa_cons (pe_gint T.g_MOST_AMOUNT_FIGURES) pa_nil)))))), ?_⟩
  refine ⟨_, rfl, rfl, _, _, rfl, rfl, _, rfl, ?_⟩
  rw [sw_is]
  refine ite2 (fun c => ?_) (fun c => ?_)
  · have c' := eq_of_beq c
    by_cases hn : z < 0
    · have ht : (intS z).cps.toList = 45 :: dl z.natAbs := neg_text hn
      have hne : decide (V.str (intS z) = V.str "-0") = false := by
        refine decide_eq_false fun e => ?_
        injection e with e
        rw [e] at ht
        have e2 : [45, 48] = 45 :: dl z.natAbs := ht
        have e3 : dl z.natAbs = 48 :: [] := by injection e2 with _ e2; exact e2.symm
        have := dl_head e3
        omega
      refine ⟨_, rfl, rfl, ?_⟩
      rw [hne]
      refine ⟨_, rfl, ?_⟩
      refine iteT ?_
      refine ⟨_, rfl, 1, rfl, intS z, rfl, ?_, ?_⟩
      · rw [cut_tail ht (by omega)]
        exact small (m := 100) (by show (dl z.natAbs).toArray.size ≤ 100; simp; omega)
      rw [cut_tail ht (by omega)]
      refine ⟨_, _, rfl, (by show (dl z.natAbs).toArray.size ≤ 100000; simp; omega), fun H' s' => ?_⟩
      rw [fig_dl (n := z.natAbs) ha rfl]
      exact q _ s'
    · have ht : (intS z).cps.toList = dl z.natAbs := pos_text (by omega)
      rw [ht] at c'
      have := dl_all z.natAbs 45 (List.mem_of_getElem? c')
      omega
  · have hn : ¬ z < 0 := fun hn => by
      have ht : (intS z).cps.toList = 45 :: dl z.natAbs := neg_text hn
      rw [ht] at c
      exact c rfl
    have ht : (intS z).cps.toList = dl z.natAbs := pos_text (by omega)
    refine ⟨_, rfl, _, _, rfl, (by show (intS z).length ≤ 100000; exact Nat.le_trans hl (by decide)), fun H' s' => ?_⟩
    rw [fig_dl (n := z.natAbs) ha ht]
    exact q _ s'
def wyS (nm : Str) (z : Int) : Str := nm ++ (":" : Str) ++ intS z
theorem wy_list (nm : Str) (z : Int) : (wyS nm z).cps.toList = nm.cps.toList ++ 58 :: (intS z).cps.toList := by
  unfold wyS
  rw [app_list, app_list, List.append_assoc]; rfl
theorem int_signs {z : Int} (h : AmtOk z) : (intS z).length ≤ 61 ∧ ∀ c ∈ (intS z).cps.toList, c ≠ 32 ∧ c ≠ 59 ∧ c ≠ 58 := by
  have ha := amt_abs h
  refine ⟨(int_back z ha).2, fun c hc => ?_⟩
  by_cases hn : z < 0
  · have ht : (intS z).cps.toList = 45 :: dl z.natAbs := neg_text hn
    rw [ht] at hc
    rcases List.mem_cons.mp hc with e | e
    · omega
    · have := dl_all _ c e; omega
  · have ht : (intS z).cps.toList = dl z.natAbs := pos_text (by omega)
    rw [ht] at hc
    have := dl_all _ c hc; omega
theorem wy_few {nm : Str} {z : Int} (hn : isName nm = true) (hz : AmtOk z) : (wyS nm z).length ≤ 70 ∧ ∀ c ∈ (wyS nm z).cps.toList, c ≠ 32 ∧ c ≠ 59 := by
  obtain ⟨n1, n2, n3⟩ := name_few hn
  obtain ⟨z1, z2⟩ := int_signs hz
  refine ⟨?_, fun c hc => ?_⟩
  · have e1 := str_len nm
    have e2 := str_len (intS z)
    rw [str_len, wy_list, List.length_append, List.length_cons]
    omega
  · rw [wy_list] at hc
    rcases List.mem_append.mp hc with h | h
    · have := n3 c h; omega
    · rcases List.mem_cons.mp h with h | h
      · omega
      · have := z2 c h; omega
theorem wy_part {nm : Str} {z : Int} (hn : isName nm = true) : Txt.partition (wyS nm z) ":" = (nm, (":" : Str), intS z) := by
  have h58 : 58 ∉ nm.cps.toList := fun h => by have := (name_few hn).2.2 58 h; omega
  rw [str_list (wy_list nm z)]
  have := part_one (b := (intS z).cps.toList) h58
  exact this
def spPWay : Sp := fun vs H Q _ => ∃ (nm : Str) (z : Int), vs = [.str (wyS nm z)] ∧ isName nm = true ∧ AmtOk z ∧ ∀ (p : Addr) (H' : Hp), Same H H' → H p = none → H' p = some (.tup [.str nm, .int z]) → Q (.ref p) H'
theorem ok_pway (F : DefAt K mg "read_purse_way" s_read_purse_way ["word"]) (T : Txt mg) (D_check_form : Dn P w K mg base "check_form" 1 ["right"] spForm) (D_is_name : Dn P w K mg base "is_name" 2 ["word"] spName) (D_is_amount : Dn P w K mg base "is_amount" 3 ["word"] spIsAmt) : Dn P w K mg base "read_purse_way" 4 ["word"] spPWay := by
  have sc := sc_read_purse_way
  refine F.ok sc (fun vs H Q E h => ?_) (fun f cdv A outer s H vs Q E hr h => ?_)
  · obtain ⟨_, _, rfl, _⟩ := h; rfl
  obtain ⟨nm, z, rfl, hn, hz, q⟩ := h
  have hw := (wy_few hn hz).1
  have hl := (name_few hn).2.1
  refine ⟨_, (pss_cons (ps_set (i := 1) sc.nd rfl (Or.inl rfl) (pe_bm PySem.F.plainAttrs_str PySem.F.slot_str_partition PySem.F.type_str_partition mt_partition (pv 0) (pa_cons pe_str pa_nil)))
      (pss_cons (ps_expr (pe_dn D_check_form hr (pa_cons (pe_and (pe_dn D_is_name hr (pa_cons (pe_ix (ixT (K := K) rfl) (pv 1) pe_int (fun _ _ => rfl)) pa_nil)) (pe_one (pe_dn D_is_amount hr (pa_cons (pe_ix (ixT (K := K) rfl) (pv 1) pe_int (fun _ _ => rfl)) pa_nil)))) pa_nil)))
      (pss_one (ps_ret (pe_tup (pa_cons (pe_ix (ixT (K := K) rfl) (pv 1) pe_int (fun _ _ => rfl)) (pa_cons (pe_callTy call_int_text rfl T.b_int PyProof.Rows.boot_int (pa_cons (pe_ix (ixT (K := K) rfl) (pv 1) pe_int (fun _ _ => rfl)) pa_nil)) pa_nil))))))), ?_⟩
  refine ⟨_, rfl, rfl, wyS nm z, _, rfl, rfl, rfl, small (m := 2000) (by omega), fun tp htp => ?_⟩
  rw [wy_part hn]
  have s1 := same_upd htp (.tup [.str nm, .str ":", .str (intS z)])
  have ht1 : upd H tp (.tup [.str nm, .str ":", .str (intS z)]) tp = some (.tup [.str nm, .str ":", .str (intS z)]) := upd_same
  generalize upd H tp (.tup [.str nm, .str ":", .str (intS z)]) = H1 at s1 ht1 ⊢
  refine ⟨_, rfl, tp, _, _, _, rfl, rfl, SqT.of ht1, atI_nat (j := 0) rfl, nm, rfl, by omega, fun H2 s2 => ?_⟩
  rw [hn]
  refine ⟨_, rfl, ?_⟩
  refine iteT ?_
  refine ⟨_, rfl, tp, _, _, _, rfl, rfl, SqT.of (s2 _ _ ht1), atI_nat (j := 2) rfl, z, rfl, hz, fun H3 s3 => ⟨rfl, ?_⟩⟩
  have h3 := (s2.trans s3) _ _ ht1
  obtain ⟨b1, b2⟩ := int_back z (amt_abs hz)
  refine ⟨_, rfl, tp, _, _, _, rfl, rfl, SqT.of h3, atI_nat (j := 0) rfl, _, rfl, tp, _, _, _, rfl, rfl, SqT.of h3, atI_nat (j := 2) rfl, intS z, z, rfl, b1, Nat.le_trans b2 (by decide), (by show 2 ≤ sizeLine; decide), fun rp hrp => ?_⟩
  have s13 := s1.trans (s2.trans s3)
  exact q rp _ (s13.trans (same_upd hrp _)) (s13.free hrp) upd_same
def rSI : Rel (Str × Int) := fun H p v => ∃ t : Addr, v = .ref t ∧ H t = some (.tup [.str p.1, .int p.2])
theorem mono_si : MonoR rSI := ⟨fun _ _ p v s h => by
  obtain ⟨t, e, h1⟩ := h
  exact ⟨t, e, s _ _ h1⟩⟩
def spPPl (K : PySem.W.Frag) : Sp := fun vs H Q _ => ∃ (tx nm : Str) (hand : Int) (ws : List (Str × Int)), vs = [.str tx] ∧ tx.length ≤ 100000 ∧ Txt.split tx " " = headT nm hand "" :: ws.map (fun w => wyS w.1 w.2) ∧ (hand = 0 ∨ hand = 1) ∧ isName nm = true ∧ (∀ x ∈ ws, isName x.1 = true ∧ AmtOk x.2) ∧ ws.length ≤ 1000 ∧
  ∀ (p l : Addr) (vs : List V) (H' : Hp), Same H H' → H p = none → H' p = some (.tup [.str nm, .int hand, .ref l]) → H' l = some (.lst vs) → Paired (rSI H') ws vs → Q (.ref p) H'
theorem ok_pplace (F : DefAt K mg "read_purse_place" s_read_purse_place ["text"]) (T : Txt mg) (D_read_head : Dn P w K mg base "read_head" 3 ["word"] spHead) (D_check_form : Dn P w K mg base "check_form" 1 ["right"] spForm) (D_read_purse_way : Dn P w K mg base "read_purse_way" 4 ["word"] spPWay) : Dn P w K mg base "read_purse_place" 5 ["text"] (spPPl K) := by
  have sc := sc_read_purse_place
  refine F.ok sc (fun vs H Q E h => ?_) (fun f cdv A outer s H vs Q E hr h => ?_)
  · obtain ⟨_, _, _, _, rfl, _⟩ := h; rfl
  obtain ⟨tx, nm, hand, ws, rfl, hx, hsp, hh, hn, hw, hl, q⟩ := h
  refine ⟨_, (pss_cons (ps_set (i := 1) sc.nd rfl (Or.inl rfl) (pe_bm PySem.F.plainAttrs_str PySem.F.slot_str_split PySem.F.type_str_split mt_split (pv 0) (pa_cons pe_str pa_nil)))
      (pss_cons (ps_set (i := 2) sc.nd rfl (Or.inl rfl) (pe_dn D_read_head hr (pa_cons (pe_ix (ixL (K := K) rfl) (pv 1) pe_int (fun _ _ => rfl)) pa_nil)))
      (pss_cons (ps_expr (pe_dn D_check_form hr (pa_cons (pe_cmpR op_eq (pe_ix (ixT (K := K) rfl) (pv 2) pe_int (fun _ _ => rfl)) pe_str (nomark _)) pa_nil)))
      (pss_one (ps_ret (pe_tup (pa_cons (pe_ix (ixT (K := K) rfl) (pv 2) pe_int (fun _ _ => rfl)) (pa_cons (pe_ix (ixT (K := K) rfl) (pv 2) pe_int (fun _ _ => rfl)) (pa_cons (pe_lc (defScope s_read_purse_place) ["text", "words", "head"] ["word"] 1 [] (pi_list (pe_slice (slL (K := K) rfl) (pv 1) (po_some pe_int) po_none)) (fun _ _ _ _ _ _ => (ptg_name (show List.Nodup (["word"] : List Str) by decide +kernel) rfl rfl)) (fun _ _ _ _ _ _ => pts_nil) (fun _ _ _ _ _ _ => (pe_dn D_read_purse_way hr (pa_cons (pv 0) pa_nil)))) pa_nil))))))))), ?_⟩
  refine ⟨_, rfl, rfl, tx, _, rfl, rfl, rfl, small (m := 100002) (by omega), fun wp hwp => ?_⟩
  rw [hsp]
  have s1 := same_upd hwp (.lst ((headT nm hand "" :: ws.map (fun w => wyS w.1 w.2)).map V.str))
  have hw1 : upd H wp (.lst ((headT nm hand "" :: ws.map (fun w => wyS w.1 w.2)).map V.str)) wp = some (.lst ((headT nm hand "" :: ws.map (fun w => wyS w.1 w.2)).map V.str)) := upd_same
  generalize upd H wp (.lst ((headT nm hand "" :: ws.map (fun w => wyS w.1 w.2)).map V.str)) = H1 at s1 hw1 ⊢
  refine ⟨_, rfl, wp, _, _, _, rfl, rfl, SqL.of hw1, atI_nat (j := 0) rfl, nm, "", hand, rfl, hh, hn, (fun c hc => by cases hc), (by decide +kernel), fun hp H2 s2 _ hhp => ?_⟩
  refine ⟨_, rfl, hp, _, _, _, rfl, rfl, SqT.of hhp, atI_nat (j := 2) rfl, rfl, rfl, ?_⟩
  have hw2 := s2 _ _ hw1
  refine ⟨_, rfl, hp, _, _, _, rfl, rfl, SqT.of hhp, atI_nat (j := 0) rfl, _, rfl, hp, _, _, _, rfl, rfl, SqT.of hhp, atI_nat (j := 1) rfl, _, rfl, 1, rfl, wp, _, rfl, SqL.of hw2, fun sp hs2 => ?_⟩
  rw [cut_from1]
  have s4 := same_upd hs2 (.lst (((headT nm hand "" :: ws.map (fun w => wyS w.1 w.2)).map V.str).drop 1))
  have hs4 : upd H2 sp (.lst (((headT nm hand "" :: ws.map (fun w => wyS w.1 w.2)).map V.str).drop 1)) sp = some (.lst ((ws.map (fun w => wyS w.1 w.2)).map V.str)) := upd_same
  generalize upd H2 sp (.lst (((headT nm hand "" :: ws.map (fun w => wyS w.1 w.2)).map V.str).drop 1)) = H4 at s4 hs4 ⊢
  have hlm : ((ws.map (fun w => wyS w.1 w.2)).map V.str).length = ws.length := by rw [List.length_map, List.length_map]
  refine ⟨sp, rfl, ⟨_, SqL.of hs4⟩, comp_listD (K := K) (a := sp) (xs := (ws.map (fun w => wyS w.1 w.2)).map V.str) (fun i ys H5 => Same H4 H5 ∧ Paired (rSI H5) (ws.take i) ys) ⟨Same.refl _, .nil⟩ (small (m := 1000) (by omega)) (fun i ys H5 hi h => ?_) (fun i x ys H5 hi h => ?_) (fun ys H5 h l hl5 => ?_)⟩
  · exact ⟨SqL.of (h.1 _ _ hs4), by have := h.2.length; rw [List.length_take] at this; omega⟩
  · obtain ⟨s5, pr⟩ := h
    rw [List.getElem?_map, List.getElem?_map] at hi
    obtain ⟨z, hz, rfl⟩ : ∃ z, ws[i]? = some z ∧ x = V.str (wyS z.1 z.2) := by
      cases e : ws[i]? with
      | none => rw [e] at hi; cases hi
      | some z => rw [e] at hi; cases hi; exact ⟨z, rfl, rfl⟩
    obtain ⟨z1, z2⟩ := hw z (List.mem_of_getElem? hz)
    refine comp_yes ?_
    refine ⟨_, rfl, z.1, z.2, rfl, z1, z2, fun t H6 s6 _ ht => ⟨s5.trans s6, ?_⟩⟩
    rw [List.take_add_one, hz]
    exact Paired.app (paired_mono mono_si s6 pr) (.cons ⟨t, rfl, ht⟩ .nil)
  obtain ⟨s5, pr⟩ := h
  rw [hlm, List.take_length] at pr
  have s6 := same_upd hl5 (.lst ys)
  refine ⟨(by show 3 ≤ sizeLine; decide), fun rp hrp => ?_⟩
  have s7 := s6.trans (same_upd hrp (.tup [.str nm, .int hand, .ref l]))
  have s05 := s1.trans (s2.trans (s4.trans s5))
  exact q rp l ys _ (s05.trans s7) ((s05.trans s6).free hrp) upd_same (same_upd hrp _ _ _ upd_same) (paired_mono mono_si s7 pr)
def ppW (names : List Str) (nm : Str) (r : PRow) : List Str := headT nm r.1 "" :: r.2.map fun w => wyS (names.getD w.1.toNat "") w.2
def ppT (names : List Str) (nm : Str) (r : PRow) : Str := Txt.join " " (ppW names nm r)
def ppS (names : List Str) (G : List PRow) : List Str := (names.zip G).map fun p => ppT names p.1 p.2
def pgT (names : List Str) (G : List PRow) : Str := Txt.join "; " (ppS names G)
structure PRowIn (n : Nat) (r : PRow) : Prop where
  h : r.1 = 0 ∨ r.1 = 1
  w : ∀ x ∈ r.2, (0 ≤ x.1 ∧ x.1 < n) ∧ AmtOk x.2
  l : r.2.length ≤ 60
theorem pok_in {n : Nat} {r : PRow} (h : PRowOk n r) : PRowIn n r := ⟨h.1, fun x hx => by
  obtain ⟨a, b, c, d⟩ := h.2.2.1 x hx
  exact ⟨⟨a, b⟩, c, d⟩, h.2.2.2.2⟩
theorem phead_few {nm : Str} {hand : Int} (hn : isName nm = true) : (headT nm hand "").length ≤ 9 ∧ 2 ≤ (headT nm hand "").length ∧ ∀ c ∈ (headT nm hand "").cps.toList, c ≠ 32 ∧ c ≠ 59 := by
  obtain ⟨n1, n2, n3⟩ := name_few hn
  have e1 := str_len nm
  have e2 : (Str.ofString "").cps.toList = [] := rfl
  rw [head_eq, str_len]
  refine ⟨by simp [e2] at *; omega, by simp [e2] at *; omega, fun c hc => ?_⟩
  have hc' : c ∈ nm.cps.toList ∨ c = sgn hand := by simpa [e2] using hc
  rcases hc' with h | h
  · have := n3 c h; omega
  · unfold sgn at h
    split at h <;> omega
theorem pwords_few {names : List Str} {nm : Str} {r : PRow} (hns : NmOk names) (hn : isName nm = true) (hr : PRowIn names.length r) : ∀ x ∈ ppW names nm r, x.length ≤ 70 ∧ ∀ c ∈ x.cps.toList, c ≠ 32 ∧ c ≠ 59 := by
  intro x hx
  rcases List.mem_cons.mp hx with h | h
  · rw [h]
    have := phead_few (hand := r.1) hn
    exact ⟨by omega, this.2.2⟩
  · obtain ⟨y, hy, rfl⟩ := List.mem_map.mp h
    obtain ⟨⟨y0, y1⟩, y2⟩ := hr.w y hy
    obtain ⟨z, _, e, hz⟩ := get_name hns y0 y1
    show (wyS (names.getD y.1.toNat "") y.2).length ≤ 70 ∧ _
    rw [e]
    exact wy_few hz y2
theorem ppl_split {names : List Str} {nm : Str} {r : PRow} (hns : NmOk names) (hn : isName nm = true) (hr : PRowIn names.length r) : Txt.split (ppT names nm r) " " = ppW names nm r :=
  split_join (c := 32) (s := []) rfl (by decide +kernel) (fun z => by cases z) fun p hp z => ((pwords_few hns hn hr p hp).2 32 z).1 rfl
theorem ppl_few {names : List Str} {nm : Str} {r : PRow} (hns : NmOk names) (hn : isName nm = true) (hr : PRowIn names.length r) : (ppT names nm r).length ≤ 4331 ∧ 2 ≤ (ppT names nm r).length ∧ 59 ∉ (ppT names nm r).cps.toList := by
  refine ⟨?_, ?_, fun z => ?_⟩
  · have h1 := join_few (y := " ") (ps := ppW names nm r) (B := 70) fun x hx => (pwords_few hns hn hr x hx).1
    have h2 : (ppW names nm r).length ≤ 61 := by
      have := hr.l
      unfold ppW
      rw [List.length_cons, List.length_map]
      omega
    have e1 : (" " : Str).length = 1 := by decide +kernel
    rw [e1] at h1
    unfold ppT
    omega
  · obtain ⟨_, h2, _⟩ := phead_few (hand := r.1) hn
    unfold ppT ppW
    rw [str_len] at h2 ⊢
    rw [flat_join, List.map_cons]
    generalize (r.2.map fun w => wyS (names.getD w.1.toNat "") w.2).map (fun p => p.cps.toList) = l
    cases l with
    | nil => exact h2
    | cons q l =>
      show 2 ≤ (_ ++ _ ++ flatL _ (q :: l)).length
      rw [List.length_append, List.length_append]
      omega
  · unfold ppT at z
    rw [flat_join] at z
    rcases flat_mem _ _ z with h | ⟨p, hp, h⟩
    · revert h; decide +kernel
    · obtain ⟨x, hx, rfl⟩ := List.mem_map.mp hp
      exact ((pwords_few hns hn hr x hx).2 59 h).2 rfl
theorem pzip_in {names : List Str} {G : List PRow} (hns : NmOk names) (hG : ∀ r ∈ G, PRowIn names.length r) : ∀ p ∈ names.zip G, isName p.1 = true ∧ PRowIn names.length p.2 := fun p hp => by
  have := List.of_mem_zip hp
  exact ⟨hns.nm _ this.1, hG _ this.2⟩
theorem pg_split {names : List Str} {G : List PRow} (hns : NmOk names) (hG : ∀ r ∈ G, PRowIn names.length r) : (if (pgT names G).length = 0 then [] else Txt.split (pgT names G) "; ") = ppS names G := by
  have hz := pzip_in hns hG
  by_cases e : ppS names G = []
  · unfold pgT
    rw [e, if_pos (by decide +kernel)]
  · have hl1 : (pgT names G).length ≠ 0 := by
      unfold pgT
      rw [str_len, flat_join]
      obtain ⟨p, l, he⟩ := List.exists_cons_of_ne_nil e
      have hp : p ∈ ppS names G := by rw [he]; exact List.mem_cons_self
      unfold ppS at hp
      obtain ⟨x, hx, rfl⟩ := List.mem_map.mp hp
      obtain ⟨z1, z2⟩ := hz x hx
      have h2 := (ppl_few hns z1 z2).2.1
      rw [str_len] at h2
      rw [he, List.map_cons]
      generalize l.map (fun p => p.cps.toList) = l'
      cases l' with
      | nil => show (ppT names x.1 x.2).cps.toList.length ≠ 0; omega
      | cons q l =>
        show (_ ++ _ ++ flatL _ (q :: l)).length ≠ 0
        rw [List.length_append, List.length_append]
        omega
    rw [if_neg hl1]
    refine split_join (c := 59) (s := [32]) rfl (by decide +kernel) e fun p hp => ?_
    unfold ppS at hp
    obtain ⟨x, hx, rfl⟩ := List.mem_map.mp hp
    obtain ⟨z1, z2⟩ := hz x hx
    exact (ppl_few hns z1 z2).2.2
theorem pgS_few {names : List Str} {G : List PRow} (hns : NmOk names) (hG : ∀ r ∈ G, PRowIn names.length r) : ∀ x ∈ ppS names G, x.length ≤ 4331 := fun x hx => by
  unfold ppS at hx
  obtain ⟨y, hy, rfl⟩ := List.mem_map.mp hx
  obtain ⟨z1, z2⟩ := pzip_in hns hG y hy
  exact (ppl_few hns z1 z2).1
theorem pg_few {names : List Str} {G : List PRow} (hn : G.length ≤ 16) (hns : NmOk names) (hG : ∀ r ∈ G, PRowIn names.length r) : (pgT names G).length ≤ 100000 := by
  have h1 := join_few (y := "; ") (ps := ppS names G) (B := 4331) (pgS_few hns hG)
  have h2 : (ppS names G).length ≤ 16 := by
    unfold ppS
    rw [List.length_map, List.length_zip]; omega
  have e1 : ("; " : Str).length = 2 := by decide +kernel
  rw [e1] at h1
  unfold pgT
  omega
def nmW (names : List Str) (w : Int × Int) : Str × Int := (names.getD w.1.toNat "", w.2)
def rPPl (names : List Str) : Rel (Str × PRow) := fun H p v => ∃ (t l : Addr) (vs : List V), v = .ref t ∧ H t = some (.tup [.str p.1, .int p.2.1, .ref l]) ∧ H l = some (.lst vs) ∧ Paired (rSI H) (p.2.2.map (nmW names)) vs
theorem mono_ppl (names : List Str) : MonoR (rPPl names) := ⟨fun _ _ p v s h => by
  obtain ⟨t, l, vs, e, h1, h2, h3⟩ := h
  exact ⟨t, l, vs, e, s _ _ h1, s _ _ h2, paired_mono mono_si s h3⟩⟩
def spReadP (K : PySem.W.Frag) : Sp := fun vs H Q _ => ∃ (names : List Str) (G : List PRow), vs = [.str (pgT names G)] ∧ names.length = G.length ∧ NmOk names ∧ PGood G ∧
  ∀ (p n : Addr) (v : V) (H1 H2 H' : Hp), Same H H1 → Same H1 H2 → Same H2 H' → H2 p = none → H' p = some (.tup [.ref n, v]) → H n = none → H1 n = some (.lst (names.map V.str)) → rPG (newp H1 H2) (ptold G) v → Q (.ref p) H'
theorem ok_readP (F : DefAt K mg "read_purses" s_read_purses ["text"]) (T : Txt mg) (D_places_told : Dn P w K mg base "places_told" 2 ["text"] spTold) (D_read_purse_place : Dn P w K mg base "read_purse_place" 5 ["text"] (spPPl K)) (D_numbered : Dn P w K mg base "numbered" 1 ["names"] (spNumbered K)) (D_number_of : Dn P w K mg base "number_of" 1 ["numbers", "name"] spNumOf) (D_purse_game : DnX P w K mg base "purse_game" 6 ["rows"] (spPurse K)) : Dn P w K mg base "read_purses" 7 ["text"] (spReadP K) := by
  have sc := sc_read_purses
  refine F.ok sc (fun vs H Q E h => ?_) (fun f cdv A outer s H vs Q E hr h => ?_)
  · obtain ⟨_, _, rfl, _⟩ := h; rfl
  obtain ⟨names, G, rfl, hl, hns, hgood, q⟩ := h
  have hG : ∀ r ∈ G, PRowIn names.length r := fun r hr => by rw [hl]; exact pok_in (hgood.2 r hr)
  have h16 := hgood.1
  refine ⟨_, (pss_cons (ps_lc (i := 1) (defScope s_read_purses) ["text", "places", "names", "numbers", "rows", "place"] ["part"] 1 [] sc.nd rfl rfl (pi_list (pe_dn D_places_told hr (pa_cons (pv 0) pa_nil))) (fun _ _ _ _ _ _ => (ptg_name (show List.Nodup (["part"] : List Str) by decide +kernel) rfl rfl)) (fun _ _ _ _ _ _ => pts_nil) (fun _ _ _ _ _ _ => (pe_dn D_read_purse_place hr (pa_cons (pv 0) pa_nil))))
      (pss_cons (ps_lc (i := 2) (defScope s_read_purses) ["text", "places", "names", "numbers", "rows", "place"] ["place"] 1 [] sc.nd rfl rfl (pi_list (pv 1)) (fun _ _ _ _ _ _ => (ptg_name (show List.Nodup (["place"] : List Str) by decide +kernel) rfl rfl)) (fun _ _ _ _ _ _ => pts_nil) (fun _ _ _ _ _ _ => (pe_ix (ixT (K := K) rfl) (pv 0) pe_int (fun _ _ => rfl))))
      (pss_cons (ps_set (i := 3) sc.nd rfl (Or.inr rfl) (pe_dn D_numbered hr (pa_cons (pv 2) pa_nil)))
      (pss_cons (ps_set (i := 4) sc.nd rfl (Or.inl rfl) (pe_lst pa_nil))
      (pss_cons (ps_for PassesOwn.never rfl (pi_list (pv 1)) (pg_name (i := 5) sc.nd rfl (Or.inl rfl))
      (pss_one (ps_expr (pe_bm PySem.F.plainAttrs_list PySem.F.slot_list_append PySem.F.type_list_append mt_append (pv 4) (pa_cons (pe_tup (pa_cons (pe_ix (ixT (K := K) rfl) (pv 5) pe_int (fun _ _ => rfl)) (pa_cons (pe_lc (defScope s_read_purses) ["text", "places", "names", "numbers", "rows", "place"] ["name", "amount", "numbers"] 2 [3] (pi_list (pe_ix (ixT (K := K) rfl) (pv 5) pe_int (fun _ _ => rfl))) (fun _ _ _ _ _ _ => (ptg2 (K := K) rfl rfl (show List.Nodup (["name", "amount", "numbers"] : List Str) by decide +kernel) rfl rfl rfl rfl)) (fun _ _ _ _ _ _ => pts_nil) (fun _ _ _ _ _ _ => (pe_tup (pa_cons (pe_dn D_number_of hr (pa_cons (pv 2) (pa_cons (pv 0) pa_nil))) (pa_cons (pv 1) pa_nil))))) pa_nil))) pa_nil)))))
      (pss_one (ps_ret (pe_tup (pa_cons (pv 2) (pa_cons (pe_dnX passX0 D_purse_game hr (pa_cons (pv 4) pa_nil)) pa_nil)))))))))), ?_⟩
  have hzl : (names.zip G).length = G.length := by rw [List.length_zip]; omega
  refine ⟨_, rfl, pgT names G, rfl, pg_few h16 hns hG, fun p0 H0 s0 _ hp0 => ?_⟩
  rw [pg_split hns hG] at hp0
  have hpl : ((ppS names G).map V.str).length = G.length := by unfold ppS; rw [List.length_map, List.length_map, hzl]
  refine ⟨p0, rfl, ⟨_, SqL.of hp0⟩, comp_listD (K := K) (a := p0) (xs := (ppS names G).map V.str) (fun i ys H2 => Same H0 H2 ∧ Paired (rPPl names H2) ((names.zip G).take i) ys) ⟨Same.refl _, .nil⟩ (small (m := 1000) (by omega)) (fun i ys H2 hi h => ?_) (fun i x ys H2 hi h => ?_) (fun ys H2 h pl hpl2 => ?_)⟩
  · exact ⟨SqL.of (h.1 _ _ hp0), by have := h.2.length; rw [List.length_take] at this; omega⟩
  · obtain ⟨s2, pr⟩ := h
    have hil : i < (names.zip G).length := by have := (List.getElem?_eq_some_iff.mp hi).1; omega
    obtain ⟨⟨nm, r⟩, hz⟩ : ∃ p, (names.zip G)[i]? = some p := ⟨(names.zip G)[i], List.getElem?_eq_getElem hil⟩
    obtain ⟨hn, hr⟩ : isName nm = true ∧ PRowIn names.length r := pzip_in hns hG _ (List.mem_of_getElem? hz)
    have ex : x = V.str (ppT names nm r) := by
      unfold ppS at hi
      rw [List.getElem?_map, List.getElem?_map, hz] at hi
      exact (Option.some.inj hi).symm
    subst ex
    refine comp_yes ?_
    refine ⟨_, rfl, ppT names nm r, nm, r.1, r.2.map (nmW names), rfl, by have := (ppl_few hns hn hr).1; omega, ?_, hr.h, hn, fun x hx => ?_, by rw [List.length_map]; have := hr.l; omega, fun t l vs H3 s3 _ ht hl3 prw => ⟨s2.trans s3, ?_⟩⟩
    · rw [ppl_split hns hn hr, List.map_map]; rfl
    · obtain ⟨y, hy, rfl⟩ := List.mem_map.mp hx
      obtain ⟨⟨y0, y1⟩, y2⟩ := hr.w y hy
      obtain ⟨z, _, e, hz⟩ := get_name hns y0 y1
      show isName (names.getD y.1.toNat "") = true ∧ AmtOk y.2
      rw [e]; exact ⟨hz, y2⟩
    · rw [List.take_add_one, hz]
      exact Paired.app (paired_mono (mono_ppl names) s3 pr) (.cons ⟨t, l, vs, rfl, ht, hl3, prw⟩ .nil)
  obtain ⟨s2, pr⟩ := h
  rw [hpl, ← hzl, List.take_length] at pr
  have s3 := s0.trans (s2.trans (same_upd hpl2 (.lst ys)))
  have hpl3 : upd H2 pl (.lst ys) pl = some (.lst ys) := upd_same
  replace pr := paired_mono (mono_ppl names) (same_upd hpl2 (.lst ys)) pr
  generalize upd H2 pl (.lst ys) = H3 at s3 hpl3 pr ⊢
  have hyl : ys.length = G.length := by rw [← pr.length, hzl]
  refine ⟨_, rfl, pl, rfl, ⟨_, SqL.of hpl3⟩, comp_listD (K := K) (a := pl) (xs := ys) (fun i zs H4 => H4 = H3 ∧ zs = (names.take i).map V.str) ⟨rfl, rfl⟩ (small (m := 1000) (by omega)) (fun i zs H4 hi h => ?_) (fun i x zs H4 hi h => ?_) (fun zs H4 h na hna => ?_)⟩
  · obtain ⟨rfl, rfl⟩ := h
    exact ⟨SqL.of hpl3, by simp; omega⟩
  · obtain ⟨rfl, rfl⟩ := h
    have hil : i < (names.zip G).length := by have := (List.getElem?_eq_some_iff.mp hi).1; omega
    obtain ⟨⟨nm, r⟩, hz⟩ : ∃ p, (names.zip G)[i]? = some p := ⟨(names.zip G)[i], List.getElem?_eq_getElem hil⟩
    obtain ⟨x', hx', t, l, wvs, rfl, ht, _⟩ := Paired.at pr hz
    rw [hi] at hx'; cases hx'
    have hnm : names[i]? = some nm := (List.getElem?_zip_eq_some.mp hz).1
    refine comp_yes ?_
    refine ⟨_, rfl, t, _, _, _, rfl, rfl, SqT.of ht, atI_nat (j := 0) rfl, rfl, ?_⟩
    rw [List.take_add_one, hnm, List.map_append]; rfl
  obtain ⟨rfl, rfl⟩ := h
  rw [hyl, ← hl, List.take_length]
  have s4 := same_upd hna (.lst (names.map V.str))
  have hn4 : upd H4 na (.lst (names.map V.str)) na = some (.lst (names.map V.str)) := upd_same
  have na0 := s3.free hna
  replace pr := paired_mono (mono_ppl names) s4 pr
  have hpl4 := s4 _ _ hpl3
  replace s4 := s3.trans s4
  generalize upd H4 na (.lst (names.map V.str)) = H5 at s4 hn4 pr hpl4 ⊢
  refine ⟨_, rfl, na, names, rfl, SqL.of hn4, hns.nd, by omega, fun dp H6 s6 _ hd6 => ?_⟩
  refine ⟨Nat.zero_le _, fun g hg => ?_⟩
  have hpl6 := s6 _ _ hpl4
  refine ⟨_, rfl, pl, rfl, ⟨_, SqL.of (same_upd hg _ _ _ hpl6)⟩, for_list (K := K) (a := pl) (xs := ys) (fun i σ H7 => ∃ y : Option V, σ = [some (.str (pgT names G)), some (.ref pl), some (.ref na), some (.ref dp), some (.ref g), y] ∧ Bld rPR H6 H7 g (G.take i))
    ⟨_, rfl, Bld.start (Same.refl _) hg⟩ (fun i σ H7 _ h => ?_) (fun i x σ H7 hi h => ?_) (fun σ H7 h => ?_)⟩
  · obtain ⟨_, _, b⟩ := h
    exact SqL.of (b.s _ _ hpl6)
  · obtain ⟨y, rfl, b⟩ := h
    have hil : i < (names.zip G).length := by have := (List.getElem?_eq_some_iff.mp hi).1; omega
    obtain ⟨⟨nm, r⟩, hz⟩ : ∃ p, (names.zip G)[i]? = some p := ⟨(names.zip G)[i], List.getElem?_eq_getElem hil⟩
    obtain ⟨x', hx', t, l, wvs, rfl, ht, hl4, prw⟩ := Paired.at pr hz
    rw [hi] at hx'; cases hx'
    have hrG : G[i]? = some r := (List.getElem?_zip_eq_some.mp hz).2
    have hr := hG r (List.mem_of_getElem? hrG)
    have s7 := s6.trans b.s
    have ht7 := s7 _ _ ht
    have hl7 := s7 _ _ hl4
    have hd7 := b.s _ _ hd6
    replace prw := paired_mono mono_si s7 prw
    have hwl : wvs.length = r.2.length := by rw [← prw.length, List.length_map]
    have h60 := hr.l
    obtain ⟨gvs, hgv, _⟩ := b.sq
    refine ⟨_, rfl, .inl ⟨rfl, _, SqL.of hgv⟩, _, rfl, t, _, _, _, rfl, rfl, SqT.of ht7, atI_nat (j := 1) rfl, _, rfl, t, _, _, _, rfl, rfl, SqT.of ht7, atI_nat (j := 2) rfl, l, rfl, ⟨_, SqL.of hl7⟩, comp_listD (K := K) (a := l) (xs := wvs) (fun k zs H8 => ∃ us : List (Addr × Int × Int), Same H7 H8 ∧ zs = us.map (fun u => V.ref u.1) ∧ us.map (fun u => u.2) = r.2.take k ∧ ∀ u ∈ us, newp H7 H8 u.1 = some (.tup [.int u.2.1, .int u.2.2])) ⟨[], Same.refl _, rfl, rfl, fun _ z => by cases z⟩ (small (m := 1000) (by omega)) (fun k zs H8 hk h => ?_) (fun k x zs H8 hk h => ?_) (fun zs H8 h wp hwp => ?_)⟩
    · obtain ⟨us, s8, rfl, e2, _⟩ := h
      refine ⟨SqL.of (s8 _ _ hl7), ?_⟩
      have := congrArg List.length e2
      rw [List.length_map, List.length_take] at this
      rw [List.length_map]; omega
    · obtain ⟨us, s8, rfl, e2, e3⟩ := h
      have hkl : k < r.2.length := by have := (List.getElem?_eq_some_iff.mp hk).1; omega
      obtain ⟨wz, hwz⟩ : ∃ wz, r.2[k]? = some wz := ⟨r.2[k], by simp⟩
      obtain ⟨x', hx', t3, rfl, ht3⟩ := Paired.at prw (show (r.2.map (nmW names))[k]? = some (nmW names wz) by rw [List.getElem?_map, hwz]; rfl)
      rw [hk] at hx'; cases hx'
      have hzr := (hr.w wz (List.mem_of_getElem? hwz)).1
      refine comp_yesT (SqT.of (s8 _ _ ht3)) rfl ?_
      refine ⟨_, rfl, _, rfl, dp, numKV names, _, wz.1, rfl, s8 _ _ hd7, num_val hns.nd hzr.1 hzr.2, _, rfl, (by show 2 ≤ sizeLine; decide), fun t2 ht2 => ?_⟩
      refine ⟨us ++ [(t2, wz)], s8.trans (same_upd ht2 _), by simp, by rw [List.map_append, e2, List.take_add_one, hwz]; rfl, fun u hu => ?_⟩
      rcases List.mem_append.mp hu with h | h
      · exact newp_in (same_upd ht2 _) _ _ (e3 u h)
      · rw [List.mem_singleton.mp h]
        rw [newp_at (s8.free ht2), upd_same]; rfl
    obtain ⟨us, s8, rfl, e2, e3⟩ := h
    rw [hwl, List.take_length] at e2
    refine ⟨(by show 2 ≤ sizeLine; decide), fun t2 ht2 => ?_⟩
    have sw := same_upd hwp (.lst (us.map fun u => V.ref u.1))
    have sx := sw.trans (same_upd ht2 (.tup [.int r.1, .ref wp]))
    have hne : wp ≠ t2 := fun z => by rw [← z, upd_same] at ht2; cases ht2
    have W : WaysAt (newp H7 (upd (upd H8 wp (.lst (us.map fun u => V.ref u.1))) t2 (.tup [.int r.1, .ref wp]))) wp us := by
      refine ⟨by rw [newp_at (s8.free hwp), upd_ne hne, upd_same], fun u hu => ?_⟩
      exact newp_in sx _ _ (e3 u hu)
    have R := W.rel
    rw [e2] at R
    have hrow : rPR (newp H7 (upd (upd H8 wp (.lst (us.map fun u => V.ref u.1))) t2 (.tup [.int r.1, .ref wp]))) r (.ref t2) := ⟨t2, _, _, rfl, by rw [newp_at ((s8.trans sw).free ht2), upd_same], rfl, R⟩
    obtain ⟨vs4, k1, k2, b4⟩ := b.push mono_pr (s8.trans sx) hrow
    refine ⟨g, vs4, _, rfl, rfl, k1, (smlt (m := 1000) (by rw [k2, List.length_take]; omega)), ?_⟩
    refine ⟨_, rfl, ?_⟩
    rw [List.take_add_one, hrG]
    exact b4
  obtain ⟨y, rfl, b⟩ := h
  rw [hyl, List.take_length] at b
  have hgm : rPG H7 G (.ref g) := mono_pg.up (newp_same _ _) (b.done mono_pr)
  refine ⟨_, rfl, _, rfl, .ref g, G, rfl, hgm, by omega, .inr ⟨hgood, fun g8 gv8 H8 s8 hg8 pr8 => ?_⟩⟩
  refine ⟨(by show 2 ≤ sizeLine; decide), fun rp hrp => ?_⟩
  have sg := same_upd hg8 (.lst gv8)
  exact q rp na (.ref g8) H7 _ _ (s4.trans (s6.trans b.s)) (s8.trans sg) (same_upd hrp _) hrp upd_same na0 (b.s _ _ (s6 _ _ hn4)) ⟨g8, gv8, rfl, by rw [newp_at (s8.free hg8), upd_same], paired_mono mono_pr (newp_in sg) pr8⟩
theorem head_is0 (nm : Str) (hand : Int) : nm ++ ⟨#[sgn hand]⟩ = headT nm hand "" := by
  rw [← head_is]
  refine (str_list (app_list _ _)).trans (Eq.symm ?_)
  refine (str_list (app_list _ _)).trans ?_
  rw [app_list]
  have e : (Str.ofString "").cps.toList = [] := rfl
  rw [e, List.append_nil]
theorem log_amt {z : Int} (h : AmtOk z) : z.natAbs.log2 < 1920 := by
  by_cases e : z.natAbs = 0
  · rw [e]; decide
  · refine (Nat.log2_lt e).mpr (Nat.lt_trans (amt_abs h) ?_)
    calc (10 : Nat) ^ 60 < 16 ^ 60 := by decide +kernel
      _ = 2 ^ 240 := by decide +kernel
      _ ≤ 2 ^ 1920 := Nat.pow_le_pow_right (by decide) (by decide)
def spShowP (K : PySem.W.Frag) : Sp := fun vs H Q _ => ∃ (na : Addr) (v : V) (names : List Str) (G : List PRow), vs = [.ref na, v] ∧ SqL K H na (names.map V.str) ∧ rPG H G v ∧ names.length = G.length ∧ G.length ≤ 16 ∧ NmOk names ∧ (∀ r ∈ G, PRowIn names.length r) ∧ ∀ H', Same H H' → Q (.str (pgT names G)) H'
theorem ok_shownP (F : DefAt K mg "shown_purses" s_shown_purses ["names", "game"]) (T : Txt mg) : Dn P w K mg base "shown_purses" 1 ["names", "game"] (spShowP K) := by
  have sc := sc_shown_purses
  refine F.ok sc (fun vs H Q E h => ?_) (fun f cdv A outer s H vs Q E hr h => ?_)
  · obtain ⟨_, _, _, _, rfl, _⟩ := h; rfl
  obtain ⟨na, v, names, G, rfl, hS, hGm, hl, h16, hns, hG, q⟩ := h
  obtain ⟨g0, gv, rfl, hg0, hgl, hrow⟩ := pg_parts hGm
  refine ⟨_, (pss_cons (ps_set (i := 2) sc.nd rfl (Or.inl rfl) (pe_lst pa_nil))
      (pss_cons (ps_for PassesOwn.never rfl (pi_zip (K := K) rfl rfl T.b_zip (pa_cons (pv 0) (pa_cons (pv 1) pa_nil))) (pg_tup rfl (pgs_cons (pg_name (i := 3) sc.nd rfl (Or.inl rfl)) (pgs_cons (pg_name (i := 4) sc.nd rfl (Or.inl rfl)) pgs_nil)))
      (pss_cons (ps_set (i := 5) sc.nd rfl (Or.inl rfl) (pe_op op_add_str (pv 3) (pe_ix ix_str (pe_gstr T.g_HAND_SIGNS) (pe_ix (ixT (K := K) rfl) (pv 4) pe_int (fun _ _ => rfl)) (fun _ _ => rfl))))
      (pss_one (ps_expr (pe_bm PySem.F.plainAttrs_list PySem.F.slot_list_append PySem.F.type_list_append mt_append (pv 2) (pa_cons (pe_bm PySem.F.plainAttrs_str PySem.F.slot_str_join PySem.F.type_str_join mt_join pe_str (pa_cons (pe_op op_cat (pe_lst (pa_cons (pv 5) pa_nil)) (pe_lc (defScope s_shown_purses) ["names", "game", "texts", "name", "row", "head"] ["place", "amount", "names"] 2 [0] (pi_list (pe_ix (ixT (K := K) rfl) (pv 4) pe_int (fun _ _ => rfl))) (fun _ _ _ _ _ _ => (ptg2 (K := K) rfl rfl (show List.Nodup (["place", "amount", "names"] : List Str) by decide +kernel) rfl rfl rfl rfl)) (fun _ _ _ _ _ _ => pts_nil) (fun _ _ _ _ _ _ => (pe_op op_add_str (pe_op op_add_str (pe_ix (ixL (K := K) rfl) (pv 2) (pv 0) (fun _ _ => rfl)) pe_str) (pe_callTy call_str_int rfl T.b_str PyProof.Rows.boot_str (pa_cons (pv 1) pa_nil)))))) pa_nil)) pa_nil))))))
      (pss_one (ps_ret (pe_bm PySem.F.plainAttrs_str PySem.F.slot_str_join PySem.F.type_str_join mt_join pe_str (pa_cons (pv 2) pa_nil)))))), ?_⟩
  have hzl : (names.zip G).length = G.length := by rw [List.length_zip]; omega
  have hpl : (ppS names G).length = G.length := by unfold ppS; rw [List.length_map, hzl]
  have hnl : (names.map V.str).length = names.length := List.length_map _
  refine ⟨Nat.zero_le _, fun g hg => ?_⟩
  have sg := same_upd hg (.lst [])
  refine ⟨_, rfl, _, rfl, na, g0, rfl, ⟨_, sg.seq hS⟩, ⟨_, SqL.of (sg _ _ hg0)⟩, for_zip (K := K) (a := na) (b := g0) (xs := names.map V.str) (ys := gv) (by omega) (fun i σ H2 => (∃ y1 y2 y3 : Option V, σ = [some (.ref na), some (.ref g0), some (.ref g), y1, y2, y3]) ∧ Same H H2 ∧ H2 g = some (.lst (((ppS names G).take i).map V.str)))
    ⟨⟨_, _, _, rfl⟩, sg, upd_same⟩ (fun i σ H2 _ h => ⟨h.2.1.seq hS, SqL.of (h.2.1 _ _ hg0)⟩) (fun i x y σ H2 Tt hi hj h hT => ?_) (fun σ H2 h => ?_)⟩
  · obtain ⟨⟨y1, y2, y3, rfl⟩, s2, hg2⟩ := h
    have hil : i < G.length := by have := (List.getElem?_eq_some_iff.mp hj).1; omega
    obtain ⟨row, hrw⟩ : ∃ row, G[i]? = some row := ⟨G[i], by simp⟩
    obtain ⟨t, wa, ts, p1, p2, p3, p4⟩ := hrow i row hrw
    rw [hj] at p1; cases p1
    obtain ⟨nm, hnm⟩ : ∃ nm, names[i]? = some nm := ⟨names[i]'(by omega), by simp⟩
    rw [List.getElem?_map, hnm] at hi
    cases hi
    have hn := hns.nm nm (List.mem_of_getElem? hnm)
    have hr := hG row (List.mem_of_getElem? hrw)
    obtain ⟨n1, n2, n3⟩ := name_few hn
    have htl : ts.length = row.2.length := by rw [← p4, List.length_map]
    have hrl := hr.l
    have hps : (ppS names G)[i]? = some (ppT names nm row) := by
      unfold ppS
      rw [List.getElem?_map, List.getElem?_zip_eq_some (z := (nm, row)) |>.mpr ⟨hnm, hrw⟩]; rfl
    have s3 := s2.trans (same_upd hT (.tup [.str nm, .ref t]))
    have hg3 := same_upd hT (.tup [.str nm, .ref t]) _ _ hg2
    refine ⟨Tt, _, rfl, SqT.of upd_same, rfl, _, _, rfl, _, _, rfl, rfl, ?_⟩
    have hT3 : upd H2 Tt (.tup [.str nm, .ref t]) Tt = some (.tup [.str nm, .ref t]) := upd_same
    generalize upd H2 Tt (.tup [.str nm, .ref t]) = H3 at s3 hg3 hT3 ⊢
    have p2' := s3 _ _ p2
    have p3' := p3.up s3
    have hat : atI (("+-" : Str).cps.toList) row.1 = some (sgn row.1) := by rcases hr.h with e | e <;> rw [e] <;> rfl
    have l1 : ∀ c : Nat, (⟨#[c]⟩ : Str).length = 1 := fun _ => rfl
    have l2 : (Str.ofString ":").length = 1 := by decide +kernel
    refine ⟨_, rfl, _, rfl, t, _, _, _, rfl, rfl, SqT.of p2', atI_nat (j := 0) rfl, "+-", row.1, sgn row.1, rfl, rfl, (by decide +kernel), hat, nm, _, rfl, rfl, small (m := 1000) (by rw [l1]; omega), ?_⟩
    rw [head_is0]
    refine ⟨_, rfl, .inl ⟨rfl, _, SqL.of hg3⟩, rfl, _, rfl, (by show 1 ≤ sizeLine; decide), fun hp0 hhp0 => ?_⟩
    have s4 := same_upd hhp0 (.lst [V.str (headT nm row.1 "")])
    have hh0 : upd H3 hp0 (.lst [V.str (headT nm row.1 "")]) hp0 = some (.lst [V.str (headT nm row.1 "")]) := upd_same
    generalize upd H3 hp0 (.lst [V.str (headT nm row.1 "")]) = H4 at s4 hh0 ⊢
    refine ⟨_, rfl, t, _, _, _, rfl, rfl, SqT.of (s4 _ _ p2'), atI_nat (j := 1) rfl, wa, rfl, ⟨_, SqL.of (p3'.up s4).1⟩, comp_listD (K := K) (a := wa) (xs := ts.map fun t => V.ref t.1) (fun k zs H8 => H8 = H4 ∧ zs = ((row.2.take k).map fun w => wyS (names.getD w.1.toNat "") w.2).map V.str) ⟨rfl, rfl⟩ (small (m := 1000) (by rw [List.length_map]; omega)) (fun k zs H8 hk h => ?_) (fun k x zs H8 hk h => ?_) (fun zs H8 h wp hwp => ?_)⟩
    · obtain ⟨rfl, rfl⟩ := h
      exact ⟨SqL.of (p3'.up s4).1, by simp; omega⟩
    · obtain ⟨rfl, rfl⟩ := h
      obtain ⟨u, hu, rfl⟩ := pair_at hk
      have hut := (p3'.up s4).2 u (List.mem_of_getElem? hu)
      have hz : row.2[k]? = some u.2 := by rw [← p4, List.getElem?_map, hu]; rfl
      obtain ⟨hzr, hza⟩ := hr.w u.2 (List.mem_of_getElem? hz)
      obtain ⟨nz, hnz, enz, hnzn⟩ := get_name hns hzr.1 hzr.2
      obtain ⟨z1, z2, z3⟩ := name_few hnzn
      have hia := (int_signs hza).1
      refine comp_yesT (SqT.of hut) rfl ?_
      refine ⟨_, rfl, _, rfl, na, _, _, _, rfl, rfl, (s3.trans s4).seq hS, atI_i hzr.1 (by rw [List.getElem?_map, hnz]; rfl), nz, _, rfl, rfl, small (m := 1000) (by rw [l2]; omega), _, rfl, u.2.2, rfl, log_amt hza, _, _, rfl, rfl, small (m := 1000) (by rw [app_len, l2]; show _ + (intS u.2.2).length ≤ _; omega), rfl, ?_⟩
      rw [List.take_add_one, hz, List.map_append, List.map_append]
      show _ = _ ++ [V.str (wyS (names.getD u.2.1.toNat "") u.2.2)]
      rw [enz]; rfl
    obtain ⟨rfl, rfl⟩ := h
    rw [List.length_map, htl, List.take_length]
    refine ⟨hp0, wp, _, _, rfl, rfl, same_upd hwp _ _ _ hh0, upd_same, small (m := 1000) (by rw [List.length_map, List.length_map]; simp; omega), fun jp hjp => ?_⟩
    have s6 := s4.trans ((same_upd hwp (.lst ((row.2.map fun w => wyS (names.getD w.1.toNat "") w.2).map V.str))).trans (same_upd hjp (.lst ([V.str (headT nm row.1 "")] ++ (row.2.map fun w => wyS (names.getD w.1.toNat "") w.2).map V.str))))
    refine ⟨" ", jp, ppW names nm row, rfl, rfl, SqL.of upd_same, (by decide +kernel), ?_, ?_⟩
    · have h1 := sum_le 70 (ppW names nm row) fun x hx => (pwords_few hns hn hr x hx).1
      have h2 : (ppW names nm row).length ≤ 61 := by
        unfold ppW
        rw [List.length_cons, List.length_map]
        omega
      omega
    refine ⟨g, _, _, rfl, rfl, s6 _ _ hg3, smlt (m := 1000) (by rw [List.length_map, List.length_take]; omega), ?_⟩
    refine ⟨⟨_, _, _, rfl⟩, (s3.trans s6).put hg _, ?_⟩
    rw [upd_same, List.take_add_one, hps, List.map_append]; rfl
  obtain ⟨⟨y1, y2, y3, rfl⟩, s2, hg2⟩ := h
  rw [hnl, hl, ← hpl, List.take_length] at hg2
  refine ⟨rfl, _, rfl, "; ", g, ppS names G, rfl, rfl, SqL.of hg2, (by decide +kernel), ?_, q _ s2⟩
  have h1 := sum_le 4331 (ppS names G) (pgS_few hns hG)
  omega
theorem ok_text (F : DefAt K mg "_law_text" s_law_text ["_law_names_here", "_law_rows_here"]) (T : Txt mg) : Dn P w K mg base "_law_text" 1 ["_law_names_here", "_law_rows_here"] (spShowP K) := by
  have sc := sc_law_text
  refine F.ok sc (fun vs H Q E h => ?_) (fun f cdv A outer s H vs Q E hr h => ?_)
  · obtain ⟨_, _, _, _, rfl, _⟩ := h; rfl
  obtain ⟨na, v, names, G, rfl, hS, hGm, hl, h16, hns, hG, q⟩ := h
  obtain ⟨g0, gv, rfl, hg0, hgl, hrow⟩ := pg_parts hGm
  refine ⟨_, (pss_cons (ps_set (i := 2) sc.nd rfl (Or.inl rfl) (pe_lst pa_nil))
      (pss_cons (ps_for PassesOwn.never rfl (pi_zip (K := K) rfl rfl T.b_zip (pa_cons (pv 0) (pa_cons (pv 1) pa_nil))) (pg_tup rfl (pgs_cons (pg_name (i := 3) sc.nd rfl (Or.inl rfl)) (pgs_cons (pg_name (i := 4) sc.nd rfl (Or.inl rfl)) pgs_nil)))
      (pss_cons (ps_lc (i := 5) (defScope s_law_text) ["_law_names_here", "_law_rows_here", "_law_parts", "_law_name", "_law_row", "_law_words"] ["_law_way", "_law_names_here"] 1 [0] sc.nd rfl rfl (pi_list (pe_ix (ixT (K := K) rfl) (pv 4) pe_int (fun _ _ => rfl))) (fun _ _ _ _ _ _ => (ptg_name (show List.Nodup (["_law_way", "_law_names_here"] : List Str) by decide +kernel) rfl rfl)) (fun _ _ _ _ _ _ => pts_nil) (fun _ _ _ _ _ _ => (pe_op op_add_str (pe_op op_add_str (pe_ix (ixL (K := K) rfl) (pv 1) (pe_ix (ixT (K := K) rfl) (pv 0) pe_int (fun _ _ => rfl)) (fun _ _ => rfl)) pe_str) (pe_callTy call_str_int rfl T.b_str PyProof.Rows.boot_str (pa_cons (pe_ix (ixT (K := K) rfl) (pv 0) pe_int (fun _ _ => rfl)) pa_nil)))))
      (pss_one (ps_expr (pe_bm PySem.F.plainAttrs_list PySem.F.slot_list_append PySem.F.type_list_append mt_append (pv 2) (pa_cons (pe_bm PySem.F.plainAttrs_str PySem.F.slot_str_join PySem.F.type_str_join mt_join pe_str (pa_cons (pe_op op_cat (pe_lst (pa_cons (pe_op op_add_str (pv 3) (pe_ix ix_str pe_str (pe_ix (ixT (K := K) rfl) (pv 4) pe_int (fun _ _ => rfl)) (fun _ _ => rfl))) pa_nil)) (pv 5)) pa_nil)) pa_nil))))))
      (pss_one (ps_ret (pe_bm PySem.F.plainAttrs_str PySem.F.slot_str_join PySem.F.type_str_join mt_join pe_str (pa_cons (pv 2) pa_nil)))))), ?_⟩
  have hzl : (names.zip G).length = G.length := by rw [List.length_zip]; omega
  have hpl : (ppS names G).length = G.length := by unfold ppS; rw [List.length_map, hzl]
  have hnl : (names.map V.str).length = names.length := List.length_map _
  refine ⟨Nat.zero_le _, fun g hg => ?_⟩
  have sg := same_upd hg (.lst [])
  refine ⟨_, rfl, _, rfl, na, g0, rfl, ⟨_, sg.seq hS⟩, ⟨_, SqL.of (sg _ _ hg0)⟩, for_zip (K := K) (a := na) (b := g0) (xs := names.map V.str) (ys := gv) (by omega) (fun i σ H2 => (∃ y1 y2 y3 : Option V, σ = [some (.ref na), some (.ref g0), some (.ref g), y1, y2, y3]) ∧ Same H H2 ∧ H2 g = some (.lst (((ppS names G).take i).map V.str)))
    ⟨⟨_, _, _, rfl⟩, sg, upd_same⟩ (fun i σ H2 _ h => ⟨h.2.1.seq hS, SqL.of (h.2.1 _ _ hg0)⟩) (fun i x y σ H2 Tt hi hj h hT => ?_) (fun σ H2 h => ?_)⟩
  · obtain ⟨⟨y1, y2, y3, rfl⟩, s2, hg2⟩ := h
    have hil : i < G.length := by have := (List.getElem?_eq_some_iff.mp hj).1; omega
    obtain ⟨row, hrw⟩ : ∃ row, G[i]? = some row := ⟨G[i], by simp⟩
    obtain ⟨t, wa, ts, p1, p2, p3, p4⟩ := hrow i row hrw
    rw [hj] at p1; cases p1
    obtain ⟨nm, hnm⟩ : ∃ nm, names[i]? = some nm := ⟨names[i]'(by omega), by simp⟩
    rw [List.getElem?_map, hnm] at hi
    cases hi
    have hn := hns.nm nm (List.mem_of_getElem? hnm)
    have hr := hG row (List.mem_of_getElem? hrw)
    obtain ⟨n1, n2, n3⟩ := name_few hn
    have htl : ts.length = row.2.length := by rw [← p4, List.length_map]
    have hrl := hr.l
    have hps : (ppS names G)[i]? = some (ppT names nm row) := by
      unfold ppS
      rw [List.getElem?_map, List.getElem?_zip_eq_some (z := (nm, row)) |>.mpr ⟨hnm, hrw⟩]; rfl
    have s3 := s2.trans (same_upd hT (.tup [.str nm, .ref t]))
    have hg3 := same_upd hT (.tup [.str nm, .ref t]) _ _ hg2
    refine ⟨Tt, _, rfl, SqT.of upd_same, rfl, _, _, rfl, _, _, rfl, rfl, ?_⟩
    have hT3 : upd H2 Tt (.tup [.str nm, .ref t]) Tt = some (.tup [.str nm, .ref t]) := upd_same
    generalize upd H2 Tt (.tup [.str nm, .ref t]) = H3 at s3 hg3 hT3 ⊢
    have p2' := s3 _ _ p2
    have p3' := p3.up s3
    have hat : atI (("+-" : Str).cps.toList) row.1 = some (sgn row.1) := by rcases hr.h with e | e <;> rw [e] <;> rfl
    have l1 : ∀ c : Nat, (⟨#[c]⟩ : Str).length = 1 := fun _ => rfl
    have l2 : (Str.ofString ":").length = 1 := by decide +kernel
    refine ⟨_, rfl, t, _, _, _, rfl, rfl, SqT.of ((Same.refl _) _ _ p2'), atI_nat (j := 1) rfl, wa, rfl, ⟨_, SqL.of (p3'.up (Same.refl _)).1⟩, comp_listD (K := K) (a := wa) (xs := ts.map fun t => V.ref t.1) (fun k zs H8 => H8 = H3 ∧ zs = ((row.2.take k).map fun w => wyS (names.getD w.1.toNat "") w.2).map V.str) ⟨rfl, rfl⟩ (small (m := 1000) (by rw [List.length_map]; omega)) (fun k zs H8 hk h => ?_) (fun k x zs H8 hk h => ?_) (fun zs H8 h wp hwp => ?_)⟩
    · obtain ⟨rfl, rfl⟩ := h
      exact ⟨SqL.of (p3'.up (Same.refl _)).1, by simp; omega⟩
    · obtain ⟨rfl, rfl⟩ := h
      obtain ⟨u, hu, rfl⟩ := pair_at hk
      have hut := (p3'.up (Same.refl _)).2 u (List.mem_of_getElem? hu)
      have hz : row.2[k]? = some u.2 := by rw [← p4, List.getElem?_map, hu]; rfl
      obtain ⟨hzr, hza⟩ := hr.w u.2 (List.mem_of_getElem? hz)
      obtain ⟨nz, hnz, enz, hnzn⟩ := get_name hns hzr.1 hzr.2
      obtain ⟨z1, z2, z3⟩ := name_few hnzn
      have hia := (int_signs hza).1
      refine comp_yes ?_
      refine ⟨_, rfl, _, rfl, u.1, _, _, _, rfl, rfl, SqT.of hut, atI_nat (j := 0) rfl, na, _, _, _, rfl, rfl, (s3.trans (Same.refl _)).seq hS, atI_i hzr.1 (by rw [List.getElem?_map, hnz]; rfl), nz, _, rfl, rfl, small (m := 1000) (by rw [l2]; omega), _, rfl, u.1, _, _, _, rfl, rfl, SqT.of hut, atI_nat (j := 1) rfl, u.2.2, rfl, log_amt hza, _, _, rfl, rfl, small (m := 1000) (by rw [app_len, l2]; show _ + (intS u.2.2).length ≤ _; omega), rfl, ?_⟩
      rw [List.take_add_one, hz, List.map_append, List.map_append]
      show _ = _ ++ [V.str (wyS (names.getD u.2.1.toNat "") u.2.2)]
      rw [enz]; rfl
    obtain ⟨rfl, rfl⟩ := h
    rw [List.length_map, htl, List.take_length]
    have sw := same_upd hwp (.lst ((row.2.map fun w => wyS (names.getD w.1.toNat "") w.2).map V.str))
    have hw4 : upd H8 wp (.lst ((row.2.map fun w => wyS (names.getD w.1.toNat "") w.2).map V.str)) wp = some (.lst ((row.2.map fun w => wyS (names.getD w.1.toNat "") w.2).map V.str)) := upd_same
    generalize upd H8 wp (.lst ((row.2.map fun w => wyS (names.getD w.1.toNat "") w.2).map V.str)) = H4 at sw hw4 ⊢
    refine ⟨_, rfl, .inl ⟨rfl, _, SqL.of (sw _ _ hg3)⟩, rfl, _, rfl, _, rfl, t, _, _, _, rfl, rfl, SqT.of (sw _ _ p2'), atI_nat (j := 0) rfl, "+-", row.1, sgn row.1, rfl, rfl, (by decide +kernel), hat, nm, _, rfl, rfl, small (m := 1000) (by rw [l1]; omega), (by show 1 ≤ sizeLine; decide), fun hp0 hhp0 => ?_⟩
    rw [head_is0]
    have s4 := same_upd hhp0 (.lst [V.str (headT nm row.1 "")])
    have hh0 : upd H4 hp0 (.lst [V.str (headT nm row.1 "")]) hp0 = some (.lst [V.str (headT nm row.1 "")]) := upd_same
    generalize upd H4 hp0 (.lst [V.str (headT nm row.1 "")]) = H5 at s4 hh0 ⊢
    refine ⟨_, rfl, hp0, wp, _, _, rfl, rfl, hh0, s4 _ _ hw4, small (m := 1000) (by rw [List.length_map, List.length_map]; simp; omega), fun jp hjp => ?_⟩
    have s6 := sw.trans (s4.trans (same_upd hjp (.lst ([V.str (headT nm row.1 "")] ++ (row.2.map fun w => wyS (names.getD w.1.toNat "") w.2).map V.str))))
    refine ⟨" ", jp, ppW names nm row, rfl, rfl, SqL.of upd_same, (by decide +kernel), ?_, ?_⟩
    · have h1 := sum_le 70 (ppW names nm row) fun x hx => (pwords_few hns hn hr x hx).1
      have h2 : (ppW names nm row).length ≤ 61 := by
        unfold ppW
        rw [List.length_cons, List.length_map]
        omega
      omega
    refine ⟨g, _, _, rfl, rfl, s6 _ _ hg3, smlt (m := 1000) (by rw [List.length_map, List.length_take]; omega), ?_⟩
    refine ⟨⟨_, _, _, rfl⟩, (s3.trans s6).put hg _, ?_⟩
    rw [upd_same, List.take_add_one, hps, List.map_append]; rfl
  obtain ⟨⟨y1, y2, y3, rfl⟩, s2, hg2⟩ := h
  rw [hnl, hl, ← hpl, List.take_length] at hg2
  refine ⟨rfl, _, rfl, "; ", g, ppS names G, rfl, rfl, SqL.of hg2, (by decide +kernel), ?_, q _ s2⟩
  have h1 := sum_le 4331 (ppS names G) (pgS_few hns hG)
  omega
def ltr2 (c at' k : Int) (j : Nat) : Int := (c / ((j : Int) * (j : Int) + 7) + (if (j : Int) = at' then k else 0)) % 26
def nmC (c at' k : Int) (m : Nat) : List Int := (List.range m).map (ltr2 c at' k)
theorem ltr2_in (c at' k : Int) (j : Nat) : 0 ≤ ltr2 c at' k j ∧ ltr2 c at' k j < 26 := ⟨Int.emod_nonneg _ (by decide), Int.emod_lt_of_pos _ (by decide)⟩
theorem nmC_in {c at' k : Int} {m : Nat} : ∀ t ∈ nmC c at' k m, 0 ≤ t ∧ t < 26 := fun t ht => by
  obtain ⟨j, _, rfl⟩ := List.mem_map.mp ht
  exact ltr2_in _ _ _ _
theorem nmC_inj {c sz at' k k' : Int} (ha0 : 0 ≤ at') (ha1 : at' < sz) (hk0 : 0 ≤ k) (hk0' : 0 ≤ k') (hk : k < 26) (hk' : k' < 26) (e : nmC c at' k sz.toNat = nmC c at' k' sz.toNat) : k = k' := by
  have a1 : ltr2 c at' k at'.toNat = ltr2 c at' k' at'.toNat := by
    have := congrArg (fun l => l[at'.toNat]?) e
    unfold nmC at this
    simp only [List.getElem?_map, List.getElem?_range (show at'.toNat < sz.toNat by omega), Option.map_some] at this
    exact Option.some.inj this
  unfold ltr2 at a1
  rw [show ((at'.toNat : Nat) : Int) = at' by omega, if_pos rfl, if_pos rfl] at a1
  omega
def spNames (K : PySem.W.Frag) : Sp := fun vs H Q _ => ∃ (a : Addr) (ns : List Int) (n : Int), vs = [.ref a, .int n] ∧ SqL K H a (ns.map V.int) ∧ 0 ≤ n ∧ n ≤ 16 ∧ ∀ (p : Addr) (names : List Str) (H' : Hp), Same H H' → H p = none → H' p = some (.lst (names.map V.str)) → names.length = n.toNat → NmOk names → Q (.ref p) H'
theorem ok_names (F : DefAt K mg "_law_names" s_law_names ["_law_script", "_law_many"]) (T : Txt mg) (D_law_cell_at : Dn P w K mg base "_law_cell_at" 1 ["_law_script", "_law_k"] (spCell K)) : Dn P w K mg base "_law_names" 2 ["_law_script", "_law_many"] (spNames K) := by
  have sc := sc_law_names
  refine F.ok sc (fun vs H Q E h => ?_) (fun f cdv A outer s H vs Q E hr h => ?_)
  · obtain ⟨_, _, _, rfl, _⟩ := h; rfl
  obtain ⟨a, ns, n, rfl, hS, n0, n16, q⟩ := h
  refine ⟨_, (pss_cons (ps_set (i := 2) sc.nd rfl (Or.inl rfl) pe_str)
      (pss_cons (ps_set (i := 3) sc.nd rfl (Or.inl rfl) (pe_op op_mod (pe_op op_mul (pe_dn D_law_cell_at hr (pa_cons (pv 0) (pa_cons pe_int pa_nil))) pe_int) pe_int))
      (pss_cons (ps_set (i := 4) sc.nd rfl (Or.inl rfl) (pe_op op_add pe_int (pe_op op_mod (pv 3) pe_int)))
      (pss_cons (ps_set (i := 5) sc.nd rfl (Or.inl rfl) (pe_op op_mod (pe_op op_fdiv (pv 3) pe_int) (pv 4)))
      (pss_cons (ps_set (i := 6) sc.nd rfl (Or.inl rfl) (pe_lst pa_nil))
      (pss_cons (ps_for PassesOwn.never rfl (pi_range1 rfl T.b_range (pa_cons (pv 1) pa_nil)) (pg_name (i := 7) sc.nd rfl (Or.inl rfl))
      (pss_cons (ps_set (i := 8) sc.nd rfl (Or.inl rfl) pe_str)
      (pss_cons (ps_for PassesOwn.never rfl (pi_range1 rfl T.b_range (pa_cons (pv 4) pa_nil)) (pg_name (i := 9) sc.nd rfl (Or.inl rfl))
      (pss_cons (ps_set (i := 10) sc.nd rfl (Or.inl rfl) (pe_op op_add (pe_op op_fdiv (pv 3) (pe_op op_add (pe_op op_mul (pv 9) (pv 9)) pe_int)) (pe_op op_mul (pv 7) (pe_callTy call_int1 rfl T.b_int PyProof.Rows.boot_int (pa_cons (pe_cmpR op_eq (pv 9) (pv 5) (nomark _)) pa_nil)))))
      (pss_one (ps_set (i := 8) sc.nd rfl (Or.inl rfl) (pe_op op_add_str (pv 8) (pe_ix ix_str (pv 2) (pe_op op_mod (pv 10) pe_int) (fun _ _ => rfl)))))))
      (pss_one (ps_expr (pe_bm PySem.F.plainAttrs_list PySem.F.slot_list_append PySem.F.type_list_append mt_append (pv 6) (pa_cons (pv 8) pa_nil)))))))
      (pss_one (ps_ret (pv 6))))))))), ?_⟩
  refine ⟨_, rfl, a, ns, 1, rfl, hS, by decide, fun m0 => ?_⟩
  refine ⟨_, _, rfl, rfl, .inr ⟨by decide, by decide⟩, _, _, rfl, rfl, (show (0 : Int) < 1000003 by decide), ?_⟩
  obtain ⟨c, hc⟩ : ∃ c, c = m0 * 69621 % 1000003 := ⟨_, rfl⟩
  obtain ⟨sz, hsz⟩ : ∃ sz, sz = 1 + c % 8 := ⟨_, rfl⟩
  have s1 : 1 ≤ sz := by omega
  have s8 : sz ≤ 8 := by omega
  refine ⟨_, rfl, _, _, rfl, rfl, (show (0 : Int) < 8 by decide), _, _, rfl, rfl, ?_⟩
  refine ⟨_, rfl, _, _, rfl, rfl, ⟨by decide, by decide⟩, _, rfl, _, _, rfl, rfl, (show 0 < 1 + m0 * 69621 % 1000003 % 8 by omega), ?_⟩
  obtain ⟨at', hat'⟩ : ∃ x, x = c / 8 % sz := ⟨_, rfl⟩
  have a0 : 0 ≤ at' := by rw [hat']; exact Int.emod_nonneg _ (by omega)
  have a1 : at' < sz := by rw [hat']; exact Int.emod_lt_of_pos _ (by omega)
  refine ⟨Nat.zero_le _, fun g hg => ?_⟩
  have sg := same_upd hg (.lst [])
  refine ⟨_, rfl, n, rfl, by omega, by omega, for_range (lo := 0) (n := n.toNat) (fun i σ H5 => ∃ y1 y2 y3 y4 : Option V, σ = [some (.ref a), some (.int n), some (.str abc), some (.int c), some (.int sz), some (.int at'), some (.ref g), y1, y2, y3, y4] ∧ Same H H5 ∧ H5 g = some (.lst (((List.range i).map fun (k : Nat) => wrd (nmC c at' (k : Int) sz.toNat)).map V.str)))
    ⟨_, _, _, _, by rw [hat', hsz, hc]; rfl, sg, upd_same⟩ (fun i σ H5 hi h => ?_) (fun σ H5 h => ?_)⟩
  · obtain ⟨y1, y2, y3, y4, rfl, s5, hg5⟩ := h
    refine ⟨_, rfl, sz, rfl, by omega, by omega, for_range (lo := 0) (n := sz.toNat) (fun j σ H6 => ∃ y3 y4 : Option V, σ = [some (.ref a), some (.int n), some (.str abc), some (.int c), some (.int sz), some (.int at'), some (.ref g), some (.int (0 + ((i : Nat) : Int))), some (.str (wrd (nmC c at' (i : Int) j))), y3, y4] ∧ H6 = H5)
      ⟨_, _, rfl, rfl⟩ (fun j σ H6 hj h => ?_) (fun σ H6 h => ?_)⟩
    · obtain ⟨y3, y4, rfl, rfl⟩ := h
      have j8 : ((j : Nat) : Int) ≤ 8 := by omega
      have jj0 : (0 : Int) ≤ (0 + ((j : Nat) : Int)) * (0 + ((j : Nat) : Int)) := Int.mul_nonneg (by omega) (by omega)
      have jj1 : (0 + ((j : Nat) : Int)) * (0 + ((j : Nat) : Int)) ≤ 8 * 8 := Int.mul_le_mul (by omega) (by omega) (by omega) (by omega)
      refine ⟨_, rfl, _, rfl, _, rfl, _, _, rfl, rfl, .inl ⟨by omega, by omega⟩, _, _, rfl, rfl, _, _, rfl, rfl, ⟨by omega, by omega⟩, _, rfl, _, rfl, _, rfl, rfl, .inr ⟨_, rfl, _, _, rfl, rfl, .inl ⟨by omega, by omega⟩, _, _, rfl, rfl, ?_⟩⟩
      have et : (c / ((0 + ((j : Nat) : Int)) * (0 + ((j : Nat) : Int)) + 7) + (0 + ((i : Nat) : Int)) * (if decide (V.int (0 + ((j : Nat) : Int)) = V.int at') = true then 1 else 0)) % 26 = ltr2 c at' (i : Int) j := by
        unfold ltr2
        rw [Int.zero_add, Int.zero_add]
        by_cases e : ((j : Nat) : Int) = at'
        · rw [if_pos e, if_pos (by rw [e]; simp), Int.mul_one]
        · rw [if_neg e, if_neg (by simp [e]), Int.mul_zero]
      have lt := ltr2_in c at' (i : Int) j
      have wl : (wrd (nmC c at' (i : Int) j)).length = j := by rw [wrd_len]; unfold nmC; simp
      refine ⟨_, rfl, _, rfl, _, rfl, _, _, rfl, rfl, (show (0 : Int) < 26 by decide), abc, _, lt1 (ltr2 c at' (i : Int) j), rfl, rfl, (by decide +kernel), ?_, _, _, rfl, rfl, small (m := 100) (by rw [wl]; show j + 1 ≤ 100; omega), ?_⟩
      · rw [et]
        exact abc_at _ lt.1 lt.2
      have ew : wrd (nmC c at' (i : Int) j) ++ ⟨#[lt1 (ltr2 c at' (i : Int) j)]⟩ = wrd (nmC c at' (i : Int) (j + 1)) := by
        rw [wrd_snoc]
        unfold nmC
        rw [List.range_succ, List.map_append]; rfl
      rw [ew]
      exact ⟨_, _, rfl, rfl⟩
    · obtain ⟨y3, y4, rfl, rfl⟩ := h
      refine ⟨_, rfl, .inl ⟨rfl, _, SqL.of hg5⟩, _, rfl, g, _, _, rfl, rfl, hg5, smlt (m := 1000) (by simp; omega), ?_⟩
      refine ⟨_, _, _, _, rfl, s5.put hg _, ?_⟩
      rw [upd_same, List.range_succ, List.map_append, List.map_append]; rfl
  · obtain ⟨y1, y2, y3, y4, rfl, s5, hg5⟩ := h
    refine ⟨_, rfl, q g _ _ s5 hg hg5 (by simp) ⟨map_nodup fun i j hi hj e => ?_, fun x hx => ?_⟩⟩
    · have e1 := wrd_inj (fun t ht => (nmC_in t ht).1) (fun t ht => (nmC_in t ht).1) e
      have := nmC_inj a0 a1 (Int.natCast_nonneg i) (Int.natCast_nonneg j) (by omega) (by omega) e1
      omega
    · obtain ⟨k, _, rfl⟩ := List.mem_map.mp hx
      refine wrd_name ?_ ?_ nmC_in <;> (unfold nmC; rw [List.length_map, List.length_range]; omega)
theorem amt_a (x : Int) : AmtOk (x % 19 - 9) := by unfold AmtOk; omega
theorem amt_b (x : Int) : AmtOk (x % (2 * 10 ^ (10 : Int).toNat) - 10 ^ (10 : Int).toNat) := by
  have e : (10 : Int) ^ (10 : Int).toNat = 10000000000 := by decide
  rw [e]; unfold AmtOk; omega
theorem amt_c (x : Int) : AmtOk (x % (2 * 10 ^ (60 : Int).toNat - 1) - 10 ^ (60 : Int).toNat + 1) := by
  have e : (10 : Int) ^ (60 : Int).toNat = 10 ^ 60 := rfl
  rw [e]
  have h0 := Int.emod_nonneg x (show (2 * 10 ^ 60 - 1 : Int) ≠ 0 by decide)
  have h1 := Int.emod_lt_of_pos x (show (0 : Int) < 2 * 10 ^ 60 - 1 by decide)
  unfold AmtOk
  exact ⟨by omega, by omega⟩
def spAmtL : Sp := fun vs H Q _ => ∃ c : Int, vs = [.int c] ∧ ∀ (z : Int) (H' : Hp), Same H H' → AmtOk z → Q (.int z) H'
theorem ok_amt (F : DefAt K mg "_law_amount" s_law_amount ["_law_cell"]) (T : Txt mg) : Dn P w K mg base "_law_amount" 1 ["_law_cell"] spAmtL := by
  have sc := sc_law_amount
  refine F.ok sc (fun vs H Q E h => ?_) (fun f cdv A outer s H vs Q E hr h => ?_)
  · obtain ⟨_, rfl, _⟩ := h; rfl
  obtain ⟨c, rfl, q⟩ := h
  refine ⟨_, (pss_cons (ps_set (i := 1) sc.nd rfl (Or.inl rfl) (pe_op op_pow (pe_op op_add (pe_op op_mod (pe_op op_mul (pv 0) pe_int) pe_int) pe_int) pe_int))
      (pss_cons (ps_if (pt_cmpR op_eq (pe_op op_mod (pv 0) pe_int) pe_int (nomark _))
      (pss_one (ps_ret (pe_op op_sub (pe_op op_mod (pv 1) pe_int) pe_int)))
      pss_nil)
      (pss_cons (ps_if (pt_cmpR op_eq (pe_op op_mod (pv 0) pe_int) pe_int (nomark _))
      (pss_one (ps_ret (pe_op op_sub (pe_op op_mod (pv 1) (pe_op op_mul pe_int (pe_op op_pow pe_int pe_int))) (pe_op op_pow pe_int pe_int))))
      pss_nil)
      (pss_cons (ps_if (pt_cmpR op_eq (pe_op op_mod (pv 0) pe_int) pe_int (nomark _))
      (pss_one (ps_ret (pe_op op_add (pe_op op_sub (pe_op op_mod (pv 1) (pe_op op_sub (pe_op op_mul pe_int (pe_op op_pow pe_int pe_int)) pe_int)) (pe_op op_pow pe_int pe_int)) pe_int)))
      pss_nil)
      (pss_one (ps_ret (pe_ix (ixL (K := K) rfl) (pe_lst (pa_cons pe_int (pa_cons (pe_op op_sub (pe_op op_pow pe_int pe_int) pe_int) (pa_cons (pe_op op_sub pe_int (pe_op op_pow pe_int pe_int)) (pa_cons (pe_op op_pow pe_int pe_int) (pa_cons (pe_un un_neg pe_int) pa_nil)))))) (pe_op op_mod (pe_op op_fdiv (pv 0) pe_int) pe_int) (fun _ _ => rfl)))))))), ?_⟩
  refine ⟨_, rfl, _, _, rfl, rfl, .inr ⟨by decide, by decide⟩, _, _, rfl, rfl, (show (0 : Int) < 1000003 by decide), _, _, rfl, rfl, _, _, rfl, rfl, ⟨by decide, by decide, by omega⟩, ?_⟩
  refine ⟨_, rfl, _, _, rfl, rfl, (show (0 : Int) < 4 by decide), rfl, _, rfl, ?_⟩
  refine ite2 (fun d => ?_) (fun d => ?_)
  · exact ⟨_, rfl, _, _, rfl, rfl, (show (0 : Int) < 19 by decide), _, _, rfl, rfl, q _ _ (Same.refl _) (amt_a _)⟩
  refine ⟨_, rfl, _, _, rfl, rfl, (show (0 : Int) < 4 by decide), rfl, _, rfl, ?_⟩
  refine ite2 (fun d => ?_) (fun d => ?_)
  · exact ⟨_, rfl, _, _, rfl, rfl, ⟨by decide, by decide, by decide⟩, _, _, rfl, rfl, .inl ⟨by decide, by decide⟩, _, _, rfl, rfl, (show (0 : Int) < 2 * 10 ^ (10 : Int).toNat by decide), _, _, rfl, rfl, ⟨by decide, by decide, by decide⟩, _, _, rfl, rfl, q _ _ (Same.refl _) (amt_b _)⟩
  refine ⟨_, rfl, _, _, rfl, rfl, (show (0 : Int) < 4 by decide), rfl, _, rfl, ?_⟩
  refine ite2 (fun d => ?_) (fun d => ?_)
  · exact ⟨_, rfl, _, _, rfl, rfl, ⟨by decide, by decide, by decide⟩, _, _, rfl, rfl, .inl ⟨by decide, by decide⟩, _, _, rfl, rfl, _, _, rfl, rfl, (show (0 : Int) < 2 * 10 ^ (60 : Int).toNat - 1 by decide), _, _, rfl, rfl, ⟨by decide, by decide, by decide⟩, _, _, rfl, rfl, _, _, rfl, rfl, q _ _ (Same.refl _) (amt_c _)⟩
  refine ⟨_, _, rfl, rfl, ⟨by decide, by decide, by decide⟩, _, _, rfl, rfl, _, _, rfl, rfl, ⟨by decide, by decide, by decide⟩, _, _, rfl, rfl, _, _, rfl, rfl, ⟨by decide, by decide, by decide⟩, _, rfl, (by show 5 ≤ sizeLine; decide), fun p0 hp0 => ?_⟩
  obtain ⟨tp, htp, hok⟩ : ∃ t : Int, atI [V.int 0, V.int (10 ^ (60 : Int).toNat - 1), V.int (1 - 10 ^ (60 : Int).toNat), V.int (10 ^ (59 : Int).toNat), V.int (-1)] (c / 4 % 5) = some (.int t) ∧ AmtOk t := by
    have : c / 4 % 5 = 0 ∨ c / 4 % 5 = 1 ∨ c / 4 % 5 = 2 ∨ c / 4 % 5 = 3 ∨ c / 4 % 5 = 4 := by omega
    rcases this with e | e | e | e | e <;> rw [e]
    · exact ⟨_, rfl, by unfold AmtOk; decide⟩
    · exact ⟨_, rfl, by unfold AmtOk; decide⟩
    · exact ⟨_, rfl, by unfold AmtOk; decide⟩
    · exact ⟨_, rfl, by unfold AmtOk; decide⟩
    · exact ⟨_, rfl, by unfold AmtOk; decide⟩
  exact ⟨_, rfl, _, _, rfl, rfl, ⟨by decide, by decide⟩, _, _, rfl, rfl, (show (0 : Int) < 5 by decide), p0, _, _, _, rfl, rfl, SqL.of upd_same, htp, q _ _ (same_upd hp0 _) hok⟩
def spRowsP (K : PySem.W.Frag) : Sp := fun vs H Q _ => ∃ (a : Addr) (ns : List Int), vs = [.ref a] ∧ SqL K H a (ns.map V.int) ∧ ∀ (v : V) (H' : Hp) (G : List PRow), Same H H' → rPG H' G v → PGood G → Q v H'
theorem ok_rows (F : DefAt K mg "_law_rows" s_law_rows ["_law_script"]) (T : Txt mg) (D_law_cell_at : Dn P w K mg base "_law_cell_at" 1 ["_law_script", "_law_k"] (spCell K)) (D_law_amount : Dn P w K mg base "_law_amount" 1 ["_law_cell"] spAmtL) : Dn P w K mg base "_law_rows" 2 ["_law_script"] (spRowsP K) := by
  have sc := sc_law_rows
  refine F.ok sc (fun vs H Q E h => ?_) (fun f cdv A outer s H vs Q E hr h => ?_)
  · obtain ⟨_, _, rfl, _⟩ := h; rfl
  obtain ⟨a, ns, rfl, hS, q⟩ := h
  refine ⟨_, (pss_cons (ps_set (i := 1) sc.nd rfl (Or.inl rfl) (pe_op op_mod (pe_op op_mod (pe_op op_mul (pe_dn D_law_cell_at hr (pa_cons (pv 0) (pa_cons pe_int pa_nil))) pe_int) pe_int) pe_int))
      (pss_cons (ps_set (i := 2) sc.nd rfl (Or.inl rfl) (pe_lst pa_nil))
      (pss_cons (ps_for PassesOwn.never rfl (pi_range1 rfl T.b_range (pa_cons (pv 1) pa_nil)) (pg_name (i := 3) sc.nd rfl (Or.inl rfl))
      (pss_cons (ps_set (i := 4) sc.nd rfl (Or.inr rfl) (pe_op op_add (pe_dn D_law_cell_at hr (pa_cons (pv 0) (pa_cons (pe_op op_add pe_int (pv 3)) pa_nil))) (pe_op op_mul (pe_op op_mul pe_int (pv 3)) (pv 3))))
      (pss_cons (ps_set (i := 5) sc.nd rfl (Or.inl rfl) (pe_lst (pa_cons (pe_op op_mod (pe_op op_mod (pe_op op_mul (pv 4) pe_int) pe_int) (pv 1)) pa_nil)))
      (pss_cons (ps_for PassesOwn.never rfl (pi_range1 rfl T.b_range (pa_cons (pe_op op_mod (pe_op op_mod (pe_op op_mul (pv 4) pe_int) pe_int) pe_int) pa_nil)) (pg_name (i := 6) sc.nd rfl (Or.inl rfl))
      (pss_cons (ps_set (i := 7) sc.nd rfl (Or.inl rfl) (pe_op op_mod (pe_op op_mod (pe_op op_add (pe_op op_mul (pe_op op_mul (pv 4) (pe_op op_add (pv 6) pe_int)) pe_int) (pe_op op_mul pe_int (pv 6))) pe_int) (pv 1)))
      (pss_one (ps_if (pt_cmpR (notInS (K := K) rfl) (pv 7) (pv 5) rfl)
      (pss_one (ps_expr (pe_bm PySem.F.plainAttrs_list PySem.F.slot_list_append PySem.F.type_list_append mt_append (pv 5) (pa_cons (pv 7) pa_nil))))
      pss_nil))))
      (pss_cut (ps_if (pt_cmpR op_eq (pe_op op_mod (pv 4) pe_int) pe_int (nomark _))
      (pss_one (ps_set (i := 5) sc.nd rfl (Or.inl rfl) (pe_sortR (K := K) rfl rfl T.b_sorted (pa_cons (pv 5) pa_nil) (pk_cons pe_bl pk_nil))))
      pss_nil)
      (pss_one (ps_expr (pe_bm PySem.F.plainAttrs_list PySem.F.slot_list_append PySem.F.type_list_append mt_append (pv 2) (pa_cons (pe_tup (pa_cons (pe_op op_mod (pe_op op_mod (pe_op op_mul (pv 4) pe_int) pe_int) pe_int) (pa_cons (pe_lc (defScope s_law_rows) ["_law_script", "_law_many", "_law_rows_here", "_law_k", "_law_cell", "_law_places", "_law_j", "_law_place"] ["_law_place", "_law_cell"] 1 [4] (pi_list (pv 5)) (fun _ _ _ _ _ _ => (ptg_name (show List.Nodup (["_law_place", "_law_cell"] : List Str) by decide +kernel) rfl rfl)) (fun _ _ _ _ _ _ => pts_nil) (fun _ _ _ _ _ _ => (pe_tup (pa_cons (pv 0) (pa_cons (pe_dn D_law_amount hr (pa_cons (pe_op op_add (pv 1) (pe_op op_mul (pe_op op_mul pe_int (pv 0)) (pv 0))) pa_nil)) pa_nil))))) pa_nil))) pa_nil)))))))))
      (pss_one (ps_ret (pv 2)))))), ?_⟩
  refine ⟨_, rfl, a, ns, 0, rfl, hS, by decide, fun m0 => ?_⟩
  refine ⟨_, _, rfl, rfl, .inr ⟨by decide, by decide⟩, _, _, rfl, rfl, (show (0 : Int) < 104729 by decide), _, _, rfl, rfl, (show (0 : Int) < 17 by decide), ?_⟩
  obtain ⟨n, hn⟩ : ∃ n, n = m0 * 48271 % 104729 % 17 := ⟨_, rfl⟩
  have n0 : 0 ≤ n := by omega
  have n16 : n ≤ 16 := by omega
  refine ⟨Nat.zero_le _, fun g hg => ?_⟩
  refine ⟨_, rfl, m0 * 48271 % 104729 % 17, rfl, by omega, by omega, for_range (lo := 0) (n := (m0 * 48271 % 104729 % 17).toNat) (fun i σ H2 => ∃ (G' : List PRow) (y1 y2 y3 y4 y5 : Option V), σ = [some (.ref a), some (.int n), some (.ref g), y1, y2, y3, y4, y5] ∧ Bld rPR H H2 g G' ∧ G'.length = i ∧ ∀ row ∈ G', PRowOk n.toNat row)
    ⟨[], _, _, _, _, _, by rw [hn]; rfl, Bld.start (Same.refl _) hg, rfl, fun _ z => by cases z⟩ (fun i σ H2 hi h => ?_) (fun σ H2 h => ?_)⟩
  · obtain ⟨G', y1, y2, y3, y4, y5, rfl, b, hl, hk⟩ := h
    have hi' : (i : Int) < n := by omega
    clear hi
    have hm : ∀ x : Int, 0 ≤ x % n ∧ x % n < n := fun x => ⟨Int.emod_nonneg _ (by omega), Int.emod_lt_of_pos _ (by omega)⟩
    refine ⟨_, rfl, _, rfl, _, _, rfl, rfl, a, ns, _, rfl, b.s.seq hS, by omega, fun m => ?_⟩
    refine ⟨_, rfl, _, _, rfl, rfl, .inl ⟨by decide, by decide⟩, _, rfl, _, _, rfl, rfl, .inr ⟨by omega, by omega⟩, _, _, rfl, rfl, ?_⟩
    refine ⟨_, rfl, _, _, rfl, rfl, .inr ⟨by decide, by decide⟩, _, _, rfl, rfl, (show (0 : Int) < 65521 by decide), _, rfl, _, _, rfl, rfl, (show 0 < n by omega), (by show 1 ≤ sizeLine; decide), fun wl hwl => ?_⟩
    have sw := same_upd hwl (.lst [V.int ((m + 7 * (0 + (i : Int)) * (0 + (i : Int))) * 48271 % 65521 % n)])
    refine ⟨_, rfl, _, _, rfl, rfl, .inr ⟨by decide, by decide⟩, _, _, rfl, rfl, (show (0 : Int) < 32749 by decide), _, _, rfl, rfl, (show (0 : Int) < 4 by decide), _, rfl, by omega, by omega, for_range (lo := 0) (n := _) (fun j σ H3 => ∃ (ws : List Int) (y3 y4 : Option V), σ = [some (.ref a), some (.int n), some (.ref g), some (.int (0 + (i : Int))), some (.int (m + 7 * (0 + (i : Int)) * (0 + (i : Int)))), some (.ref wl), y3, y4] ∧ Same H2 H3 ∧ H3 wl = some (.lst (ws.map V.int)) ∧ ws ≠ [] ∧ ws.length ≤ 1 + j ∧ ws.Nodup ∧ ∀ x ∈ ws, 0 ≤ x ∧ x < n)
      ⟨[_], _, _, rfl, sw, upd_same, by simp, Nat.le_refl _, by simp, fun x hx => by rw [List.mem_singleton.mp hx]; exact hm _⟩ (fun j σ H3 hj h => ?_) (fun σ H3 h => ?_)⟩
    · obtain ⟨ws, y3, y4, rfl, s3, hw3, hne, hwl3, hnd, hwr⟩ := h
      refine ⟨_, rfl, _, rfl, _, _, rfl, rfl, _, _, rfl, rfl, .inr ⟨by omega, by omega⟩, _, _, rfl, rfl, .inr ⟨by decide, by decide⟩, _, rfl, _, _, rfl, rfl, .inl ⟨by decide, by decide⟩, _, _, rfl, rfl, _, _, rfl, rfl, (show (0 : Int) < 50021 by decide), _, rfl, _, _, rfl, rfl, (show 0 < n by omega), ?_⟩
      have hx := hm (((m + 7 * (0 + (i : Int)) * (0 + (i : Int))) * (0 + (j : Int) + 2) * 16807 + 11 * (0 + (j : Int))) % 50021)
      refine ⟨_, rfl, _, rfl, wl, _, rfl, .inl (SqL.of hw3), rfl, flat_ints _, ?_⟩
      rw [inV_ints]
      refine ⟨_, rfl, ?_⟩
      refine ite2 (fun c => ?_) (fun c => ?_)
      · have hnm : ((m + 7 * (0 + (i : Int)) * (0 + (i : Int))) * (0 + (j : Int) + 2) * 16807 + 11 * (0 + (j : Int))) % 50021 % n ∉ ws := by
          intro z
          rw [if_pos rfl, decide_eq_true z] at c; cases c
        refine ⟨_, rfl, .inl ⟨rfl, _, SqL.of hw3⟩, _, rfl, wl, _, _, rfl, rfl, hw3, smlt (m := 1000) (by rw [List.length_map]; omega), ?_⟩
        refine ⟨ws ++ [_], _, _, rfl, s3.put hwl _, by rw [upd_same, List.map_append]; rfl, by simp, by rw [List.length_append, List.length_singleton]; omega, ?_, fun x hx' => ?_⟩
        · rw [List.nodup_append]
          refine ⟨hnd, by simp, fun x hx y hy => ?_⟩
          rw [List.mem_singleton.mp hy]
          exact fun z => hnm (z ▸ hx)
        · rcases List.mem_append.mp hx' with h | h
          · exact hwr x h
          · rw [List.mem_singleton.mp h]; exact hx
      · exact ⟨ws, _, _, rfl, s3, hw3, hne, by omega, hnd, hwr⟩
    · obtain ⟨ws, y3, y4, rfl, s3, hw3, hne, hwl3, hnd, hwr⟩ := h
      refine ⟨fun σ' H4 => ∃ (wb : Addr) (us : List Int), σ' = [some (.ref a), some (.int n), some (.ref g), some (.int (0 + (i : Int))), some (.int (m + 7 * (0 + (i : Int)) * (0 + (i : Int)))), some (.ref wb), y3, y4] ∧ Same H2 H4 ∧ H4 wb = some (.lst (us.map V.int)) ∧ us ≠ [] ∧ us.length ≤ 5 ∧ us.Nodup ∧ ∀ x ∈ us, 0 ≤ x ∧ x < n, ?_, ?_⟩
      · refine ⟨_, rfl, _, _, rfl, rfl, (show (0 : Int) < 3 by decide), rfl, _, rfl, ?_⟩
        refine ite2 (fun c => ?_) (fun c => ?_)
        · refine ⟨_, rfl, wl, ws, true, rfl, rfl, SqL.of hw3, by omega, fun wb us hwb pm => ?_⟩
          have := pm.length_eq
          refine ⟨wb, us, rfl, s3.trans (same_upd hwb _), upd_same, fun z => hne ?_, by omega, pm.nodup_iff.mpr hnd, fun x hx => hwr x (pm.mem_iff.mp hx)⟩
          rw [z] at this
          exact List.eq_nil_of_length_eq_zero this.symm
        · exact ⟨wl, ws, rfl, s3, hw3, hne, by omega, hnd, hwr⟩
      rintro σ' H4 ⟨wb, us, rfl, s4, hw4, une, u5, und, uwr⟩
      obtain ⟨gvs, hgv, _⟩ := b.sq
      have hul : (us.map V.int).length = us.length := List.length_map _
      refine ⟨_, rfl, .inl ⟨rfl, _, SqL.of (s4 _ _ hgv)⟩, _, rfl, _, _, rfl, rfl, .inr ⟨by decide, by decide⟩, _, _, rfl, rfl, (show (0 : Int) < 10007 by decide), _, _, rfl, rfl, (show (0 : Int) < 2 by decide), _, rfl, wb, rfl, ⟨_, SqL.of hw4⟩, comp_listD (K := K) (a := wb) (xs := us.map V.int) (fun k zs H8 => ∃ ts : List (Addr × Int × Int), Same H4 H8 ∧ zs = ts.map (fun u => V.ref u.1) ∧ ts.map (fun u => u.2.1) = us.take k ∧ (∀ u ∈ ts, AmtOk u.2.2) ∧ ∀ u ∈ ts, newp H4 H8 u.1 = some (.tup [.int u.2.1, .int u.2.2])) ⟨[], Same.refl _, rfl, rfl, (fun _ z => by cases z), fun _ z => by cases z⟩ (small (m := 1000) (by omega)) (fun k zs H8 hk h => ?_) (fun k x zs H8 hk h => ?_) (fun zs H8 h wp hwp => ?_)⟩
      · obtain ⟨ts, s8, rfl, e2, _⟩ := h
        refine ⟨SqL.of (s8 _ _ hw4), ?_⟩
        have := congrArg List.length e2
        rw [List.length_map, List.length_take] at this
        rw [List.length_map]; omega
      · obtain ⟨ts, s8, rfl, e2, e4, e3⟩ := h
        obtain ⟨z, hz, rfl⟩ := int_of_at hk
        have hzr := uwr z (List.mem_of_getElem? hz)
        refine comp_yes ?_
        refine ⟨_, rfl, _, rfl, _, rfl, _, _, rfl, rfl, .inl ⟨by decide, by decide⟩, _, rfl, _, _, rfl, rfl, .inr ⟨by omega, by omega⟩, _, _, rfl, rfl, _, rfl, fun am H9 s9 ham => ?_⟩
        refine ⟨(by show 2 ≤ sizeLine; decide), fun t2 ht2 => ?_⟩
        have s10 := s9.trans (same_upd ht2 (.tup [.int z, .int am]))
        refine ⟨ts ++ [(t2, z, am)], s8.trans s10, by simp, by rw [List.map_append, e2, List.take_add_one, hz]; rfl, fun u hu => ?_, fun u hu => ?_⟩
        · rcases List.mem_append.mp hu with h | h
          · exact e4 u h
          · rw [List.mem_singleton.mp h]; exact ham
        · rcases List.mem_append.mp hu with h | h
          · exact newp_in s10 _ _ (e3 u h)
          · rw [List.mem_singleton.mp h]
            rw [newp_at ((s8.trans s9).free ht2), upd_same]
      obtain ⟨ts, s8, rfl, e2, e4, e3⟩ := h
      rw [hul, List.take_length] at e2
      refine ⟨(by show 2 ≤ sizeLine; decide), fun t2 ht2 => ?_⟩
      obtain ⟨hd, hhd⟩ : ∃ hd, hd = (m + 7 * (0 + (i : Int)) * (0 + (i : Int))) * 30011 % 10007 % 2 := ⟨_, rfl⟩
      have sw := same_upd hwp (.lst (ts.map fun u => V.ref u.1))
      have sx := sw.trans (same_upd ht2 (.tup [.int ((m + 7 * (0 + (i : Int)) * (0 + (i : Int))) * 30011 % 10007 % 2), .ref wp]))
      have hne2 : wp ≠ t2 := fun z => by rw [← z, upd_same] at ht2; cases ht2
      have W : WaysAt (newp H2 (upd (upd H8 wp (.lst (ts.map fun u => V.ref u.1))) t2 (.tup [.int ((m + 7 * (0 + (i : Int)) * (0 + (i : Int))) * 30011 % 10007 % 2), .ref wp]))) wp ts := by
        refine ⟨by rw [newp_at ((s4.trans s8).free hwp), upd_ne hne2, upd_same], fun u hu => ?_⟩
        exact newp_mono s4 sx _ _ (e3 u hu)
      have hrow : rPR (newp H2 (upd (upd H8 wp (.lst (ts.map fun u => V.ref u.1))) t2 (.tup [.int ((m + 7 * (0 + (i : Int)) * (0 + (i : Int))) * 30011 % 10007 % 2), .ref wp]))) (hd, ts.map fun u => u.2) (.ref t2) := ⟨t2, _, _, rfl, by rw [newp_at (((s4.trans s8).trans sw).free ht2), upd_same], by rw [hhd]; rfl, W.rel⟩
      obtain ⟨vs4, k1, k2, b4⟩ := b.push mono_pr ((s4.trans s8).trans sx) hrow
      refine ⟨g, vs4, _, rfl, rfl, k1, (smlt (m := 1000) (by omega)), ?_⟩
      have etl : ts.length = us.length := by have := congrArg List.length e2; rwa [List.length_map] at this
      refine ⟨_, _, _, _, _, _, rfl, b4, by simp [hl], fun row hrw => ?_⟩
      rcases List.mem_append.mp hrw with h | h
      · exact hk row h
      · rw [List.mem_singleton.mp h]
        refine ⟨?_, fun z => une ?_, fun u hu => ?_, ?_, ?_⟩
        · show hd = 0 ∨ hd = 1
          rw [hhd]; omega
        · have z' : ts.map (fun u => u.2) = [] := z
          have := congrArg List.length z'
          rw [List.length_map, etl] at this
          exact List.eq_nil_of_length_eq_zero this
        · obtain ⟨t, ht, rfl⟩ := List.mem_map.mp hu
          have h1 : t.2.1 ∈ us := by rw [← e2]; exact List.mem_map.mpr ⟨t, ht, rfl⟩
          have h2 := uwr _ h1
          have h3 := e4 t ht
          exact ⟨h2.1, by omega, h3.1, h3.2⟩
        · show ((ts.map fun u => u.2).map fun w => w.1).Nodup
          rw [List.map_map]
          have : ts.map ((fun w : Int × Int => w.1) ∘ fun u => u.2) = us := e2
          rw [this]; exact und
        · show (ts.map fun u => u.2).length ≤ 60
          rw [List.length_map]; omega
  · obtain ⟨G', y1, y2, y3, y4, y5, rfl, b, hl, hk⟩ := h
    refine ⟨_, rfl, q _ _ G' b.s (mono_pg.up (newp_same _ _) (b.done mono_pr)) ⟨by omega, fun r hr => ?_⟩⟩
    have := hk r hr
    rw [show G'.length = n.toNat by omega]
    exact this
def spAlike : Sp := fun vs H Q _ => ∃ (p n na : Addr) (v d : V) (names : List Str) (G : List PRow), vs = [.ref p, .ref na, d] ∧ H p = some (.tup [.ref n, v]) ∧ H n = some (.lst (names.map V.str)) ∧ rPG H G v ∧ H na = some (.lst (names.map V.str)) ∧ rPG H G d ∧ G.length ≤ 160 ∧ Q (.bl true) H
theorem ok_alike (F : DefAt K mg "_law_alike" s_law_alike ["_law_found", "_law_names_here", "_law_game"]) (T : Txt mg) (D_law_whole : Dn P w K mg base "_law_whole" 1 ["_law_found"] spWhole) : Dn P w K mg base "_law_alike" 5 ["_law_found", "_law_names_here", "_law_game"] spAlike := by
  have sc := sc_law_alike
  refine F.ok sc (fun vs H Q E h => ?_) (fun f cdv A outer s H vs Q E hr h => ?_)
  · obtain ⟨_, _, _, _, _, _, _, rfl, _⟩ := h; rfl
  obtain ⟨p, n, na, v, d, names, G, rfl, hp, hn, hvG, hna, hdG, hl, q⟩ := h
  obtain ⟨va, vvs, rfl, hv, e1, hrow⟩ := pg_parts hvG
  obtain ⟨da, dvs, rfl, hd, e2, _⟩ := pg_parts hdG
  refine ⟨_, (pss_cons (ps_if (PW.pt (pw_or (pt_not (pt_val (pe_callB (clIsi (K := K) rfl (T := "tuple")) rfl T.b_isinstance PyProof.Rows.boot_isinstance (pa_cons (pv 0) (pa_cons (pe_bltn (v := .ty "tuple") rfl T.b_tuple PyProof.Rows.boot_tuple rfl) pa_nil))))) (pw_or (pt_cmpR op_ne (pe_callB (clLen (K := K) rfl) rfl T.b_len PySem.boot_len (pa_cons (pv 0) pa_nil)) pe_int (nomark _)) (pw_or1 (pt_not (pt_val (pe_callB (clIsi (K := K) rfl (T := "list")) rfl T.b_isinstance PyProof.Rows.boot_isinstance (pa_cons (pe_ix (ixT (K := K) rfl) (pv 0) pe_int (fun _ _ => rfl)) (pa_cons (pe_bltn (v := .ty "list") rfl T.b_list PyProof.Rows.boot_list rfl) pa_nil)))))))))
      (pss_one (ps_ret pe_bl))
      pss_nil)
      (pss_cons (ps_if (PW.pt (pw_or (pt_not (pt_val (pe_callB (clIsi (K := K) rfl (T := "list")) rfl T.b_isinstance PyProof.Rows.boot_isinstance (pa_cons (pe_ix (ixT (K := K) rfl) (pv 0) pe_int (fun _ _ => rfl)) (pa_cons (pe_bltn (v := .ty "list") rfl T.b_list PyProof.Rows.boot_list rfl) pa_nil))))) (pw_or1 (pt_cmpR op_ne (pe_callB (clLen (K := K) rfl) rfl T.b_len PySem.boot_len (pa_cons (pe_ix (ixT (K := K) rfl) (pv 0) pe_int (fun _ _ => rfl)) pa_nil)) (pe_callB (clLen (K := K) rfl) rfl T.b_len PySem.boot_len (pa_cons (pv 2) pa_nil)) (nomark _)))))
      (pss_one (ps_ret pe_bl))
      pss_nil)
      (pss_cons (ps_for PassesOwn.never rfl (pi_list (pe_ix (ixT (K := K) rfl) (pv 0) pe_int (fun _ _ => rfl))) (pg_name (i := 3) sc.nd rfl (Or.inl rfl))
      (pss_cons (ps_if (PW.pt (pw_or (pt_not (pt_val (pe_callB (clIsi (K := K) rfl (T := "tuple")) rfl T.b_isinstance PyProof.Rows.boot_isinstance (pa_cons (pv 3) (pa_cons (pe_bltn (v := .ty "tuple") rfl T.b_tuple PyProof.Rows.boot_tuple rfl) pa_nil))))) (pw_or1 (pt_cmpR op_ne (pe_callB (clLen (K := K) rfl) rfl T.b_len PySem.boot_len (pa_cons (pv 3) pa_nil)) pe_int (nomark _)))))
      (pss_one (ps_ret pe_bl))
      pss_nil)
      (pss_cons (ps_if (PW.pt (pw_or (pt_not (pt_val (pe_dn D_law_whole hr (pa_cons (pe_ix (ixT (K := K) rfl) (pv 3) pe_int (fun _ _ => rfl)) pa_nil)))) (pw_or1 (pt_not (pt_val (pe_callB (clIsi (K := K) rfl (T := "list")) rfl T.b_isinstance PyProof.Rows.boot_isinstance (pa_cons (pe_ix (ixT (K := K) rfl) (pv 3) pe_int (fun _ _ => rfl)) (pa_cons (pe_bltn (v := .ty "list") rfl T.b_list PyProof.Rows.boot_list rfl) pa_nil))))))))
      (pss_one (ps_ret pe_bl))
      pss_nil)
      (pss_one (ps_for PassesOwn.never rfl (pi_list (pe_ix (ixT (K := K) rfl) (pv 3) pe_int (fun _ _ => rfl))) (pg_name (i := 4) sc.nd rfl (Or.inl rfl))
      (pss_cons (ps_if (PW.pt (pw_or (pt_not (pt_val (pe_callB (clIsi (K := K) rfl (T := "tuple")) rfl T.b_isinstance PyProof.Rows.boot_isinstance (pa_cons (pv 4) (pa_cons (pe_bltn (v := .ty "tuple") rfl T.b_tuple PyProof.Rows.boot_tuple rfl) pa_nil))))) (pw_or1 (pt_cmpR op_ne (pe_callB (clLen (K := K) rfl) rfl T.b_len PySem.boot_len (pa_cons (pv 4) pa_nil)) pe_int (nomark _)))))
      (pss_one (ps_ret pe_bl))
      pss_nil)
      (pss_one (ps_if (PW.pt (pw_or (pt_not (pt_val (pe_dn D_law_whole hr (pa_cons (pe_ix (ixT (K := K) rfl) (pv 4) pe_int (fun _ _ => rfl)) pa_nil)))) (pw_or1 (pt_not (pt_val (pe_dn D_law_whole hr (pa_cons (pe_ix (ixT (K := K) rfl) (pv 4) pe_int (fun _ _ => rfl)) pa_nil)))))))
      (pss_one (ps_ret pe_bl))
      pss_nil))))))))
      (pss_one (ps_ret (pe_and (pe_cmpR (op_eqR (rcok_lst eqok_str) (hu_n hr 1)) (pe_ix (ixT (K := K) rfl) (pv 0) pe_int (fun _ _ => rfl)) (pv 1) (nomark _)) (pe_one (pe_cmpR (op_eqR (rcok_lst (eqok_t2 (EqOk.up eqok_int (by decide : 0 ≤ 2)) (eqok_lst (eqok_t2 eqok_int eqok_int)))) (hu_n hr 4)) (pe_ix (ixT (K := K) rfl) (pv 0) pe_int (fun _ _ => rfl)) (pv 2) (nomark _))))))))), ?_⟩
  refine ⟨_, rfl, _, "tuple", _, rfl, .inr (.inl ⟨rfl, _, hp⟩), isi_same _, _, rfl, ?_⟩
  refine iteF ?_
  refine ⟨_, rfl, p, _, rfl, .inr (SqT.of hp), rfl, _, rfl, ?_⟩
  refine iteF ?_
  refine ⟨_, rfl, p, _, _, _, rfl, rfl, SqT.of hp, atI_nat (j := 0) rfl, _, "list", _, rfl, .inl ⟨rfl, .inl ⟨_, hn⟩⟩, isi_same _, _, rfl, ?_⟩
  refine iteF ?_
  refine ⟨_, rfl, p, _, _, _, rfl, rfl, SqT.of hp, atI_nat (j := 1) rfl, _, "list", _, rfl, .inl ⟨rfl, .inl ⟨_, hv⟩⟩, isi_same _, _, rfl, ?_⟩
  refine iteF ?_
  refine ⟨_, rfl, p, _, _, _, rfl, rfl, SqT.of hp, atI_nat (j := 1) rfl, va, _, rfl, .inl (SqL.of hv), _, rfl, da, _, rfl, .inl (SqL.of hd), rfl, _, rfl, ?_⟩
  refine ite2 (fun c => ?_) (fun c => ?_)
  · have e3 : vvs.length = dvs.length := by omega
    simp [e3] at c
  refine ⟨_, rfl, p, _, _, _, rfl, rfl, SqT.of hp, atI_nat (j := 1) rfl, va, rfl, ⟨_, SqL.of hv⟩, for_list (K := K) (a := va) (xs := vvs) (fun i σ H2 => H2 = H ∧ ∃ y y2 : Option V, σ = [some (.ref p), some (.ref na), some (.ref da), y, y2])
    ⟨rfl, _, _, rfl⟩ (fun i σ H2 _ h => by obtain ⟨rfl, _⟩ := h; exact SqL.of hv) (fun i x σ H2 hi h => ?_) (fun σ H2 h => ?_)⟩
  · obtain ⟨rfl, y, y2, rfl⟩ := h
    have hil : i < G.length := by have := (List.getElem?_eq_some_iff.mp hi).1; omega
    obtain ⟨r, hr⟩ : ∃ r, G[i]? = some r := ⟨G[i], by simp⟩
    obtain ⟨t, wa, ts, p1, ht, hw, p4⟩ := hrow i r hr
    rw [hi] at p1; cases p1
    refine ⟨_, rfl, _, "tuple", _, rfl, .inr (.inl ⟨rfl, _, ht⟩), isi_same _, _, rfl, ?_⟩
    refine iteF ?_
    refine ⟨_, rfl, t, _, rfl, .inr (SqT.of ht), rfl, _, rfl, ?_⟩
    refine iteF ?_
    refine ⟨_, rfl, t, _, _, _, rfl, rfl, SqT.of ht, atI_nat (j := 0) rfl, _, rfl, _, rfl, ?_⟩
    refine iteF ?_
    refine ⟨_, rfl, t, _, _, _, rfl, rfl, SqT.of ht, atI_nat (j := 1) rfl, _, "list", _, rfl, .inl ⟨rfl, .inl ⟨_, hw.1⟩⟩, isi_same _, _, rfl, ?_⟩
    refine iteF ?_
    refine ⟨_, rfl, t, _, _, _, rfl, rfl, SqT.of ht, atI_nat (j := 1) rfl, wa, rfl, ⟨_, SqL.of hw.1⟩, for_list (K := K) (a := wa) (xs := ts.map fun t => V.ref t.1) (fun k σ H4 => H4 = H2 ∧ ∃ y2 : Option V, σ = [some (.ref p), some (.ref na), some (.ref da), some (.ref t), y2])
      ⟨rfl, _, rfl⟩ (fun k σ H4 _ h => by obtain ⟨rfl, _⟩ := h; exact SqL.of hw.1) (fun k x σ H4 hk h => ?_) (fun σ H4 h => ?_)⟩
    · obtain ⟨rfl, y2, rfl⟩ := h
      obtain ⟨u, hu, rfl⟩ := pair_at hk
      have hut := hw.2 u (List.mem_of_getElem? hu)
      refine ⟨_, rfl, _, "tuple", _, rfl, .inr (.inl ⟨rfl, _, hut⟩), isi_same _, _, rfl, ?_⟩
      refine iteF ?_
      refine ⟨_, rfl, u.1, _, rfl, .inr (SqT.of hut), rfl, _, rfl, ?_⟩
      refine iteF ?_
      refine ⟨_, rfl, u.1, _, _, _, rfl, rfl, SqT.of hut, atI_nat (j := 0) rfl, _, rfl, _, rfl, ?_⟩
      refine iteF ?_
      refine ⟨_, rfl, u.1, _, _, _, rfl, rfl, SqT.of hut, atI_nat (j := 1) rfl, _, rfl, _, rfl, ?_⟩
      refine iteF ?_
      exact ⟨rfl, _, rfl⟩
    · obtain ⟨rfl, y2, rfl⟩ := h
      exact ⟨rfl, _, _, rfl⟩
  · obtain ⟨rfl, y, y2, rfl⟩ := h
    refine ⟨_, rfl, p, _, _, _, rfl, rfl, SqT.of hp, atI_nat (j := 0) rfl, _, rfl, names, strs_rel hn, strs_rel hna, _, rfl, ?_⟩
    refine iteT ?_
    exact ⟨_, rfl, p, _, _, _, rfl, rfl, SqT.of hp, atI_nat (j := 1) rfl, _, rfl, G, hvG, hdG, q⟩
theorem newp_not {H H' : Hp} {b : Addr} {o : HO} (h : newp H H' b = some o) : H b = none := by
  cases q : H b with
  | none => rfl
  | some u => rw [newp_none q] at h; cases h
def LooseP (B1 B2 : Hp) (g : Addr) (gv : List V) (H : Hp) : Prop := H g = some (.lst gv) ∧ ∀ (j : Nat) (v : V), gv[j]? = some v → ∃ (t wa : Addr) (h : Int) (L : List V), v = .ref t ∧ H t = some (.tup [.int h, .ref wa]) ∧ wa ≠ g ∧ B1 wa = none ∧ B2 wa = none ∧ H wa = some (.lst L)
theorem LooseP.start {B B1 B2 H : Hp} {G : List PRow} {g : Addr} (hB : rPG B G (.ref g)) (s : Same B H) (h1 : ∀ b o, B b = some o → B1 b = none) (h2 : ∀ b o, B b = some o → B2 b = none) : ∃ gv, gv.length = G.length ∧ B g = some (.lst gv) ∧ LooseP B1 B2 g gv H := by
  obtain ⟨g', gv, e, hg, hl, hr⟩ := pg_parts hB
  cases e
  refine ⟨gv, hl, hg, s _ _ hg, fun j v hj => ?_⟩
  obtain ⟨r, hrw⟩ : ∃ r, G[j]? = some r := ⟨G[j]'(by have := (List.getElem?_eq_some_iff.mp hj).1; omega), by simp⟩
  obtain ⟨t, wa, ts, p1, p2, p3, p4⟩ := hr j r hrw
  rw [hj] at p1; cases p1
  refine ⟨t, wa, r.1, _, rfl, s _ _ p2, fun z => ?_, h1 _ _ p3.1, h2 _ _ p3.1, s _ _ p3.1⟩
  have hg' := p3.1
  rw [z, hg] at hg'
  injection hg' with hg'
  injection hg' with hg'
  rw [hg'] at hj
  obtain ⟨u, hu, e⟩ := pair_at hj
  injection e with e
  have := p3.2 u (List.mem_of_getElem? hu)
  rw [← e, p2] at this
  injection this with this
  injection this with this
  simp at this
theorem LooseP.put {B1 B2 H : Hp} {g : Addr} {gv : List V} {wa : Addr} {L L2 : List V} (h : LooseP B1 B2 g gv H) (hne : wa ≠ g) (hw : H wa = some (.lst L)) : LooseP B1 B2 g gv (upd H wa (.lst L2)) := by
  obtain ⟨hg, hr⟩ := h
  refine ⟨by rw [upd_ne (Ne.symm hne)]; exact hg, fun j v hj => ?_⟩
  obtain ⟨t, wj, hd, Lj, q1, q2, q3, q4, q5, q6⟩ := hr j v hj
  have ht : t ≠ wa := fun z => by rw [z, hw] at q2; cases q2
  by_cases e : wj = wa
  · subst e
    exact ⟨t, wj, hd, L2, q1, by rw [upd_ne ht]; exact q2, q3, q4, q5, upd_same⟩
  · exact ⟨t, wj, hd, Lj, q1, by rw [upd_ne ht]; exact q2, q3, q4, q5, by rw [upd_ne e]; exact q6⟩
theorem pg_told {G : List PRow} (h : PGood G) : PGood (ptold G) := by
  refine ⟨by rw [ptold_len]; exact h.1, fun r hr => ?_⟩
  rw [ptold_len]
  unfold ptold at hr
  obtain ⟨r0, hr0, rfl⟩ := List.mem_map.mp hr
  obtain ⟨a, b, c, d, e⟩ := h.2 r0 hr0
  have pm := srt_perm r0.2
  refine ⟨a, fun z => b ?_, fun w hw => c w (pm.mem_iff.mp hw), (pm.map _).nodup_iff.mpr d, by show (srt r0.2).length ≤ 60; rw [pm.length_eq]; exact e⟩
  have z' : srt r0.2 = [] := z
  rw [z'] at pm
  exact List.nil_perm.mp pm
theorem ptold_ptold {G : List PRow} (h : PGood G) : ptold (ptold G) = ptold G := by
  unfold ptold
  rw [List.map_map]
  refine List.map_congr_left fun r hr => ?_
  obtain ⟨_, _, _, d, _⟩ := h.2 r hr
  show (r.1, srt (srt r.2)) = (r.1, srt r.2)
  rw [← srt_is (l := srt r.2) (l' := srt r.2) (((srt_perm r.2).map _).nodup_iff.mpr d) (List.Perm.refl _) (srt_lt d)]
def spLaw (K : PySem.W.Frag) : Sp := fun vs H Q _ => ∃ (a : Addr) (ns : List Int), vs = [.ref a] ∧ SqL K H a (ns.map V.int) ∧ ns.length ≤ 63 ∧ ∀ H', Q (.bl true) H'
theorem ok_law {f : Addr} {fd : FuncData} (F : Fun K "law" "law" s_law f fd) (T : Txt mg) (D_law_rows : Dn P w K mg base "_law_rows" 2 ["_law_script"] (spRowsP K)) (D_law_names : Dn P w K mg base "_law_names" 2 ["_law_script", "_law_many"] (spNames K)) (D_read_purses : Dn P w K mg base "read_purses" 7 ["text"] (spReadP K)) (D_law_text : Dn P w K mg base "_law_text" 1 ["_law_names_here", "_law_rows_here"] (spShowP K)) (D_law_alike : Dn P w K mg base "_law_alike" 5 ["_law_found", "_law_names_here", "_law_game"] spAlike) (D_shown_purses : Dn P w K mg base "shown_purses" 1 ["names", "game"] (spShowP K)) : FnOk P w K mg base CX0 8 f fd ["_law_script"] (spLaw K) := by
  have sc := sc_law
  refine F.ok sc (fun vs H Q E h => ?_) (fun cdv A outer s H vs Q E hr h => ?_)
  · obtain ⟨_, _, rfl, _⟩ := h; rfl
  obtain ⟨a, ns, rfl, hS, h63, q⟩ := h
  refine ⟨_, (pss_cons (ps_set (i := 1) sc.nd rfl (Or.inl rfl) (pe_dn D_law_rows hr (pa_cons (pv 0) pa_nil)))
      (pss_cons (ps_set (i := 2) sc.nd rfl (Or.inl rfl) (pe_dn D_law_names hr (pa_cons (pv 0) (pa_cons (pe_callB (clLen (K := K) rfl) rfl T.b_len PySem.boot_len (pa_cons (pv 1) pa_nil)) pa_nil))))
      (pss_cons (ps_lc (i := 3) (defScope s_law) ["_law_script", "_law_rows_here", "_law_names_here", "_law_game", "_law_found", "_law_line", "_law_row"] ["_law_row"] 1 [] sc.nd rfl rfl (pi_list (pv 1)) (fun _ _ _ _ _ _ => (ptg_name (show List.Nodup (["_law_row"] : List Str) by decide +kernel) rfl rfl)) (fun _ _ _ _ _ _ => pts_nil) (fun _ _ _ _ _ _ => (pe_tup (pa_cons (pe_ix (ixT (K := K) rfl) (pv 0) pe_int (fun _ _ => rfl)) (pa_cons (pe_callB (call_sortedP (K := K) rfl) rfl T.b_sorted PyProof.Rows.boot_sorted (pa_cons (pe_ix (ixT (K := K) rfl) (pv 0) pe_int (fun _ _ => rfl)) pa_nil)) pa_nil)))))
      (pss_cons (ps_set (i := 4) sc.nd rfl (Or.inl rfl) (pe_dn D_read_purses hr (pa_cons (pe_dn D_law_text hr (pa_cons (pv 2) (pa_cons (pv 1) pa_nil))) pa_nil)))
      (pss_cons (ps_if (pt_not (pt_val (pe_dn D_law_alike hr (pa_cons (pv 4) (pa_cons (pv 2) (pa_cons (pv 3) pa_nil))))))
      (pss_one (ps_ret pe_bl))
      pss_nil)
      (pss_cons (ps_set (i := 5) sc.nd rfl (Or.inl rfl) (pe_dn D_shown_purses hr (pa_cons (pe_ix (ixT (K := K) rfl) (pv 4) pe_int (fun _ _ => rfl)) (pa_cons (pe_ix (ixT (K := K) rfl) (pv 4) pe_int (fun _ _ => rfl)) pa_nil))))
      (pss_cons (ps_if (PW.pt (pw_or (pt_not (pt_val (pe_callB (clIsi (K := K) rfl (T := "str")) rfl T.b_isinstance PyProof.Rows.boot_isinstance (pa_cons (pv 5) (pa_cons (pe_bltn (v := .ty "str") rfl T.b_str PyProof.Rows.boot_str rfl) pa_nil))))) (pw_or (pt_cmpR op_ne (pv 5) (pe_dn D_law_text hr (pa_cons (pv 2) (pa_cons (pv 3) pa_nil))) (nomark _)) (pw_or1 (pt_not (pt_val (pe_dn D_law_alike hr (pa_cons (pv 4) (pa_cons (pv 2) (pa_cons (pv 3) pa_nil))))))))))
      (pss_one (ps_ret pe_bl))
      pss_nil)
      (pss_cons (ps_for PassesOwn.never rfl (pi_list (pe_ix (ixT (K := K) rfl) (pv 4) pe_int (fun _ _ => rfl))) (pg_name (i := 6) sc.nd rfl (Or.inl rfl))
      (pss_one (ps_expr (pe_bm0 PySem.F.plainAttrs_list PySem.F.slot_list_clear PySem.F.type_list_clear mt_clear (pe_ix (ixT (K := K) rfl) (pv 6) pe_int (fun _ _ => rfl))))))
      (pss_cons (ps_expr (pe_bm PySem.F.plainAttrs_list PySem.F.slot_list_append PySem.F.type_list_append mt_append (pe_ix (ixT (K := K) rfl) (pv 4) pe_int (fun _ _ => rfl)) (pa_cons pe_str pa_nil)))
      (pss_cons (ps_expr (pe_bm PySem.F.plainAttrs_list PySem.F.slot_list_append PySem.F.type_list_append mt_append (pe_ix (ixT (K := K) rfl) (pv 4) pe_int (fun _ _ => rfl)) (pa_cons (pe_tup (pa_cons pe_int (pa_cons (pe_lst (pa_cons (pe_tup (pa_cons pe_int (pa_cons pe_int pa_nil))) pa_nil)) pa_nil))) pa_nil)))
      (pss_one (ps_ret (pe_and (pe_dn D_law_alike hr (pa_cons (pe_dn D_read_purses hr (pa_cons (pv 5) pa_nil)) (pa_cons (pv 2) (pa_cons (pv 3) pa_nil)))) (pe_one (pe_cmpR op_eq (pe_dn D_shown_purses hr (pa_cons (pv 2) (pa_cons (pv 3) pa_nil))) (pv 5) (nomark _)))))))))))))))), ?_⟩
  refine ⟨_, rfl, a, ns, rfl, hS, fun v H1 G s1 hG hgl => ?_⟩
  obtain ⟨g0, gv, rfl, hg0, hgvl, hrow⟩ := pg_parts hG
  have h16 := hgl.1
  refine ⟨_, rfl, _, rfl, g0, _, rfl, .inl (SqL.of hg0), a, ns, _, rfl, s1.seq hS, by omega, by omega, fun na names H2 s2 hna0 hna hnl hns => ?_⟩
  have hl : names.length = G.length := by omega
  have hG2 := mono_pg.up s2 hG
  have hrI : ∀ r ∈ G, PRowIn names.length r := fun r hr => by rw [hl]; exact pok_in (hgl.2 r hr)
  have hgt := pg_told hgl
  have tl := ptold_len G
  have htI : ∀ r ∈ ptold G, PRowIn names.length r := fun r hr => by rw [hl, ← tl]; exact pok_in (hgt.2 r hr)
  refine ⟨_, rfl, g0, rfl, ⟨_, SqL.of (s2 _ _ hg0)⟩, comp_listD (K := K) (a := g0) (xs := gv) (fun i ys H3 => Same H2 H3 ∧ Paired (rPR H3) ((ptold G).take i) ys) ⟨Same.refl _, .nil⟩ (small (m := 1000) (by omega)) (fun i ys H3 hi h => ?_) (fun i x ys H3 hi h => ?_) (fun ys H3 h gp hgp => ?_)⟩
  · exact ⟨SqL.of (h.1 _ _ (s2 _ _ hg0)), by have := h.2.length; rw [List.length_take] at this; omega⟩
  · obtain ⟨s3, pr⟩ := h
    have hil : i < G.length := by have := (List.getElem?_eq_some_iff.mp hi).1; omega
    obtain ⟨row, hrw⟩ : ∃ row, G[i]? = some row := ⟨G[i], by simp⟩
    obtain ⟨t, wa, ts, p1, p2, p3, p4⟩ := hrow i row hrw
    rw [hi] at p1; cases p1
    obtain ⟨_, _, _, hnd, h60⟩ := hgl.2 row (List.mem_of_getElem? hrw)
    have p2' := s3 _ _ (s2 _ _ p2)
    have p3' := p3.up (s2.trans s3)
    have htl : ts.length ≤ 60 := by rw [← p4, List.length_map] at h60; exact h60
    have hndt : (ts.map fun t => t.2.1).Nodup := by
      have h2 : ((ts.map fun t => t.2).map fun w => w.1).Nodup := by rw [p4]; exact hnd
      rwa [List.map_map] at h2
    refine comp_yes ?_
    refine ⟨_, rfl, t, _, _, _, rfl, rfl, SqT.of p2', atI_nat (j := 0) rfl, _, rfl, t, _, _, _, rfl, rfl, SqT.of p2', atI_nat (j := 1) rfl, wa, ts, rfl, SqL.of p3'.1, by omega, fun u hu => SqT.of (p3'.2 u hu), hndt, fun l us' hl pm pw => ?_⟩
    refine ⟨(by show 2 ≤ sizeLine; decide), fun t2 ht2 => ?_⟩
    have e4 : us'.map (fun u => u.2) = srt row.2 := by
      refine srt_is hnd ?_ (by rw [List.pairwise_map]; exact pw)
      rw [← p4]
      exact pm.map _
    have sl := same_upd hl (.lst (us'.map fun u => V.ref u.1))
    have s4 := sl.trans (same_upd ht2 (.tup [.int row.1, .ref l]))
    refine ⟨s3.trans s4, ?_⟩
    rw [List.take_add_one, ptold_at hrw]
    refine Paired.app (paired_mono mono_pr s4 pr) (.cons ?_ .nil)
    have W : WaysAt (upd (upd H3 l (.lst (us'.map fun u => V.ref u.1))) t2 (.tup [.int row.1, .ref l])) l us' := ⟨same_upd ht2 _ _ _ upd_same, fun u hu => s4 _ _ (p3'.2 u (pm.mem_iff.mp hu))⟩
    have R := W.rel
    rw [e4] at R
    exact ⟨t2, _, _, rfl, upd_same, rfl, R⟩
  obtain ⟨s3, pr⟩ := h
  rw [hgvl, ← tl, List.take_length] at pr
  have s4 := s3.trans (same_upd hgp (.lst ys))
  have hD4 : rPG (upd H3 gp (.lst ys)) (ptold G) (.ref gp) := ⟨gp, ys, rfl, upd_same, paired_mono mono_pr (same_upd hgp _) pr⟩
  generalize upd H3 gp (.lst ys) = H4 at s4 hD4 ⊢
  have hna4 := s4 _ _ hna
  refine ⟨_, rfl, _, rfl, na, .ref g0, names, G, rfl, SqL.of hna4, mono_pg.up s4 hG2, hl, by omega, hns, hrI, fun H5 s5 => ?_⟩
  refine ⟨names, G, rfl, hl, hns, hgl, fun p n v B1 B2 H6 sb1 sb2 sb3 hp0 hp hn0 hn hv => ?_⟩
  have s45 := s5.trans sb1
  have hD6 := mono_pg.up (s45.trans (sb2.trans sb3)) hD4
  have hna6 := (s45.trans (sb2.trans sb3)) _ _ hna4
  have hv6 := mono_pg.up ((newp_same _ _).trans sb3) hv
  have hn6 := (sb2.trans sb3) _ _ hn
  refine ⟨_, rfl, _, rfl, _, rfl, p, n, na, v, .ref gp, names, ptold G, rfl, hp, hn6, hv6, hna6, hD6, by omega, ?_⟩
  refine ⟨_, rfl, ?_⟩
  refine iteF ?_
  refine ⟨_, rfl, p, _, _, _, rfl, rfl, SqT.of hp, atI_nat (j := 0) rfl, _, rfl, p, _, _, _, rfl, rfl, SqT.of hp, atI_nat (j := 1) rfl, n, v, names, ptold G, rfl, SqL.of hn6, hv6, by omega, by omega, hns, htI, fun H8 s8 => ?_⟩
  refine ⟨_, rfl, _, "str", _, rfl, rfl, isi_same _, _, rfl, ?_⟩
  refine iteF ?_
  refine ⟨_, rfl, _, rfl, _, rfl, na, .ref gp, names, ptold G, rfl, SqL.of (s8 _ _ hna6), mono_pg.up s8 hD6, by omega, by omega, hns, htI, fun H9 s9 => ?_⟩
  refine ⟨rfl, _, rfl, ?_⟩
  refine ite2 (fun c => ?_) (fun _ => ?_)
  · simp at c
  have sT := s8.trans s9
  refine ⟨_, rfl, _, rfl, _, rfl, p, n, na, v, .ref gp, names, ptold G, rfl, sT _ _ hp, sT _ _ hn6, mono_pg.up sT hv6, sT _ _ hna6, mono_pg.up sT hD6, by omega, ?_⟩
  refine ⟨_, rfl, ?_⟩
  refine iteF ?_
  obtain ⟨f0, _, rfl, _⟩ := id hv
  obtain ⟨fv, fvl, fvB, L0⟩ := LooseP.start (B1 := B1) (B2 := newp B2 H6) hv (((newp_same _ _).trans sb3).trans sT) (fun b o e => newp_not e) (fun b o e => newp_none (newp_same _ _ _ _ e))
  have hf1 : B1 f0 = none := newp_not fvB
  have hp2 : newp B2 H6 p = some (.tup [.ref n, .ref f0]) := by rw [newp_at hp0]; exact hp
  have k10 : Same (newp B2 H6) H9 := (newp_same _ _).trans sT
  have b10 : Same B1 H9 := sb2.trans (sb3.trans sT)
  refine ⟨_, rfl, p, _, _, _, rfl, rfl, SqT.of (sT _ _ hp), atI_nat (j := 1) rfl, f0, rfl, ⟨_, SqL.of L0.1⟩, for_list (K := K) (a := f0) (xs := fv) (fun i σ HD => ∃ y : Option V, σ = [some (.ref a), some (.ref g0), some (.ref na), some (.ref gp), some (.ref p), some (.str (pgT names (ptold G))), y] ∧ Same B1 HD ∧ Same (newp B2 H6) HD ∧ LooseP B1 (newp B2 H6) f0 fv HD)
    ⟨_, rfl, b10, k10, L0⟩ (fun i σ HD _ h => ?_) (fun i x σ HD hi h => ?_) (fun σ HD h => ?_)⟩
  · obtain ⟨_, _, _, _, L⟩ := h
    exact SqL.of L.1
  · obtain ⟨y, rfl, sD, kD, L6⟩ := h
    obtain ⟨t, wa, hd, Lw, rfl, q2, q3, q4, q5, q6⟩ := L6.2 i x hi
    refine ⟨_, rfl, t, _, _, _, rfl, rfl, SqT.of q2, atI_nat (j := 1) rfl, .inl ⟨rfl, _, SqL.of q6⟩, wa, _, rfl, rfl, q6, ?_⟩
    exact ⟨_, rfl, sD.put q4 _, kD.put q5 _, L6.put q3 q6⟩
  obtain ⟨y, rfl, sD, kD, L6⟩ := h
  have hpD := kD _ _ hp2
  have hnD := sD _ _ hn
  have hnp : p ≠ n := fun z => by rw [z, hnD] at hpD; cases hpD
  have hn4 : H4 n = none := s5.free hn0
  have hf4 : H4 f0 = none := s45.free hf1
  refine ⟨_, rfl, p, _, _, _, rfl, rfl, SqT.of hpD, atI_nat (j := 0) rfl, .inl ⟨rfl, _, SqL.of hnD⟩, n, _, _, rfl, rfl, hnD, smlt (m := 2000) (by rw [List.length_map]; omega), ?_⟩
  have sE := (s45.trans sD).put hn4 (.lst (names.map V.str ++ [V.str "new"]))
  have hpE : upd HD n (.lst (names.map V.str ++ [V.str "new"])) p = some (.tup [.ref n, .ref f0]) := by rw [upd_ne hnp]; exact hpD
  have hnf : f0 ≠ n := fun z => by
    have := hn
    rw [← z, hf1] at this; cases this
  have hfE : upd HD n (.lst (names.map V.str ++ [V.str "new"])) f0 = some (.lst fv) := by rw [upd_ne hnf]; exact L6.1
  generalize upd HD n (.lst (names.map V.str ++ [V.str "new"])) = HE at sE hpE hfE ⊢
  refine ⟨_, rfl, p, _, _, _, rfl, rfl, SqT.of hpE, atI_nat (j := 1) rfl, .inl ⟨rfl, _, SqL.of hfE⟩, (by show 2 ≤ sizeLine; decide), fun t1 ht1 => ⟨(by show 1 ≤ sizeLine; decide), fun t2 ht2 => ⟨(by show 2 ≤ sizeLine; decide), fun t3 ht3 => ?_⟩⟩⟩
  have sx := (same_upd ht1 (.tup [.int 0, .int 1])).trans ((same_upd ht2 (.lst [V.ref t1])).trans (same_upd ht3 (.tup [.int 0, .ref t2])))
  refine ⟨f0, _, _, rfl, rfl, sx _ _ hfE, smlt (m := 2000) (by omega), ?_⟩
  have sF := (sE.trans sx).put hf4 (.lst (fv ++ [V.ref t3]))
  generalize upd (upd (upd (upd HE t1 (.tup [.int 0, .int 1])) t2 (.lst [V.ref t1])) t3 (.tup [.int 0, .ref t2])) f0 (.lst (fv ++ [V.ref t3])) = HF at sF ⊢
  refine ⟨_, rfl, names, ptold G, rfl, by omega, hns, hgt, fun p2 n2 v2 C1 C2 HG sc1 sc2 sc3 hq0 hq hm0 hm hw => ?_⟩
  rw [ptold_ptold hgl] at hw
  have sFG := sc1.trans (sc2.trans sc3)
  have s4G := sF.trans sFG
  refine ⟨_, rfl, _, rfl, p2, n2, na, v2, .ref gp, names, ptold G, rfl, hq, (sc2.trans sc3) _ _ hm, mono_pg.up ((newp_same _ _).trans sc3) hw, s4G _ _ hna4, mono_pg.up s4G hD4, by omega, ?_⟩
  refine ⟨_, rfl, ?_⟩
  refine iteT ?_
  refine ⟨_, rfl, _, rfl, na, .ref gp, names, ptold G, rfl, SqL.of (s4G _ _ hna4), mono_pg.up s4G hD4, by omega, by omega, hns, htI, fun HI sI => ?_⟩
  refine ⟨_, rfl, rfl, ?_⟩
  rw [decide_eq_true rfl]
  exact q _
theorem main {f : Addr} {fd : FuncData} (T : Txt mg) (XC : XT K mg "GarthError" xRs xNs) (A1 : DefAt K mg "is_whole" s_is_whole ["value"]) (A2 : DefAt K mg "is_place" s_is_place ["value", "count"]) (A3 : DefAt K mg "check_hand" s_check_hand ["hand"]) (A4 : DefAt K mg "check_ways" s_check_ways ["ways", "count"]) (A5 : DefAt K mg "check_purse_ways" s_check_purse_ways ["ways", "count"]) (A6 : DefAt K mg "check_amounts" s_check_amounts ["ways"]) (A7 : DefAt K mg "check_purse_rows" s_check_purse_rows ["rows"]) (A8 : DefAt K mg "purse_game" s_purse_game ["rows"]) (A9 : DefAt K mg "is_made_of" s_is_made_of ["word", "signs", "most"]) (A10 : DefAt K mg "is_name" s_is_name ["word"]) (A11 : DefAt K mg "is_figures" s_is_figures ["word", "most"]) (A12 : DefAt K mg "is_amount" s_is_amount ["word"]) (A13 : DefAt K mg "check_form" s_check_form ["right"]) (A14 : DefAt K mg "places_told" s_places_told ["text"]) (A15 : DefAt K mg "read_head" s_read_head ["word"]) (A16 : DefAt K mg "read_purse_way" s_read_purse_way ["word"]) (A17 : DefAt K mg "read_purse_place" s_read_purse_place ["text"]) (A18 : DefAt K mg "numbered" s_numbered ["names"]) (A19 : DefAt K mg "number_of" s_number_of ["numbers", "name"]) (A20 : DefAt K mg "read_purses" s_read_purses ["text"]) (A21 : DefAt K mg "shown_purses" s_shown_purses ["names", "game"]) (A22 : DefAt K mg "_law_cell_at" s_law_cell_at ["_law_script", "_law_k"]) (A23 : DefAt K mg "_law_whole" s_law_whole ["_law_found"]) (A24 : DefAt K mg "_law_names" s_law_names ["_law_script", "_law_many"]) (A25 : DefAt K mg "_law_amount" s_law_amount ["_law_cell"]) (A26 : DefAt K mg "_law_rows" s_law_rows ["_law_script"]) (A27 : DefAt K mg "_law_text" s_law_text ["_law_names_here", "_law_rows_here"]) (A28 : DefAt K mg "_law_alike" s_law_alike ["_law_found", "_law_names_here", "_law_game"])
    (F : Fun K "law" "law" s_law f fd) : FnOk P w K mg base CX0 8 f fd ["_law_script"] (spLaw K) := by
  have iw := ok_is_whole (P := P) (w := w) (base := base) A1 T
  have ip := ok_is_place A2 T iw
  have cp := ok_cpr A7 T XC (ok_check_hand A3 T XC iw) (ok_cpw A5 T XC (ok_check_ways A4 T XC ip)) (ok_ca A6 T XC iw)
  have pg := ok_purse A8 T XC cp
  have md := ok_made (P := P) (w := w) (base := base) A9 T
  have nm := ok_name A10 T md
  have cf := ok_form (P := P) (w := w) (base := base) A13 T
  have rd := ok_readP A20 T (ok_told A14 T cf) (ok_pplace A17 T (ok_head A15 T cf nm) cf (ok_pway A16 T cf nm (ok_isamt A12 T (ok_fig A11 T md)))) (ok_numbered A18 T) (ok_numof A19 T) pg
  have ce := ok_cell (P := P) (w := w) (base := base) A22 T
  exact ok_law F T (ok_rows A26 T ce (ok_amt A25 T)) (ok_names A24 T ce) rd (ok_text A27 T) (ok_alike A28 T (ok_whole A23 T)) (ok_shownP A21 T)
end
theorem all_mk {l : PySem.W.OpenLaw} {w : World} {K : PySem.W.Frag} {h : Heap} {mg : Str → Option Value} {fa f1 f2 f3 f4 f5 f6 f7 f8 f9 f10 f11 f12 f13 f14 f15 f16 f17 f18 f19 f20 f21 f22 f23 f24 f25 f26 f27 f28 f29 : Addr} (X : K.In h) (G : h.Ns mainGlobals mg) (hfa : mg "law" = some (.ref fa))
    {od1 an1 od2 an2 od3 an3 od4 an4 od5 an5 od6 an6 od7 an7 od8 an8 od9 an9 od10 an10 od11 an11 od12 an12 od13 an13 od14 an14 od15 an15 od16 an16 od17 an17 od18 an18 od19 an19 od20 an20 od21 an21 od22 an22 od23 an23 od24 an24 od25 an25 od26 an26 od27 an27 od28 an28 od29 an29 : Option Addr} {sl1 sl2 sl3 sl4 sl5 sl6 sl7 sl8 sl9 sl10 sl11 sl12 sl13 sl14 sl15 sl16 sl17 sl18 sl19 sl20 sl21 sl22 sl23 sl24 sl25 sl26 sl27 sl28 sl29 : Array (Option Value)} {oc1 kV1 dc1 pm1 cd1 ct1 oc2 kV2 dc2 pm2 cd2 ct2 oc3 kV3 dc3 pm3 cd3 ct3 oc4 kV4 dc4 pm4 cd4 ct4 oc5 kV5 dc5 pm5 cd5 ct5 oc6 kV6 dc6 pm6 cd6 ct6 oc7 kV7 dc7 pm7 cd7 ct7 oc8 kV8 dc8 pm8 cd8 ct8 oc9 kV9 dc9 pm9 cd9 ct9 oc10 kV10 dc10 pm10 cd10 ct10 oc11 kV11 dc11 pm11 cd11 ct11 oc12 kV12 dc12 pm12 cd12 ct12 oc13 kV13 dc13 pm13 cd13 ct13 oc14 kV14 dc14 pm14 cd14 ct14 oc15 kV15 dc15 pm15 cd15 ct15 oc16 kV16 dc16 pm16 cd16 ct16 oc17 kV17 dc17 pm17 cd17 ct17 oc18 kV18 dc18 pm18 cd18 ct18 oc19 kV19 dc19 pm19 cd19 ct19 oc20 kV20 dc20 pm20 cd20 ct20 oc21 kV21 dc21 pm21 cd21 ct21 oc22 kV22 dc22 pm22 cd22 ct22 oc23 kV23 dc23 pm23 cd23 ct23 oc24 kV24 dc24 pm24 cd24 ct24 oc25 kV25 dc25 pm25 cd25 ct25 oc26 kV26 dc26 pm26 cd26 ct26 oc27 kV27 dc27 pm27 cd27 ct27 oc28 kV28 dc28 pm28 cd28 ct28 oc29 kV29 dc29 pm29 cd29 ct29 : Value}
    (a1 : PySem.W.nsIn K mainGlobals "is_whole" = some (some (.ref f1))) (l1 : K.lookup f1 = some ⟨oc1, od1, .func (PySem.W.fnOf "is_whole" "is_whole" (defArgs s_is_whole) (defBody s_is_whole) (defScope s_is_whole) .none kV1 dc1 pm1 an1 cd1 ct1), sl1⟩) (c1 : PySem.W.codeIn K cd1 "is_whole" = true) (k1 : PySem.W.keepIn K (.ref f1) = true)
    (a2 : PySem.W.nsIn K mainGlobals "is_place" = some (some (.ref f2))) (l2 : K.lookup f2 = some ⟨oc2, od2, .func (PySem.W.fnOf "is_place" "is_place" (defArgs s_is_place) (defBody s_is_place) (defScope s_is_place) .none kV2 dc2 pm2 an2 cd2 ct2), sl2⟩) (c2 : PySem.W.codeIn K cd2 "is_place" = true) (k2 : PySem.W.keepIn K (.ref f2) = true)
    (a3 : PySem.W.nsIn K mainGlobals "check_hand" = some (some (.ref f3))) (l3 : K.lookup f3 = some ⟨oc3, od3, .func (PySem.W.fnOf "check_hand" "check_hand" (defArgs s_check_hand) (defBody s_check_hand) (defScope s_check_hand) .none kV3 dc3 pm3 an3 cd3 ct3), sl3⟩) (c3 : PySem.W.codeIn K cd3 "check_hand" = true) (k3 : PySem.W.keepIn K (.ref f3) = true)
    (a4 : PySem.W.nsIn K mainGlobals "check_ways" = some (some (.ref f4))) (l4 : K.lookup f4 = some ⟨oc4, od4, .func (PySem.W.fnOf "check_ways" "check_ways" (defArgs s_check_ways) (defBody s_check_ways) (defScope s_check_ways) .none kV4 dc4 pm4 an4 cd4 ct4), sl4⟩) (c4 : PySem.W.codeIn K cd4 "check_ways" = true) (k4 : PySem.W.keepIn K (.ref f4) = true)
    (a5 : PySem.W.nsIn K mainGlobals "check_purse_ways" = some (some (.ref f5))) (l5 : K.lookup f5 = some ⟨oc5, od5, .func (PySem.W.fnOf "check_purse_ways" "check_purse_ways" (defArgs s_check_purse_ways) (defBody s_check_purse_ways) (defScope s_check_purse_ways) .none kV5 dc5 pm5 an5 cd5 ct5), sl5⟩) (c5 : PySem.W.codeIn K cd5 "check_purse_ways" = true) (k5 : PySem.W.keepIn K (.ref f5) = true)
    (a6 : PySem.W.nsIn K mainGlobals "check_amounts" = some (some (.ref f6))) (l6 : K.lookup f6 = some ⟨oc6, od6, .func (PySem.W.fnOf "check_amounts" "check_amounts" (defArgs s_check_amounts) (defBody s_check_amounts) (defScope s_check_amounts) .none kV6 dc6 pm6 an6 cd6 ct6), sl6⟩) (c6 : PySem.W.codeIn K cd6 "check_amounts" = true) (k6 : PySem.W.keepIn K (.ref f6) = true)
    (a7 : PySem.W.nsIn K mainGlobals "check_purse_rows" = some (some (.ref f7))) (l7 : K.lookup f7 = some ⟨oc7, od7, .func (PySem.W.fnOf "check_purse_rows" "check_purse_rows" (defArgs s_check_purse_rows) (defBody s_check_purse_rows) (defScope s_check_purse_rows) .none kV7 dc7 pm7 an7 cd7 ct7), sl7⟩) (c7 : PySem.W.codeIn K cd7 "check_purse_rows" = true) (k7 : PySem.W.keepIn K (.ref f7) = true)
    (a8 : PySem.W.nsIn K mainGlobals "purse_game" = some (some (.ref f8))) (l8 : K.lookup f8 = some ⟨oc8, od8, .func (PySem.W.fnOf "purse_game" "purse_game" (defArgs s_purse_game) (defBody s_purse_game) (defScope s_purse_game) .none kV8 dc8 pm8 an8 cd8 ct8), sl8⟩) (c8 : PySem.W.codeIn K cd8 "purse_game" = true) (k8 : PySem.W.keepIn K (.ref f8) = true)
    (a9 : PySem.W.nsIn K mainGlobals "is_made_of" = some (some (.ref f9))) (l9 : K.lookup f9 = some ⟨oc9, od9, .func (PySem.W.fnOf "is_made_of" "is_made_of" (defArgs s_is_made_of) (defBody s_is_made_of) (defScope s_is_made_of) .none kV9 dc9 pm9 an9 cd9 ct9), sl9⟩) (c9 : PySem.W.codeIn K cd9 "is_made_of" = true) (k9 : PySem.W.keepIn K (.ref f9) = true)
    (a10 : PySem.W.nsIn K mainGlobals "is_name" = some (some (.ref f10))) (l10 : K.lookup f10 = some ⟨oc10, od10, .func (PySem.W.fnOf "is_name" "is_name" (defArgs s_is_name) (defBody s_is_name) (defScope s_is_name) .none kV10 dc10 pm10 an10 cd10 ct10), sl10⟩) (c10 : PySem.W.codeIn K cd10 "is_name" = true) (k10 : PySem.W.keepIn K (.ref f10) = true)
    (a11 : PySem.W.nsIn K mainGlobals "is_figures" = some (some (.ref f11))) (l11 : K.lookup f11 = some ⟨oc11, od11, .func (PySem.W.fnOf "is_figures" "is_figures" (defArgs s_is_figures) (defBody s_is_figures) (defScope s_is_figures) .none kV11 dc11 pm11 an11 cd11 ct11), sl11⟩) (c11 : PySem.W.codeIn K cd11 "is_figures" = true) (k11 : PySem.W.keepIn K (.ref f11) = true)
    (a12 : PySem.W.nsIn K mainGlobals "is_amount" = some (some (.ref f12))) (l12 : K.lookup f12 = some ⟨oc12, od12, .func (PySem.W.fnOf "is_amount" "is_amount" (defArgs s_is_amount) (defBody s_is_amount) (defScope s_is_amount) .none kV12 dc12 pm12 an12 cd12 ct12), sl12⟩) (c12 : PySem.W.codeIn K cd12 "is_amount" = true) (k12 : PySem.W.keepIn K (.ref f12) = true)
    (a13 : PySem.W.nsIn K mainGlobals "check_form" = some (some (.ref f13))) (l13 : K.lookup f13 = some ⟨oc13, od13, .func (PySem.W.fnOf "check_form" "check_form" (defArgs s_check_form) (defBody s_check_form) (defScope s_check_form) .none kV13 dc13 pm13 an13 cd13 ct13), sl13⟩) (c13 : PySem.W.codeIn K cd13 "check_form" = true) (k13 : PySem.W.keepIn K (.ref f13) = true)
    (a14 : PySem.W.nsIn K mainGlobals "places_told" = some (some (.ref f14))) (l14 : K.lookup f14 = some ⟨oc14, od14, .func (PySem.W.fnOf "places_told" "places_told" (defArgs s_places_told) (defBody s_places_told) (defScope s_places_told) .none kV14 dc14 pm14 an14 cd14 ct14), sl14⟩) (c14 : PySem.W.codeIn K cd14 "places_told" = true) (k14 : PySem.W.keepIn K (.ref f14) = true)
    (a15 : PySem.W.nsIn K mainGlobals "read_head" = some (some (.ref f15))) (l15 : K.lookup f15 = some ⟨oc15, od15, .func (PySem.W.fnOf "read_head" "read_head" (defArgs s_read_head) (defBody s_read_head) (defScope s_read_head) .none kV15 dc15 pm15 an15 cd15 ct15), sl15⟩) (c15 : PySem.W.codeIn K cd15 "read_head" = true) (k15 : PySem.W.keepIn K (.ref f15) = true)
    (a16 : PySem.W.nsIn K mainGlobals "read_purse_way" = some (some (.ref f16))) (l16 : K.lookup f16 = some ⟨oc16, od16, .func (PySem.W.fnOf "read_purse_way" "read_purse_way" (defArgs s_read_purse_way) (defBody s_read_purse_way) (defScope s_read_purse_way) .none kV16 dc16 pm16 an16 cd16 ct16), sl16⟩) (c16 : PySem.W.codeIn K cd16 "read_purse_way" = true) (k16 : PySem.W.keepIn K (.ref f16) = true)
    (a17 : PySem.W.nsIn K mainGlobals "read_purse_place" = some (some (.ref f17))) (l17 : K.lookup f17 = some ⟨oc17, od17, .func (PySem.W.fnOf "read_purse_place" "read_purse_place" (defArgs s_read_purse_place) (defBody s_read_purse_place) (defScope s_read_purse_place) .none kV17 dc17 pm17 an17 cd17 ct17), sl17⟩) (c17 : PySem.W.codeIn K cd17 "read_purse_place" = true) (k17 : PySem.W.keepIn K (.ref f17) = true)
    (a18 : PySem.W.nsIn K mainGlobals "numbered" = some (some (.ref f18))) (l18 : K.lookup f18 = some ⟨oc18, od18, .func (PySem.W.fnOf "numbered" "numbered" (defArgs s_numbered) (defBody s_numbered) (defScope s_numbered) .none kV18 dc18 pm18 an18 cd18 ct18), sl18⟩) (c18 : PySem.W.codeIn K cd18 "numbered" = true) (k18 : PySem.W.keepIn K (.ref f18) = true)
    (a19 : PySem.W.nsIn K mainGlobals "number_of" = some (some (.ref f19))) (l19 : K.lookup f19 = some ⟨oc19, od19, .func (PySem.W.fnOf "number_of" "number_of" (defArgs s_number_of) (defBody s_number_of) (defScope s_number_of) .none kV19 dc19 pm19 an19 cd19 ct19), sl19⟩) (c19 : PySem.W.codeIn K cd19 "number_of" = true) (k19 : PySem.W.keepIn K (.ref f19) = true)
    (a20 : PySem.W.nsIn K mainGlobals "read_purses" = some (some (.ref f20))) (l20 : K.lookup f20 = some ⟨oc20, od20, .func (PySem.W.fnOf "read_purses" "read_purses" (defArgs s_read_purses) (defBody s_read_purses) (defScope s_read_purses) .none kV20 dc20 pm20 an20 cd20 ct20), sl20⟩) (c20 : PySem.W.codeIn K cd20 "read_purses" = true) (k20 : PySem.W.keepIn K (.ref f20) = true)
    (a21 : PySem.W.nsIn K mainGlobals "shown_purses" = some (some (.ref f21))) (l21 : K.lookup f21 = some ⟨oc21, od21, .func (PySem.W.fnOf "shown_purses" "shown_purses" (defArgs s_shown_purses) (defBody s_shown_purses) (defScope s_shown_purses) .none kV21 dc21 pm21 an21 cd21 ct21), sl21⟩) (c21 : PySem.W.codeIn K cd21 "shown_purses" = true) (k21 : PySem.W.keepIn K (.ref f21) = true)
    (a22 : PySem.W.nsIn K mainGlobals "_law_cell_at" = some (some (.ref f22))) (l22 : K.lookup f22 = some ⟨oc22, od22, .func (PySem.W.fnOf "_law_cell_at" "_law_cell_at" (defArgs s_law_cell_at) (defBody s_law_cell_at) (defScope s_law_cell_at) .none kV22 dc22 pm22 an22 cd22 ct22), sl22⟩) (c22 : PySem.W.codeIn K cd22 "_law_cell_at" = true) (k22 : PySem.W.keepIn K (.ref f22) = true)
    (a23 : PySem.W.nsIn K mainGlobals "_law_whole" = some (some (.ref f23))) (l23 : K.lookup f23 = some ⟨oc23, od23, .func (PySem.W.fnOf "_law_whole" "_law_whole" (defArgs s_law_whole) (defBody s_law_whole) (defScope s_law_whole) .none kV23 dc23 pm23 an23 cd23 ct23), sl23⟩) (c23 : PySem.W.codeIn K cd23 "_law_whole" = true) (k23 : PySem.W.keepIn K (.ref f23) = true)
    (a24 : PySem.W.nsIn K mainGlobals "_law_names" = some (some (.ref f24))) (l24 : K.lookup f24 = some ⟨oc24, od24, .func (PySem.W.fnOf "_law_names" "_law_names" (defArgs s_law_names) (defBody s_law_names) (defScope s_law_names) .none kV24 dc24 pm24 an24 cd24 ct24), sl24⟩) (c24 : PySem.W.codeIn K cd24 "_law_names" = true) (k24 : PySem.W.keepIn K (.ref f24) = true)
    (a25 : PySem.W.nsIn K mainGlobals "_law_amount" = some (some (.ref f25))) (l25 : K.lookup f25 = some ⟨oc25, od25, .func (PySem.W.fnOf "_law_amount" "_law_amount" (defArgs s_law_amount) (defBody s_law_amount) (defScope s_law_amount) .none kV25 dc25 pm25 an25 cd25 ct25), sl25⟩) (c25 : PySem.W.codeIn K cd25 "_law_amount" = true) (k25 : PySem.W.keepIn K (.ref f25) = true)
    (a26 : PySem.W.nsIn K mainGlobals "_law_rows" = some (some (.ref f26))) (l26 : K.lookup f26 = some ⟨oc26, od26, .func (PySem.W.fnOf "_law_rows" "_law_rows" (defArgs s_law_rows) (defBody s_law_rows) (defScope s_law_rows) .none kV26 dc26 pm26 an26 cd26 ct26), sl26⟩) (c26 : PySem.W.codeIn K cd26 "_law_rows" = true) (k26 : PySem.W.keepIn K (.ref f26) = true)
    (a27 : PySem.W.nsIn K mainGlobals "_law_text" = some (some (.ref f27))) (l27 : K.lookup f27 = some ⟨oc27, od27, .func (PySem.W.fnOf "_law_text" "_law_text" (defArgs s_law_text) (defBody s_law_text) (defScope s_law_text) .none kV27 dc27 pm27 an27 cd27 ct27), sl27⟩) (c27 : PySem.W.codeIn K cd27 "_law_text" = true) (k27 : PySem.W.keepIn K (.ref f27) = true)
    (a28 : PySem.W.nsIn K mainGlobals "_law_alike" = some (some (.ref f28))) (l28 : K.lookup f28 = some ⟨oc28, od28, .func (PySem.W.fnOf "_law_alike" "_law_alike" (defArgs s_law_alike) (defBody s_law_alike) (defScope s_law_alike) .none kV28 dc28 pm28 an28 cd28 ct28), sl28⟩) (c28 : PySem.W.codeIn K cd28 "_law_alike" = true) (k28 : PySem.W.keepIn K (.ref f28) = true)
    (a29 : PySem.W.nsIn K mainGlobals "law" = some (some (.ref f29))) (l29 : K.lookup f29 = some ⟨oc29, od29, .func (PySem.W.fnOf "law" "law" (defArgs s_law) (defBody s_law) (defScope s_law) .none kV29 dc29 pm29 an29 cd29 ct29), sl29⟩) (c29 : PySem.W.codeIn K cd29 "law" = true) (k29 : PySem.W.keepIn K (.ref f29) = true)
    {tk_FIGURES : Tok} (g_FIGURES : PySem.W.nsIn K mainGlobals "FIGURES" = some (some (.str "0123456789" tk_FIGURES))) {tk_HAND_SIGNS : Tok} (g_HAND_SIGNS : PySem.W.nsIn K mainGlobals "HAND_SIGNS" = some (some (.str "+-" tk_HAND_SIGNS))) {tk_LETTERS : Tok} (g_LETTERS : PySem.W.nsIn K mainGlobals "LETTERS" = some (some (.str "abcdefghijklmnopqrstuvwxyz" tk_LETTERS))) {tk_MOST_AMOUNT_FIGURES : Tok} (g_MOST_AMOUNT_FIGURES : PySem.W.nsIn K mainGlobals "MOST_AMOUNT_FIGURES" = some (some (.int 60 tk_MOST_AMOUNT_FIGURES))) {tk_MOST_LETTERS : Tok} (g_MOST_LETTERS : PySem.W.nsIn K mainGlobals "MOST_LETTERS" = some (some (.int 8 tk_MOST_LETTERS))) {tk_MOST_PURSE_PLACES : Tok} (g_MOST_PURSE_PLACES : PySem.W.nsIn K mainGlobals "MOST_PURSE_PLACES" = some (some (.int 16 tk_MOST_PURSE_PLACES)))
    (xall : xcFacts K "GarthError" xRs xNs = true)
    (z_abs : PySem.W.nsIn K mainGlobals "abs" = some none) (z_all : PySem.W.nsIn K mainGlobals "all" = some none) (z_bool : PySem.W.nsIn K mainGlobals "bool" = some none) (z_dict : PySem.W.nsIn K mainGlobals "dict" = some none) (z_enumerate : PySem.W.nsIn K mainGlobals "enumerate" = some none) (z_int : PySem.W.nsIn K mainGlobals "int" = some none) (z_isinstance : PySem.W.nsIn K mainGlobals "isinstance" = some none) (z_len : PySem.W.nsIn K mainGlobals "len" = some none) (z_list : PySem.W.nsIn K mainGlobals "list" = some none) (z_range : PySem.W.nsIn K mainGlobals "range" = some none) (z_set : PySem.W.nsIn K mainGlobals "set" = some none) (z_sorted : PySem.W.nsIn K mainGlobals "sorted" = some none) (z_str : PySem.W.nsIn K mainGlobals "str" = some none) (z_tuple : PySem.W.nsIn K mainGlobals "tuple" = some none) (z_zip : PySem.W.nsIn K mainGlobals "zip" = some none) :
    ∃ fd : FuncData, (∀ (s : Shared) (v : Value), BindsTo s fd ⟨[v], []⟩ [("_law_script", v)]) ∧ ∀ base : Heap, K.In base → base.Ns mainGlobals mg → FnOk l.prog w K mg base CX0 8 fa fd ["_law_script"] (spLaw K) := by
  have e := hfa.symm.trans (PySem.W.mg_of X G a29)
  cases e
  have T : Txt mg := ⟨PySem.W.mg_none_of X G z_abs, PySem.W.mg_none_of X G z_all, PySem.W.mg_none_of X G z_bool, PySem.W.mg_none_of X G z_dict, PySem.W.mg_none_of X G z_enumerate, PySem.W.mg_none_of X G z_int, PySem.W.mg_none_of X G z_isinstance, PySem.W.mg_none_of X G z_len, PySem.W.mg_none_of X G z_list, PySem.W.mg_none_of X G z_range, PySem.W.mg_none_of X G z_set, PySem.W.mg_none_of X G z_sorted, PySem.W.mg_none_of X G z_str, PySem.W.mg_none_of X G z_tuple, PySem.W.mg_none_of X G z_zip, ⟨_, PySem.W.mg_of X G g_FIGURES⟩, ⟨_, PySem.W.mg_of X G g_HAND_SIGNS⟩, ⟨_, PySem.W.mg_of X G g_LETTERS⟩, ⟨_, PySem.W.mg_of X G g_MOST_AMOUNT_FIGURES⟩, ⟨_, PySem.W.mg_of X G g_MOST_LETTERS⟩, ⟨_, PySem.W.mg_of X G g_MOST_PURSE_PLACES⟩⟩
  have XC := xt_of X G xall
  have F1 := fun_mk (st := s_is_whole) l1 c1 k1
  have B1 := F1.binds (ps := ["value"]) fun _ _ _ _ _ _ => L2.arg1 fun _ => rfl
  have A1 : DefAt K mg "is_whole" s_is_whole ["value"] := ⟨f1, _, F1, PySem.W.mg_of X G a1, B1⟩
  have F2 := fun_mk (st := s_is_place) l2 c2 k2
  have B2 := F2.binds (ps := ["value", "count"]) fun _ _ _ _ _ _ => L2.arg2 fun _ _ => rfl
  have A2 : DefAt K mg "is_place" s_is_place ["value", "count"] := ⟨f2, _, F2, PySem.W.mg_of X G a2, B2⟩
  have F3 := fun_mk (st := s_check_hand) l3 c3 k3
  have B3 := F3.binds (ps := ["hand"]) fun _ _ _ _ _ _ => L2.arg1 fun _ => rfl
  have A3 : DefAt K mg "check_hand" s_check_hand ["hand"] := ⟨f3, _, F3, PySem.W.mg_of X G a3, B3⟩
  have F4 := fun_mk (st := s_check_ways) l4 c4 k4
  have B4 := F4.binds (ps := ["ways", "count"]) fun _ _ _ _ _ _ => L2.arg2 fun _ _ => rfl
  have A4 : DefAt K mg "check_ways" s_check_ways ["ways", "count"] := ⟨f4, _, F4, PySem.W.mg_of X G a4, B4⟩
  have F5 := fun_mk (st := s_check_purse_ways) l5 c5 k5
  have B5 := F5.binds (ps := ["ways", "count"]) fun _ _ _ _ _ _ => L2.arg2 fun _ _ => rfl
  have A5 : DefAt K mg "check_purse_ways" s_check_purse_ways ["ways", "count"] := ⟨f5, _, F5, PySem.W.mg_of X G a5, B5⟩
  have F6 := fun_mk (st := s_check_amounts) l6 c6 k6
  have B6 := F6.binds (ps := ["ways"]) fun _ _ _ _ _ _ => L2.arg1 fun _ => rfl
  have A6 : DefAt K mg "check_amounts" s_check_amounts ["ways"] := ⟨f6, _, F6, PySem.W.mg_of X G a6, B6⟩
  have F7 := fun_mk (st := s_check_purse_rows) l7 c7 k7
  have B7 := F7.binds (ps := ["rows"]) fun _ _ _ _ _ _ => L2.arg1 fun _ => rfl
  have A7 : DefAt K mg "check_purse_rows" s_check_purse_rows ["rows"] := ⟨f7, _, F7, PySem.W.mg_of X G a7, B7⟩
  have F8 := fun_mk (st := s_purse_game) l8 c8 k8
  have B8 := F8.binds (ps := ["rows"]) fun _ _ _ _ _ _ => L2.arg1 fun _ => rfl
  have A8 : DefAt K mg "purse_game" s_purse_game ["rows"] := ⟨f8, _, F8, PySem.W.mg_of X G a8, B8⟩
  have F9 := fun_mk (st := s_is_made_of) l9 c9 k9
  have B9 := F9.binds (ps := ["word", "signs", "most"]) fun _ _ _ _ _ _ => L2.arg3 fun _ _ _ => rfl
  have A9 : DefAt K mg "is_made_of" s_is_made_of ["word", "signs", "most"] := ⟨f9, _, F9, PySem.W.mg_of X G a9, B9⟩
  have F10 := fun_mk (st := s_is_name) l10 c10 k10
  have B10 := F10.binds (ps := ["word"]) fun _ _ _ _ _ _ => L2.arg1 fun _ => rfl
  have A10 : DefAt K mg "is_name" s_is_name ["word"] := ⟨f10, _, F10, PySem.W.mg_of X G a10, B10⟩
  have F11 := fun_mk (st := s_is_figures) l11 c11 k11
  have B11 := F11.binds (ps := ["word", "most"]) fun _ _ _ _ _ _ => L2.arg2 fun _ _ => rfl
  have A11 : DefAt K mg "is_figures" s_is_figures ["word", "most"] := ⟨f11, _, F11, PySem.W.mg_of X G a11, B11⟩
  have F12 := fun_mk (st := s_is_amount) l12 c12 k12
  have B12 := F12.binds (ps := ["word"]) fun _ _ _ _ _ _ => L2.arg1 fun _ => rfl
  have A12 : DefAt K mg "is_amount" s_is_amount ["word"] := ⟨f12, _, F12, PySem.W.mg_of X G a12, B12⟩
  have F13 := fun_mk (st := s_check_form) l13 c13 k13
  have B13 := F13.binds (ps := ["right"]) fun _ _ _ _ _ _ => L2.arg1 fun _ => rfl
  have A13 : DefAt K mg "check_form" s_check_form ["right"] := ⟨f13, _, F13, PySem.W.mg_of X G a13, B13⟩
  have F14 := fun_mk (st := s_places_told) l14 c14 k14
  have B14 := F14.binds (ps := ["text"]) fun _ _ _ _ _ _ => L2.arg1 fun _ => rfl
  have A14 : DefAt K mg "places_told" s_places_told ["text"] := ⟨f14, _, F14, PySem.W.mg_of X G a14, B14⟩
  have F15 := fun_mk (st := s_read_head) l15 c15 k15
  have B15 := F15.binds (ps := ["word"]) fun _ _ _ _ _ _ => L2.arg1 fun _ => rfl
  have A15 : DefAt K mg "read_head" s_read_head ["word"] := ⟨f15, _, F15, PySem.W.mg_of X G a15, B15⟩
  have F16 := fun_mk (st := s_read_purse_way) l16 c16 k16
  have B16 := F16.binds (ps := ["word"]) fun _ _ _ _ _ _ => L2.arg1 fun _ => rfl
  have A16 : DefAt K mg "read_purse_way" s_read_purse_way ["word"] := ⟨f16, _, F16, PySem.W.mg_of X G a16, B16⟩
  have F17 := fun_mk (st := s_read_purse_place) l17 c17 k17
  have B17 := F17.binds (ps := ["text"]) fun _ _ _ _ _ _ => L2.arg1 fun _ => rfl
  have A17 : DefAt K mg "read_purse_place" s_read_purse_place ["text"] := ⟨f17, _, F17, PySem.W.mg_of X G a17, B17⟩
  have F18 := fun_mk (st := s_numbered) l18 c18 k18
  have B18 := F18.binds (ps := ["names"]) fun _ _ _ _ _ _ => L2.arg1 fun _ => rfl
  have A18 : DefAt K mg "numbered" s_numbered ["names"] := ⟨f18, _, F18, PySem.W.mg_of X G a18, B18⟩
  have F19 := fun_mk (st := s_number_of) l19 c19 k19
  have B19 := F19.binds (ps := ["numbers", "name"]) fun _ _ _ _ _ _ => L2.arg2 fun _ _ => rfl
  have A19 : DefAt K mg "number_of" s_number_of ["numbers", "name"] := ⟨f19, _, F19, PySem.W.mg_of X G a19, B19⟩
  have F20 := fun_mk (st := s_read_purses) l20 c20 k20
  have B20 := F20.binds (ps := ["text"]) fun _ _ _ _ _ _ => L2.arg1 fun _ => rfl
  have A20 : DefAt K mg "read_purses" s_read_purses ["text"] := ⟨f20, _, F20, PySem.W.mg_of X G a20, B20⟩
  have F21 := fun_mk (st := s_shown_purses) l21 c21 k21
  have B21 := F21.binds (ps := ["names", "game"]) fun _ _ _ _ _ _ => L2.arg2 fun _ _ => rfl
  have A21 : DefAt K mg "shown_purses" s_shown_purses ["names", "game"] := ⟨f21, _, F21, PySem.W.mg_of X G a21, B21⟩
  have F22 := fun_mk (st := s_law_cell_at) l22 c22 k22
  have B22 := F22.binds (ps := ["_law_script", "_law_k"]) fun _ _ _ _ _ _ => L2.arg2 fun _ _ => rfl
  have A22 : DefAt K mg "_law_cell_at" s_law_cell_at ["_law_script", "_law_k"] := ⟨f22, _, F22, PySem.W.mg_of X G a22, B22⟩
  have F23 := fun_mk (st := s_law_whole) l23 c23 k23
  have B23 := F23.binds (ps := ["_law_found"]) fun _ _ _ _ _ _ => L2.arg1 fun _ => rfl
  have A23 : DefAt K mg "_law_whole" s_law_whole ["_law_found"] := ⟨f23, _, F23, PySem.W.mg_of X G a23, B23⟩
  have F24 := fun_mk (st := s_law_names) l24 c24 k24
  have B24 := F24.binds (ps := ["_law_script", "_law_many"]) fun _ _ _ _ _ _ => L2.arg2 fun _ _ => rfl
  have A24 : DefAt K mg "_law_names" s_law_names ["_law_script", "_law_many"] := ⟨f24, _, F24, PySem.W.mg_of X G a24, B24⟩
  have F25 := fun_mk (st := s_law_amount) l25 c25 k25
  have B25 := F25.binds (ps := ["_law_cell"]) fun _ _ _ _ _ _ => L2.arg1 fun _ => rfl
  have A25 : DefAt K mg "_law_amount" s_law_amount ["_law_cell"] := ⟨f25, _, F25, PySem.W.mg_of X G a25, B25⟩
  have F26 := fun_mk (st := s_law_rows) l26 c26 k26
  have B26 := F26.binds (ps := ["_law_script"]) fun _ _ _ _ _ _ => L2.arg1 fun _ => rfl
  have A26 : DefAt K mg "_law_rows" s_law_rows ["_law_script"] := ⟨f26, _, F26, PySem.W.mg_of X G a26, B26⟩
  have F27 := fun_mk (st := s_law_text) l27 c27 k27
  have B27 := F27.binds (ps := ["_law_names_here", "_law_rows_here"]) fun _ _ _ _ _ _ => L2.arg2 fun _ _ => rfl
  have A27 : DefAt K mg "_law_text" s_law_text ["_law_names_here", "_law_rows_here"] := ⟨f27, _, F27, PySem.W.mg_of X G a27, B27⟩
  have F28 := fun_mk (st := s_law_alike) l28 c28 k28
  have B28 := F28.binds (ps := ["_law_found", "_law_names_here", "_law_game"]) fun _ _ _ _ _ _ => L2.arg3 fun _ _ _ => rfl
  have A28 : DefAt K mg "_law_alike" s_law_alike ["_law_found", "_law_names_here", "_law_game"] := ⟨f28, _, F28, PySem.W.mg_of X G a28, B28⟩
  have F29 := fun_mk (st := s_law) l29 c29 k29
  refine ⟨PySem.W.fnOf "law" "law" (defArgs s_law) (defBody s_law) (defScope s_law) .none kV29 dc29 pm29 an29 cd29 ct29, fun s v => .of_eq rfl, fun base _ _ => ?_⟩
  exact main (P := l.prog) (w := w) (base := base) T XC A1 A2 A3 A4 A5 A6 A7 A8 A9 A10 A11 A12 A13 A14 A15 A16 A17 A18 A19 A20 A21 A22 A23 A24 A25 A26 A27 A28 F29
theorem walk {l : PySem.W.OpenLaw} {q : Program} {loose : List Str} {XP : (Str → Option Value) → Heap → Prop} {YP : World → Heap → Prop} {d : DefRec} {K : Params → PySem.W.Frag} (hn : l.most = some 63) (hdf : d.params.defaults = [])
    (hY : ∀ (w : World) (h : Heap), YP w h → (K w.params).In h)
    (F : ∀ (w : World) (mg : Str → Option Value) (fa : Addr) (h : Heap), (K w.params).In h → h.Ns mainGlobals mg → mg d.name = some (.ref fa) →
      ∃ fd : FuncData, (∀ (s : Shared) (u : Value), BindsTo s fd ⟨[u], []⟩ [("_law_script", u)]) ∧ ∀ base : Heap, (K w.params).In base → base.Ns mainGlobals mg → FnOk l.prog w (K w.params) mg base CX0 8 fa fd ["_law_script"] (spLaw (K w.params))) :
    PySem.W.WalkO q loose XP YP l.row.toRowW d [] (fun f vs => PySem.call f vs) :=
  L2.walk_of (n := 63) (k := 8) (x := "_law_script") (CX := fun _ => CX0) (sp := fun w => spLaw (K w.params)) hn (by decide) hdf ⟨rfl, by decide, by decide⟩ hY F (fun _ _ a ns hl _ hS => ⟨a, ns, rfl, hS, hl, fun _ => rfl⟩) fun _ _ _ _ _ z => z
theorem walkZ {l : PySem.W.OpenLaw} {q : Program} {loose : List Str} {XP : (Str → Option Value) → Heap → Prop} {d : DefRec} {K : Params → PySem.W.Frag} (hn : l.most = some 63) (hdf : d.params.defaults = [])
    (F : ∀ (w : World) (mg : Str → Option Value) (fa : Addr) (h : Heap), (K w.params).In h → h.Ns mainGlobals mg → mg d.name = some (.ref fa) →
      ∃ fd : FuncData, (∀ (s : Shared) (u : Value), BindsTo s fd ⟨[u], []⟩ [("_law_script", u)]) ∧ ∀ base : Heap, (K w.params).In base → base.Ns mainGlobals mg → FnOk l.prog w (K w.params) mg base CX0 8 fa fd ["_law_script"] (spLaw (K w.params))) :
    PySem.W.WalkO q loose XP (fun w h => (K w.params).In h) l.row.toRowW d [] (fun f vs => PySem.call f vs) := walk hn hdf (fun _ _ Y => Y) F
end Law
open PySem PySem.W PyProof.Rows PySem.W.X PySem.W.ZRun
set_option maxRecDepth 100000 in
set_option maxHeartbeats 0 in
theorem PySem.Challenge.cw_rankgarth_k70_texts_of_purse_games_holds : PySem.Challenge.rw_rankgarth_k70_texts_of_purse_games.Holds := by
  w_on; o_law; z_head; (case hw => w_witness2)
  k_fill
  intro w s₀ s₁ mg mb G y fa o pm cd doc dV kV ho hd hcd hD hmg hg args vals as L hpre hlay hrd hwl hlo
  z_open y L KX ZH ZN ZT
  refine Law.walkZ (l := PySem.Challenge.rw_rankgarth_k70_texts_of_purse_games) rfl rfl ?F w s₀ s₁ mg mb G KX fa o pm cd doc dV kV ho hd hcd hD hmg hg args vals as hpre hlay hrd hwl hlo
  case F =>
    intro w mg fa h KX G hmg
    refine' Law.all_mk KX G hmg   ?a1 ?l1 ?c1 ?k1 ?a2 ?l2 ?c2 ?k2 ?a3 ?l3 ?c3 ?k3 ?a4 ?l4 ?c4 ?k4 ?a5 ?l5 ?c5 ?k5 ?a6 ?l6 ?c6 ?k6 ?a7 ?l7 ?c7 ?k7 ?a8 ?l8 ?c8 ?k8 ?a9 ?l9 ?c9 ?k9 ?a10 ?l10 ?c10 ?k10 ?a11 ?l11 ?c11 ?k11 ?a12 ?l12 ?c12 ?k12 ?a13 ?l13 ?c13 ?k13 ?a14 ?l14 ?c14 ?k14 ?a15 ?l15 ?c15 ?k15 ?a16 ?l16 ?c16 ?k16 ?a17 ?l17 ?c17 ?k17 ?a18 ?l18 ?c18 ?k18 ?a19 ?l19 ?c19 ?k19 ?a20 ?l20 ?c20 ?k20 ?a21 ?l21 ?c21 ?k21 ?a22 ?l22 ?c22 ?k22 ?a23 ?l23 ?c23 ?k23 ?a24 ?l24 ?c24 ?k24 ?a25 ?l25 ?c25 ?k25 ?a26 ?l26 ?c26 ?k26 ?a27 ?l27 ?c27 ?k27 ?a28 ?l28 ?c28 ?k28 ?a29 ?l29 ?c29 ?k29 ?g_FIGURES ?g_HAND_SIGNS ?g_LETTERS ?g_MOST_AMOUNT_FIGURES ?g_MOST_LETTERS ?g_MOST_PURSE_PLACES ?xall ?z_abs ?z_all ?z_bool ?z_dict ?z_enumerate ?z_int ?z_isinstance ?z_len ?z_list ?z_range ?z_set ?z_sorted ?z_str ?z_tuple ?z_zip
    (case a1 => k_is); (case l1 => k_is); (case c1 => k_is); (case k1 => k_is)
    (case a2 => k_is); (case l2 => k_is); (case c2 => k_is); (case k2 => k_is)
    (case a3 => k_is); (case l3 => k_is); (case c3 => k_is); (case k3 => k_is)
    (case a4 => k_is); (case l4 => k_is); (case c4 => k_is); (case k4 => k_is)
    (case a5 => k_is); (case l5 => k_is); (case c5 => k_is); (case k5 => k_is)
    (case a6 => k_is); (case l6 => k_is); (case c6 => k_is); (case k6 => k_is)
    (case a7 => k_is); (case l7 => k_is); (case c7 => k_is); (case k7 => k_is)
    (case a8 => k_is); (case l8 => k_is); (case c8 => k_is); (case k8 => k_is)
    (case a9 => k_is); (case l9 => k_is); (case c9 => k_is); (case k9 => k_is)
    (case a10 => k_is); (case l10 => k_is); (case c10 => k_is); (case k10 => k_is)
    (case a11 => k_is); (case l11 => k_is); (case c11 => k_is); (case k11 => k_is)
    (case a12 => k_is); (case l12 => k_is); (case c12 => k_is); (case k12 => k_is)
    (case a13 => k_is); (case l13 => k_is); (case c13 => k_is); (case k13 => k_is)
    (case a14 => k_is); (case l14 => k_is); (case c14 => k_is); (case k14 => k_is)
    (case a15 => k_is); (case l15 => k_is); (case c15 => k_is); (case k15 => k_is)
    (case a16 => k_is); (case l16 => k_is); (case c16 => k_is); (case k16 => k_is)
    (case a17 => k_is); (case l17 => k_is); (case c17 => k_is); (case k17 => k_is)
    (case a18 => k_is); (case l18 => k_is); (case c18 => k_is); (case k18 => k_is)
    (case a19 => k_is); (case l19 => k_is); (case c19 => k_is); (case k19 => k_is)
    (case a20 => k_is); (case l20 => k_is); (case c20 => k_is); (case k20 => k_is)
    (case a21 => k_is); (case l21 => k_is); (case c21 => k_is); (case k21 => k_is)
    (case a22 => k_is); (case l22 => k_is); (case c22 => k_is); (case k22 => k_is)
    (case a23 => k_is); (case l23 => k_is); (case c23 => k_is); (case k23 => k_is)
    (case a24 => k_is); (case l24 => k_is); (case c24 => k_is); (case k24 => k_is)
    (case a25 => k_is); (case l25 => k_is); (case c25 => k_is); (case k25 => k_is)
    (case a26 => k_is); (case l26 => k_is); (case c26 => k_is); (case k26 => k_is)
    (case a27 => k_is); (case l27 => k_is); (case c27 => k_is); (case k27 => k_is)
    (case a28 => k_is); (case l28 => k_is); (case c28 => k_is); (case k28 => k_is)
    (case a29 => k_is); (case l29 => k_is); (case c29 => k_is); (case k29 => k_is)
    (case g_FIGURES => k_is)
    (case g_HAND_SIGNS => k_is)
    (case g_LETTERS => k_is)
    (case g_MOST_AMOUNT_FIGURES => k_is)
    (case g_MOST_LETTERS => k_is)
    (case g_MOST_PURSE_PLACES => k_is)
    (case xall => kernel_rfl)
    (case z_abs => k_is)
    (case z_all => k_is)
    (case z_bool => k_is)
    (case z_dict => k_is)
    (case z_enumerate => k_is)
    (case z_int => k_is)
    (case z_isinstance => k_is)
    (case z_len => k_is)
    (case z_list => k_is)
    (case z_range => k_is)
    (case z_set => k_is)
    (case z_sorted => k_is)
    (case z_str => k_is)
    (case z_tuple => k_is)
    (case z_zip => k_is)
