import PyProof.Rows.All
import Wide.All
import OpenK.AllK
import Wide.FinOn
import Lean
import PyProof.EqAt
import PyProof.EqKinds
import PyProof.TupleCall
import PyProof.NeKinds
import KE.KDictSum
import PyProof.Rows.SetFrom
import KE.KSortTup
import PyProof.StrReplace2
import PyProof.StrOps2
import PySem.Challenge.RW_rankgarth_k71_texts_of_purse_games_refus
set_option Elab.async false
set_option linter.all false
set_option maxRecDepth 100000
namespace L2
open PySem PySem.Spec PyProof.Rows
abbrev Key := Sum Int Str
def keyIs : Key → Value → Bool
  | .inl k, v => Value.isInt k v
  | .inr x, v => Value.isStrOf x v
def keyH (w : World) : Key → Int
  | .inl k => hashInt k
  | .inr x => hashStr w x
theorem keyIs_shape : ∀ {k : Key} {v : Value}, keyIs k v = true → (∃ i t, k = Sum.inl i ∧ v = Value.int i t) ∨ (∃ x t, k = Sum.inr x ∧ v = Value.str x t)
  | .inl i, v, h => by
    obtain ⟨t, e⟩ := Value.isInt_shape (k := i) (v := v) h
    exact .inl ⟨i, t, rfl, e⟩
  | .inr x, v, h => by
    obtain ⟨t, e⟩ := Value.isStrOf_shape (x := x) (v := v) h
    exact .inr ⟨x, t, rfl, e⟩
theorem keyIs_int (i : Int) (t : Tok) : keyIs (.inl i) (.int i t) = true := by simp [keyIs, Value.isInt]
theorem keyIs_str (x : Str) (t : Tok) : keyIs (.inr x) (.str x t) = true := by simp [keyIs, Value.isStrOf]
theorem key_ll (a b : Int) : decide ((Sum.inl a : Key) = Sum.inl b) = (a == b) := by
  by_cases e : a = b
  · subst e; simp
  · have h : ¬ (Sum.inl a : Key) = Sum.inl b := fun q => e (Sum.inl.inj q)
    rw [decide_eq_false h]
    exact (beq_eq_false_iff_ne.mpr e).symm
theorem key_rr (a b : Str) : decide ((Sum.inr a : Key) = Sum.inr b) = decide (a = b) := by
  by_cases e : a = b
  · subst e; simp
  · have h : ¬ (Sum.inr a : Key) = Sum.inr b := fun q => e (Sum.inr.inj q)
    rw [decide_eq_false h, decide_eq_false e]
theorem key_lr (a : Int) (b : Str) : decide ((Sum.inl a : Key) = Sum.inr b) = false := decide_eq_false (fun q => nomatch q)
theorem key_rl (a : Str) (b : Int) : decide ((Sum.inr a : Key) = Sum.inl b) = false := decide_eq_false (fun q => nomatch q)
def mixKind (prog : Program) (w : World) : PySem.KeyKind prog w Key where
  is := keyIs
  hash := keyH w
  inj := fun v a b ha hb => by
    rcases keyIs_shape ha with ⟨i, t, rfl, rfl⟩ | ⟨x, t, rfl, rfl⟩
    · rcases keyIs_shape hb with ⟨j, u, rfl, e⟩ | ⟨y, u, rfl, e⟩
      · injection e with e1 _; rw [e1]
      · exact nomatch e
    · rcases keyIs_shape hb with ⟨j, u, rfl, e⟩ | ⟨y, u, rfl, e⟩
      · exact nomatch e
      · injection e with e1 _; rw [e1]
  byValue := fun k v h => by
    rcases keyIs_shape h with ⟨i, t, rfl, rfl⟩ | ⟨x, t, rfl, rfl⟩ <;> rfl
  pyHash := fun hv h => by
    rcases keyIs_shape hv with ⟨i, t, rfl, rfl⟩ | ⟨x, t, rfl, rfl⟩
    · exact wpAny_pyHash_int h
    · exact wpAny_pyHash_str h
  eqBool := fun hu hv h => by
    rcases keyIs_shape hu with ⟨i, t, rfl, rfl⟩ | ⟨x, t, rfl, rfl⟩
    · rcases keyIs_shape hv with ⟨j, u, rfl, rfl⟩ | ⟨y, u, rfl, rfl⟩
      · rw [key_ll] at h; exact wpAny_eqBool_int h
      · rw [key_lr] at h; exact SeqAt.EqAt.int_str i t y u _ _ _ _ h
    · rcases keyIs_shape hv with ⟨j, u, rfl, rfl⟩ | ⟨y, u, rfl, rfl⟩
      · rw [key_rl] at h; exact SeqAt.EqAt.str_int x t j u _ _ _ _ h
      · rw [key_rr] at h; exact wpAny_eqBool_str h
  «strs» := fun k x t v h => by
    rcases keyIs_shape h with ⟨i, u, rfl, e⟩ | ⟨y, u, rfl, e⟩
    · exact nomatch e
    · injection e with e1 _
      subst e1
      cases v <;> rfl
theorem mixKind_int (prog : Program) (w : World) (i : Int) (t : Tok) : (mixKind prog w).is (.inl i) (.int i t) = true := keyIs_int i t
theorem mixKind_str (prog : Program) (w : World) (x : Str) (t : Tok) : (mixKind prog w).is (.inr x) (.str x t) = true := keyIs_str x t
end L2
namespace L2
open PySem PySem.Spec PyProof.Rows
inductive V where
  | non | bl (b : Bool) | int (i : Int) | str (x : Str) | byt (b : Array UInt8) | flt (b : UInt64) | ref (a : Addr) | ty (n : String)
  deriving DecidableEq
def RelV : V → Value → Prop
  | .non, u => u = Value.none
  | .bl b, u => u = Value.bool b
  | .int i, u => ∃ t, u = Value.int i t
  | .str x, u => ∃ t, u = Value.str x t
  | .byt b, u => ∃ t, u = Value.bytes b t
  | .flt b, u => ∃ t, u = Value.float b t
  | .ref a, u => u = Value.ref a
  | .ty n, u => u = Value.type n
abbrev Vals : List V → List Value → Prop := Paired RelV
theorem Vals.length {xs : List V} {us : List Value} (r : Vals xs us) : xs.length = us.length := Paired.length r
theorem Vals.get : ∀ {xs : List V} {us : List Value} {i : Nat} {x : V}, Vals xs us → xs[i]? = some x → ∃ u, us[i]? = some u ∧ RelV x u
  | _, _, _, _, .nil, e => by simp at e
  | _, _, 0, _, .cons r _, e => by simp at e; subst e; exact ⟨_, rfl, r⟩
  | _, _, i + 1, x, .cons _ t, e => by
    obtain ⟨u, h1, h2⟩ := Vals.get (i := i) (x := x) t (by simpa using e)
    exact ⟨u, by simpa using h1, h2⟩
theorem Vals.set {x : V} {u : Value} (r : RelV x u) : ∀ {xs : List V} {us : List Value} (i : Nat), Vals xs us → Vals (xs.set i x) (us.set i u)
  | _, _, _, .nil => .nil
  | _, _, 0, .cons _ t => .cons r t
  | _, _, i + 1, .cons q t => .cons q (Vals.set r i t)
theorem Vals.append : ∀ {xs ys : List V} {us ws : List Value}, Vals xs us → Vals ys ws → Vals (xs ++ ys) (us ++ ws)
  | _, _, _, _, .nil, s => s
  | _, _, _, _, .cons r t, s => .cons r (Vals.append t s)
theorem Vals.take : ∀ {xs : List V} {us : List Value} (n : Nat), Vals xs us → Vals (xs.take n) (us.take n)
  | _, _, 0, _ => .nil
  | _, _, _ + 1, .nil => .nil
  | _, _, n + 1, .cons r t => .cons r (Vals.take n t)
theorem Vals.drop : ∀ {xs : List V} {us : List Value} (n : Nat), Vals xs us → Vals (xs.drop n) (us.drop n)
  | _, _, 0, r => r
  | _, _, _ + 1, .nil => .nil
  | _, _, n + 1, .cons _ t => Vals.drop n t
def RelO : Option V → Option Value → Prop
  | some v, some u => RelV v u
  | none, none => True
  | _, _ => False
def KV {κ : Type} : List (κ × V) → List (κ × Value) → Prop := Paired fun (p : κ × V) (q : κ × Value) => p.1 = q.1 ∧ RelV p.2 q.2
def kV : Key → V
  | .inl i => .int i
  | .inr x => .str x
inductive HO where
    | lst (xs : List V)
    | tup (xs : List V)
    | dK (kvs : List (Key × V)) | dT (kvs : List (List Key × V))
    | set (S : Int → Bool) (n : Nat)
    | ins (C dx : Addr) (fs : List (Str × V))
    | own (x : Addr)
    | xd (fs : List (Str × V))
    | met (f x : Addr)
    | rng (lo hi : Int)
    | frz (o : Obj) (u : HO)
    | tbl (ps : Array Value)
    | ext (φ : Heap → Prop)
abbrev Hp := Addr → Option HO
def upd (H : Hp) (a : Addr) (o : HO) : Hp := fun b => if b = a then some o else H b
theorem upd_same {H : Hp} {a : Addr} {o : HO} : upd H a o a = some o := by unfold upd; rw [if_pos rfl]
theorem upd_ne {H : Hp} {a b : Addr} {o : HO} (h : b ≠ a) : upd H a o b = H b := by unfold upd; rw [if_neg h]
theorem ne_of_none {H : Hp} {a b : Addr} {o : HO} (h : H a = some o) (h' : H b = none) : a ≠ b := by
  intro e; subst e; rw [h] at h'; cases h'
section
variable (P : Program) (w : World)
def ObjOk (H : Hp) (h : Heap) (a : Addr) : HO → Prop
  | .lst xs => xs.length ≤ sizeLine ∧ ∃ (its : List Value) (n : Nat), Vals xs its ∧ h.get? a = some { cls := .type "list", data := .seq its.toArray n }
  | .tup xs => xs.length ≤ sizeLine ∧ ∃ its : List Value, Vals xs its ∧ IsTup h a its.toArray
  | .dK kvs => kvs.length ≤ sizeLine ∧ (a == sysModules) = false ∧ ∃ vs, KV kvs vs ∧ h.DictOf (mixKind P w) a vs
  | .dT kvs => kvs.length ≤ sizeLine ∧ (a == sysModules) = false ∧ ∃ xs : List (List Key × Addr × Value),
      Paired (fun (p : List Key × V) (q : List Key × Addr × Value) => p.1 = q.1 ∧ H q.2.1 = some (.tup (p.1.map kV)) ∧ RelV p.2 q.2.2) kvs xs ∧
      ∃ o es ep, h.get? a = some o ∧ o.ExactDict ∧ o.data = .dict es ep ∧ es.toList = xs.map (entryOfKey (tupleKind (mixKind P w))) ∧ (xs.map (·.1)).Nodup
  | .set S n => h.SetOf (intKind P w) a S n
  | .ins C dx fs => H dx = some (.own a) ∧ fs.length ≤ 1000 ∧ dx ≠ a ∧ h.get? a = some (PySem.W.instObj C dx) ∧
      ∃ mA, h.Ns1 dx mA ∧ (∀ f, RelO (fs.lookup f) (mA f)) ∧ PySem.Within mA (fs.map (·.1))
  | .own _ => ∃ o, h.get? a = some o
  | .xd fs => ∃ mA, h.Ns1 a mA ∧ ∀ f, RelO (fs.lookup f) (mA f)
  | .rng lo hi => ∃ t u v, h.get? a = some { cls := .type "range", data := .fields #[.int lo t, .int hi u, .int 1 v] }
  | .frz o u => h.get? a = some o ∧ ObjOk H h a u
  | .tbl ps => h.get? a = some { cls := .none, data := .fields ps }
  | .met f x => h.get? a = some (PySem.W.methodObj (.ref f) (.ref x))
  | .ext φ => φ h ∧ (∃ o, h.get? a = some o) ∧ ∀ h1 h2 : Heap, φ h1 → (∀ o, h1.get? a = some o → h2.get? a = some o) → φ h2
def HOk (H : Hp) (h : Heap) : Prop := ∀ a o, H a = some o → ObjOk P w H h a o
end
section
variable {P : Program} {w : World} {H H' : Hp} {h h' : Heap} {a : Addr} {o : HO}
theorem ObjOk.lt (x : ObjOk P w H h a o) : a < h.objs.size := by
  cases o with
  | lst xs => obtain ⟨_, _, _, _, e⟩ := x; exact Heap.lt_size e
  | tup xs => obtain ⟨_, _, _, p⟩ := x; exact p.lt
  | dK kvs => obtain ⟨_, _, _, _, o, _, _, e, _⟩ := x; exact Heap.lt_size e
  | dT kvs => obtain ⟨_, _, _, _, o, _, _, e, _⟩ := x; exact Heap.lt_size e
  | set S n => obtain ⟨o, _, _, _, e, _⟩ := x; exact Heap.lt_size e
  | ins C dx fs => obtain ⟨_, _, _, e, _⟩ := x; exact Heap.lt_size e
  | own y => obtain ⟨_, e⟩ := x; exact Heap.lt_size e
  | xd fs => obtain ⟨_, ⟨_, _, _, e, _⟩, _⟩ := x; exact Heap.lt_size e
  | rng lo hi => obtain ⟨_, _, _, e⟩ := x; exact Heap.lt_size e
  | frz ob u => obtain ⟨e, _⟩ := x; exact Heap.lt_size e
  | tbl ps => exact Heap.lt_size (show h.get? a = some _ from x)
  | met f y => exact Heap.lt_size (show h.get? a = some _ from x)
  | ext φ => obtain ⟨_, ⟨_, e⟩, _⟩ := x; exact Heap.lt_size e
theorem Paired.mapP {α β : Type} {F G : α → β → Prop} : ∀ {l₁ : List α} {l₂ : List β}, Paired F l₁ l₂ → (∀ a b, F a b → G a b) → Paired G l₁ l₂
  | _, _, .nil, _ => .nil
  | _, _, .cons r t, f => .cons (f _ _ r) (Paired.mapP t f)
theorem ObjOk.stay (x : ObjOk P w H h a o) (k : ∀ b u, (b = a ∨ H b = some (.own a)) → h.get? b = some u → h'.get? b = some u)
    (ho : ∀ b, H b = some (.own a) → H' b = some (.own a)) (ht : ∀ b xs, H b = some (.tup xs) → H' b = some (.tup xs)) : ObjOk P w H' h' a o := by
  induction o with
  | lst xs => obtain ⟨z, its, n, r, e⟩ := x; exact ⟨z, its, n, r, k _ _ (.inl rfl) e⟩
  | tup xs => obtain ⟨z, its, r, ob, e, c⟩ := x; exact ⟨z, its, r, ob, k _ _ (.inl rfl) e, c⟩
  | dK kvs => obtain ⟨z, y, vs, r, ob, es, ep, e, c⟩ := x; exact ⟨z, y, vs, r, ob, es, ep, k _ _ (.inl rfl) e, c⟩
  | dT kvs =>
    obtain ⟨z, y, xs, r, ob, es, ep, e, c⟩ := x
    exact ⟨z, y, xs, Paired.mapP r fun p q z => ⟨z.1, ht _ _ z.2.1, z.2.2⟩, ob, es, ep, k _ _ (.inl rfl) e, c⟩
  | set S n => obtain ⟨ob, es, ep, t, e, c⟩ := x; exact ⟨ob, es, ep, t, k _ _ (.inl rfl) e, c⟩
  | ins C dx fs =>
    obtain ⟨d, z, ne, e, mA, ⟨od, es, ep, e2, c⟩, r⟩ := x
    exact ⟨ho _ d, z, ne, k _ _ (.inl rfl) e, mA, ⟨od, es, ep, k _ _ (.inr d) e2, c⟩, r⟩
  | own y => obtain ⟨ob, e⟩ := x; exact ⟨ob, k _ _ (.inl rfl) e⟩
  | xd fs => obtain ⟨mA, ⟨od, es, ep, e, c⟩, r⟩ := x; exact ⟨mA, ⟨od, es, ep, k _ _ (.inl rfl) e, c⟩, r⟩
  | rng lo hi => obtain ⟨t, u, v, e⟩ := x; exact ⟨t, u, v, k _ _ (.inl rfl) e⟩
  | frz ob u ih => obtain ⟨e, q⟩ := x; exact ⟨k _ _ (.inl rfl) e, ih q⟩
  | tbl ps =>
    have e : h.get? a = some { cls := .none, data := .fields ps } := x
    show h'.get? a = some { cls := .none, data := .fields ps }
    exact k a _ (.inl rfl) e
  | met f y =>
    have e : h.get? a = some (PySem.W.methodObj (.ref f) (.ref y)) := x
    show h'.get? a = some (PySem.W.methodObj (.ref f) (.ref y))
    exact k a _ (.inl rfl) e
  | ext φ => obtain ⟨p, ⟨o, e⟩, st⟩ := x; exact ⟨st _ _ p fun o q => k _ _ (.inl rfl) q, ⟨o, k _ _ (.inl rfl) e⟩, st⟩
theorem HOk.lt (x : HOk P w H h) (e : H a = some o) : a < h.objs.size := (x a o e).lt
theorem HOk.fresh (x : HOk P w H h) (e : h.objs.size ≤ a) : H a = none := by
  cases q : H a with
  | none => rfl
  | some u => exact absurd (Nat.lt_of_lt_of_le (x.lt q) e) (Nat.lt_irrefl _)
theorem HOk.kept (x : HOk P w H h) (k : ∀ b u, h.get? b = some u → h'.get? b = some u) : HOk P w H h' := fun a o e =>
  (x a o e).stay (fun b u _ q => k b u q) (fun _ q => q) fun _ _ q => q
theorem HOk.laid (x : HOk P w H h) (k : ∀ b u, h.get? b = some u → h'.get? b = some u) (hp : h.objs.size ≤ a) (new : ObjOk P w (upd H a o) h' a o) : HOk P w (upd H a o) h' := fun b u e => by
  have hn := x.fresh hp
  by_cases hb : b = a
  · subst hb; rw [upd_same] at e; cases e; exact new
  · rw [upd_ne hb] at e
    exact (x b u e).stay (fun c v _ q => k c v q) (fun c q => by rw [upd_ne (ne_of_none q hn)]; exact q) fun c xs q => by rw [upd_ne (ne_of_none q hn)]; exact q
end
def Rd (H : Hp) (a : Addr) (u : HO) : Prop := H a = some u ∨ ∃ o, H a = some (.frz o u)
theorem Rd.ok {P : Program} {w : World} {H : Hp} {h : Heap} {a : Addr} {u : HO} (r : Rd H a u) (x : HOk P w H h) : ObjOk P w H h a u := by
  rcases r with r | ⟨o, r⟩
  · exact x a u r
  · obtain ⟨_, q⟩ := x a _ r
    exact q
def Mut : Option HO → Prop
  | some (.lst _) => True
  | some (.dK _) => True
  | some (.dT _) => True
  | some (.set _ _) => True
  | some (.ins _ _ _) => True
  | some (.ext _) => True
  | _ => False
section
variable {P : Program} {w : World} {H : Hp} {h h' : Heap} {x e : Addr} {o' : HO}
theorem HOk.write (ok : HOk P w H h) (mu : Mut (H x)) (he : e = x ∨ H e = some (.own x)) (k : ∀ b u, b ≠ e → h.get? b = some u → h'.get? b = some u) (heo : ∃ u, h'.get? e = some u)
    (new : ObjOk P w (upd H x o') h' x o') : HOk P w (upd H x o') h' := fun b u q => by
  have nown : ∀ c y, H c = some (.own y) → c ≠ x := fun c y r z => by subst z; rw [r] at mu; exact mu
  have ntup : ∀ c xs, H c = some (.tup xs) → c ≠ x := fun c xs r z => by subst z; rw [r] at mu; exact mu
  by_cases hb : b = x
  · subst hb; rw [upd_same] at q; cases q; exact new
  · rw [upd_ne hb] at q
    by_cases hbe : b = e
    · have q' : H b = some (.own x) := by
        rcases he with z | z
        · exact absurd (hbe.trans z) hb
        · rw [hbe]; exact z
      rw [q] at q'; cases q'
      obtain ⟨v, hv⟩ := heo
      exact ⟨v, by rw [hbe]; exact hv⟩
    · refine (ok b u q).stay (fun c v hc r => k c v ?_ r) (fun c r => by rw [upd_ne (nown c b r)]; exact r) fun c xs r => by rw [upd_ne (ntup c xs r)]; exact r
      rcases hc with rfl | hc
      · exact hbe
      · rintro rfl
        rcases he with z | z
        · exact nown c b hc z
        · rw [hc] at z; cases z; exact hb rfl
end
structure Un (fs ex : List Addr) (H H' : Hp) (h h' : Heap) : Prop where
  keep : ∀ b o, h.get? b = some o → H b = none → b ∉ fs → b ∉ ex → h'.get? b = some o
  slot : ∀ b o, h.get? b = some o → H b = none → b ∈ fs → b ∉ ex → ∃ sl, h'.get? b = some { o with slots := sl }
  free : ∀ b o, h.get? b = some o → H b = none → b ∉ ex → H' b = none
  there : ∀ b o, h.get? b = some o → b ∉ ex → ∃ o', h'.get? b = some o'
  tups : ∀ b xs, H b = some (.tup xs) → H' b = some (.tup xs)
  frzs : ∀ b o u, H b = some (.frz o u) → H' b = some (.frz o u)
  tbls : ∀ b ps, H b = some (.tbl ps) → ∃ more, H' b = some (.tbl (ps ++ more))
section
variable {fs fs' ex ex' : List Addr} {H H1 H2 : Hp} {h h1 h2 h' : Heap} {a x e : Addr} {o : HO}
theorem Un.any (u : Un fs ex H H1 h h1) {b : Addr} {ob : Obj} (q : h.get? b = some ob) (n : H b = none) (hx : b ∉ ex) : ∃ sl, h1.get? b = some { ob with slots := sl } := by
  by_cases hb : b ∈ fs
  · exact u.slot b ob q n hb hx
  · exact ⟨ob.slots, u.keep b ob q n hb hx⟩
theorem Un.kept (k : ∀ b u, h.get? b = some u → h'.get? b = some u) : Un fs ex H H h h' :=
  ⟨fun b ob q _ _ _ => k b ob q, fun b ob q _ _ _ => ⟨ob.slots, k b ob q⟩, fun _ _ _ n _ => n, fun b ob q _ => ⟨ob, k b ob q⟩, fun _ _ q => q, fun _ _ _ q => q, fun _ ps q => ⟨#[], by rw [q]; simp⟩⟩
theorem Un.refl : Un fs ex H H h h := Un.kept fun _ _ q => q
theorem Un.laid (k : ∀ b u, h.get? b = some u → h'.get? b = some u) (hp : h.objs.size ≤ a) (hn : H a = none) : Un fs ex H (upd H a o) h h' where
  keep := fun b u q _ _ _ => k b u q
  slot := fun b u q _ _ _ => ⟨u.slots, k b u q⟩
  free := fun b u q n _ => by rw [upd_ne (Nat.ne_of_lt (Nat.lt_of_lt_of_le (Heap.lt_size q) hp))]; exact n
  there := fun b u q _ => ⟨u, k b u q⟩
  tups := fun b xs q => by rw [upd_ne (ne_of_none q hn)]; exact q
  frzs := fun b u xs q => by rw [upd_ne (ne_of_none q hn)]; exact q
  tbls := fun b ps q => ⟨#[], by rw [upd_ne (ne_of_none q hn), q]; simp⟩
theorem Un.write (mu : Mut (H x)) (he : e = x ∨ H e = some (.own x)) (k : ∀ b u, b ≠ e → h.get? b = some u → h'.get? b = some u) (heo : ∃ u, h'.get? e = some u) : Un fs ex H (upd H x o) h h' := by
  have hx : ∀ b, H b = none → b ≠ x := fun b n z => by subst z; rw [n] at mu; exact mu
  have hb : ∀ b, H b = none → b ≠ e := fun b n z => by
    subst z
    rcases he with r | r
    · exact hx b n r
    · rw [n] at r; cases r
  have hm : ∀ b u, H b = some u → ¬ Mut (some u) → b ≠ x := fun b u q nm z => by subst z; rw [q] at mu; exact nm mu
  refine ⟨fun b u q n _ _ => k b u (hb b n) q, fun b u q n _ _ => ⟨u.slots, k b u (hb b n) q⟩, fun b u q n _ => by rw [upd_ne (hx b n)]; exact n, fun b u q _ => ?_,
    fun b xs q => by rw [upd_ne (hm b _ q fun z => z)]; exact q, fun b u xs q => by rw [upd_ne (hm b _ q fun z => z)]; exact q, fun b ps q => ⟨#[], by rw [upd_ne (hm b _ q fun z => z), q]; simp⟩⟩
  by_cases hbe : b = e
  · subst hbe; exact heo
  · exact ⟨u, k b u hbe q⟩
end
def trk (h : Heap) (H : Hp) : List Addr := (List.range h.objs.size).filter fun a => (H a).isSome
def hidT (h : Heap) (H : Hp) : Heap := PySem.W.hideAll h (trk h H)
theorem hidT_size (h : Heap) (H : Hp) : (hidT h H).objs.size = h.objs.size := PySem.W.hideAll_size _ _
theorem hidT_get {h : Heap} {H : Hp} {b : Addr} {o : Obj} (e : h.get? b = some o) (n : H b = none) : (hidT h H).get? b = some o :=
  PySem.W.hideAll_get _ e fun hm => by
    have q : (H b).isSome = true := (List.mem_filter.mp hm).2
    rw [n] at q; simp at q
theorem of_hidT {h : Heap} {H : Hp} {b : Addr} {o : Obj} (e : (hidT h H).get? b = some o) : h.get? b = some o ∧ H b = none := by
  have e' : h.get? b = some o := PySem.W.of_hideAll (trk h H) e
  refine ⟨e', ?_⟩
  cases q : H b with
  | none => rfl
  | some x =>
    have hm : b ∈ trk h H := List.mem_filter.mpr ⟨List.mem_range.mpr (Heap.lt_size e'), by simp [q]⟩
    have z : (hidT h H).get? b = none := PySem.W.hideAll_none (trk h H) hm
    rw [z] at e; cases e
end L2
namespace L2
open PySem PySem.Spec PyProof.Rows
structure Mod (K : PySem.W.Frag) (mg : Str → Option Value) (base : Heap) : Prop where
  kin : K.In base
  glob : base.Ns mainGlobals mg
  blt : ∃ mb, base.Ns builtinsNs mb ∧ ∀ x : Str, x ≠ "__name__" → mb x = bootBuiltins x
  nolimit : base.NoLimit
structure Cx where
  prog : Program
  w : World
  K : PySem.W.Frag
  mg : Str → Option Value
  base : Heap
  A : Around
  N : List Str
  s₀ : Shared
  H₀ : Hp
  env : Env
  outer : List Env
  stack : List Env
  ex : List Addr
  fn : Str → Bool
  calm : Bool
  pn : List (Addr × Obj)
  xe : Value → Shared → Prop
def frs (l : List Env) : List Addr := l.filterMap (·.frame)
abbrev Cx.fs (X : Cx) : List Addr := frs X.outer
def Vis (sc : Scope) (x : Str) : Prop := sc.names.lookup x = some .local ∨ sc.names.lookup x = some .cell ∨ sc.names.lookup x = some .free
def Loc (sc : Scope) (x : Str) : Prop := sc.names.lookup x = some .local ∨ sc.names.lookup x = some .cell
def Look (env : Env) (h : Heap) (m : Str → Option Value) (x : Str) (u : Value) : Prop :=
  (env.kindOf x = some .local ∧ m x = some u) ∨ ((env.kindOf x = some .cell ∨ env.kindOf x = some .free) ∧ ∃ c, env.cells.lookup x = some c ∧ h.IsCell c (some u))
structure Cx.Ok (X : Cx) : Prop where
  mod : Mod X.K X.mg X.base
  kind : X.env.scope.kind = .function
  glob : X.env.globals = mainGlobals
  blt : X.env.builtins = builtinsNs
  above : X.s₀.heap.objs.size ≤ X.env.locals
  inj : ∀ x y c, X.env.cells.lookup x = some c → X.env.cells.lookup y = some c → x = y
  has : ∀ x, (X.env.kindOf x = some .cell ∨ X.env.kindOf x = some .free) → ∃ c, X.env.cells.lookup x = some c
  cab : ∀ x c, X.fn x = true → X.env.cells.lookup x = some c → X.s₀.heap.objs.size ≤ c
  hd : X.calm = true → X.A.handled = none
  frames : X.A.frames = some X.stack
  stk : X.stack = X.outer ∨ (X.stack = X.env :: X.outer ∧ X.env.frame = some X.env.locals)
  exf : ∀ b ∈ X.ex, b ≠ X.env.locals ∧ ∀ x c, X.env.cells.lookup x = some c → c ≠ b
  bs : ∀ b o, X.base.get? b = some o → X.s₀.heap.get? b = some o ∧ X.H₀ b = none
  bsz : X.base.objs.size ≤ X.s₀.heap.objs.size
  noex : ∀ b o, X.base.get? b = some o → b ∉ X.ex
  exfs : ∀ b ∈ X.ex, b ∉ X.fs
  funs : X.s₀.heap.FunFrames X.base X.outer
  frf : ∀ b ∈ X.fs, X.H₀ b = none
structure Inv (X : Cx) (pins : List (Addr × Obj)) (σ : List (Option V)) (H : Hp) (s : Shared) : Prop where
  ok : X.Ok
  os : s.os = X.s₀.os
  bare : AllBare s.gens
  base : Un X.fs X.ex X.H₀ H X.s₀.heap s.heap
  loc : ∃ m, s.heap.Ns X.env.locals m ∧ ∀ (i : Nat) (x : Str) (v : V), X.N[i]? = some x → σ[i]? = some (some v) → Vis X.env.scope x → ∃ u, RelV v u ∧ Look X.env s.heap m x u
  cell : ∀ x c, X.env.cells.lookup x = some c → ∃ v, s.heap.IsCell c v
  free : H X.env.locals = none
  freeC : ∀ x c, X.env.cells.lookup x = some c → H c = none
  pin : ∀ p ∈ X.pn ++ pins, s.heap.get? p.1 = some p.2 ∧ H p.1 = none ∧ p.1 ≠ X.env.locals ∧ p.1 ∉ X.fs ∧ ∀ v, p.2.data ≠ .cell v
  hok : HOk X.prog X.w H s.heap
  len : σ.length = X.N.length
section
variable {X : Cx} {pins : List (Addr × Obj)} {σ : List (Option V)} {H H' : Hp} {s : Shared} {h' : Heap}
theorem Cx.Ok.nofr (ok : X.Ok) {b : Addr} {o : Obj} (e : X.base.get? b = some o) : b ∉ X.fs := fun hb => by
  have := (ok.funs.mem hb).1
  rw [e] at this; cases this
theorem Inv.bs (I : Inv X pins σ H s) : ∀ b o, X.base.get? b = some o → s.heap.get? b = some o ∧ H b = none := fun b o e =>
  ⟨I.base.keep b o (I.ok.bs b o e).1 (I.ok.bs b o e).2 (I.ok.nofr e) (I.ok.noex b o e), I.base.free b o (I.ok.bs b o e).1 (I.ok.bs b o e).2 (I.ok.noex b o e)⟩
theorem Inv.bk (I : Inv X pins σ H s) : ∀ b o, X.base.get? b = some o → s.heap.get? b = some o := fun b o e => (I.bs b o e).1
theorem Inv.mod (I : Inv X pins σ H s) : Mod X.K X.mg X.base := I.ok.mod
theorem Inv.kIn (I : Inv X pins σ H s) : X.K.In s.heap := I.ok.mod.kin.keeps I.bk
theorem Inv.lt (I : Inv X pins σ H s) : X.env.locals < s.heap.objs.size := let ⟨_, hn, _⟩ := I.loc; hn.lt
theorem Inv.sz (I : Inv X pins σ H s) : X.s₀.heap.objs.size ≤ s.heap.objs.size := Nat.le_trans I.ok.above (Nat.le_of_lt I.lt)
theorem Inv.nofs (I : Inv X pins σ H s) {a : Addr} (h : s.heap.objs.size ≤ a) : a ∉ X.fs := fun hb => by
  obtain ⟨_, o, ho, _⟩ := I.ok.funs.mem hb
  exact absurd (Nat.lt_of_lt_of_le (Heap.lt_size ho) (Nat.le_trans I.sz h)) (Nat.lt_irrefl _)
theorem Inv.cne (I : Inv X pins σ H s) : ∀ x c, X.env.cells.lookup x = some c → c ≠ X.env.locals := fun x c e z => by
  obtain ⟨v, o, ho, hd⟩ := I.cell x c e
  obtain ⟨m, ⟨o', es, ep, ho', hd', _⟩, _⟩ := I.loc
  rw [z, ho'] at ho; cases ho; rw [hd'] at hd; cases hd
theorem Inv.funs (I : Inv X pins σ H s) : s.heap.FunFrames X.base X.outer := by
  have all : ∀ (l : List Env), (∀ b ∈ frs l, b ∈ X.fs) → X.s₀.heap.FunFrames X.base l → s.heap.FunFrames X.base l := by
    intro l
    induction l with
    | nil => intro _ _; trivial
    | cons env r ih =>
      intro hs hl
      obtain ⟨hk, ⟨L, o, hf, hn, ho, hd⟩, hr⟩ := hl
      have hL : L ∈ X.fs := hs L (by unfold frs; rw [List.filterMap_cons, hf]; exact List.mem_cons_self)
      obtain ⟨sl, e⟩ := I.base.slot L o ho (I.ok.frf L hL) hL fun z => I.ok.exfs L z hL
      exact ⟨hk, ⟨L, _, hf, hn, e, hd⟩, ih (fun b hb => hs b (by unfold frs; rw [List.filterMap_cons, hf]; exact List.mem_cons_of_mem _ hb)) hr⟩
  exact all X.outer (fun _ hb => hb) I.ok.funs
theorem Inv.stack (I : Inv X pins σ H s) : s.heap.FunFrames X.base X.stack := by
  rcases I.ok.stk with e | ⟨e, hf⟩
  · rw [e]; exact I.funs
  · rw [e]
    obtain ⟨m, hn, _⟩ := I.loc
    refine .cons (by rw [I.ok.kind]; decide) hf hn ?_ I.funs
    exact Heap.get?_none_of_le (Nat.le_trans I.ok.bsz I.ok.above)
theorem Inv.stkSub (I : Inv X pins σ H s) : ∀ b ∈ frs X.stack, b ∈ X.env.locals :: X.fs := fun b hb => by
  rcases I.ok.stk with e | ⟨e, hf⟩
  · rw [e] at hb; exact List.mem_cons_of_mem _ hb
  · rw [e] at hb
    unfold frs at hb
    rw [List.filterMap_cons, hf] at hb
    exact hb
theorem Inv.stkFree (I : Inv X pins σ H s) : ∀ b ∈ frs X.stack, H b = none := fun b hb => by
  rcases List.mem_cons.mp (I.stkSub b hb) with e | hb
  · rw [e]; exact I.free
  · obtain ⟨_, o, ho, _⟩ := I.ok.funs.mem hb
    exact I.base.free b o ho (I.ok.frf b hb) fun z => I.ok.exfs b z hb
theorem Inv.step {g' : Array GenState} {t' : Nat} {d' : Drawn} {ch : List Addr} (I : Inv X pins σ H s)
    (hch : ∀ b ∈ ch, (b ∈ X.ex ∨ X.s₀.heap.objs.size ≤ b) ∧ b ≠ X.env.locals ∧ (∀ x c, X.env.cells.lookup x = some c → c ≠ b) ∧ ∀ p ∈ X.pn ++ pins, p.1 ≠ b)
    (keep : ∀ b o, b ≠ X.env.locals → b ∉ X.fs → b ∉ ch → s.heap.get? b = some o → H b = none → h'.get? b = some o)
    (slot : ∀ b o, b ≠ X.env.locals → b ∈ X.fs → b ∉ ch → s.heap.get? b = some o → H b = none → ∃ sl, h'.get? b = some { o with slots := sl }) (free : ∀ b o, b ∉ ch → s.heap.get? b = some o → H b = none → H' b = none)
    (there : ∀ b o, b ∉ ch → s.heap.get? b = some o → ∃ o', h'.get? b = some o')
    (tups : ∀ b xs, H b = some (.tup xs) → H' b = some (.tup xs)) (frzs : ∀ b o u, H b = some (.frz o u) → H' b = some (.frz o u)) (tbls : ∀ b ps, H b = some (.tbl ps) → ∃ more, H' b = some (.tbl (ps ++ more)))
    (ns : ∀ m, s.heap.Ns X.env.locals m → h'.Ns X.env.locals m) (hok : HOk X.prog X.w H' h') (hg : AllBare g') :
    Inv X pins σ H' { s with heap := h', gens := g', drawn := d', toks := t' } := by
  have neL : ∀ b o, X.s₀.heap.get? b = some o → b ≠ X.env.locals := fun b o e => Nat.ne_of_lt (Nat.lt_of_lt_of_le (Heap.lt_size e) I.ok.above)
  have neC : ∀ b o, X.s₀.heap.get? b = some o → b ∉ X.ex → b ∉ ch := fun b o e hx hb => by
    rcases (hch b hb).1 with z | z
    · exact hx z
    · exact absurd (Nat.lt_of_lt_of_le (Heap.lt_size e) z) (Nat.lt_irrefl _)
  have cellK : ∀ x c, X.env.cells.lookup x = some c → ∀ v, s.heap.IsCell c v → h'.IsCell c v := fun x c e v ⟨o, ho, hd⟩ => by
    have nch : c ∉ ch := fun z => (hch c z).2.2.1 x c e rfl
    by_cases hc : c ∈ X.fs
    · obtain ⟨sl, q⟩ := slot c o (I.cne x c e) hc nch ho (I.freeC x c e)
      exact ⟨_, q, hd⟩
    · exact ⟨o, keep c o (I.cne x c e) hc nch ho (I.freeC x c e), hd⟩
  refine ⟨I.ok, I.os, hg, ⟨fun b o e n hb hx => ?_, fun b o e n hb hx => ?_, fun b o e n hx => ?_, fun b o e hx => ?_, fun b xs e => tups b xs (I.base.tups b xs e), fun b o xs e => frzs b o xs (I.base.frzs b o xs e), fun b ps e => ?_⟩, ?_, fun x c e => ?_, ?_, fun x c e => ?_, fun p hp => ?_, hok, I.len⟩
  · exact keep b o (neL b o e) hb (neC b o e hx) (I.base.keep b o e n hb hx) (I.base.free b o e n hx)
  · obtain ⟨sl, e1⟩ := I.base.slot b o e n hb hx
    obtain ⟨sl', e2⟩ := slot b _ (neL b o e) hb (neC b o e hx) e1 (I.base.free b o e n hx)
    exact ⟨sl', e2⟩
  · obtain ⟨o', e1⟩ := I.base.there b o e hx
    exact free b o' (neC b o e hx) e1 (I.base.free b o e n hx)
  · obtain ⟨o', e1⟩ := I.base.there b o e hx
    exact there b o' (neC b o e hx) e1
  · obtain ⟨m1, e1⟩ := I.base.tbls b ps e
    obtain ⟨m2, e2⟩ := tbls b _ e1
    exact ⟨m1 ++ m2, by rw [e2, Array.append_assoc]⟩
  · obtain ⟨m, hn, hl⟩ := I.loc
    refine ⟨m, ns m hn, fun i x v e1 e2 e3 => ?_⟩
    obtain ⟨u, r, l⟩ := hl i x v e1 e2 e3
    refine ⟨u, r, ?_⟩
    rcases l with l | ⟨k, c, e, z⟩
    · exact .inl l
    · exact .inr ⟨k, c, e, cellK x c e _ z⟩
  · obtain ⟨v, z⟩ := I.cell x c e
    exact ⟨v, cellK x c e v z⟩
  · obtain ⟨m, ⟨o, _, _, ho, _⟩, _⟩ := I.loc
    exact free _ o (fun z => (hch _ z).2.1 rfl) ho I.free
  · obtain ⟨v, o, ho, hd⟩ := I.cell x c e
    exact free c o (fun z => (hch c z).2.2.1 x c e rfl) ho (I.freeC x c e)
  · obtain ⟨e, n, ne, nf, d⟩ := I.pin p hp
    have nch : p.1 ∉ ch := fun z => (hch p.1 z).2.2.2 p hp rfl
    exact ⟨keep p.1 p.2 ne nf nch e n, free p.1 p.2 nch e n, ne, nf, d⟩
theorem Inv.un {t' : Nat} (I : Inv X pins σ H s) (u : Un X.fs [] H H' s.heap h') (hok : HOk X.prog X.w H' h') : Inv X pins σ H' { s with heap := h', toks := t' } := by
  obtain ⟨m, ⟨o, es, ep, ho, r⟩, _⟩ := id I.loc
  obtain ⟨sl, hL⟩ := u.any ho I.free (by simp)
  exact I.step (g' := s.gens) (d' := s.drawn) (ch := []) (fun _ z => nomatch z) (fun b o _ hb _ e n => u.keep b o e n hb (by simp)) (fun b o _ hb _ e n => u.slot b o e n hb (by simp)) (fun b o _ e n => u.free b o e n (by simp)) (fun b o _ e => u.there b o e (by simp)) u.tups u.frzs u.tbls (fun m' hm => by
    obtain ⟨o', es', ep', ho', r'⟩ := hm
    rw [ho] at ho'; cases ho'
    exact ⟨_, es', ep', hL, r'⟩) hok I.bare
theorem Inv.call {g' : Array GenState} {t' : Nat} {d' : Drawn} {ch : List Addr} (I : Inv X pins σ H s) (u : Un (frs X.stack) ch H H' s.heap h') (hok : HOk X.prog X.w H' h') (hg : AllBare g')
    (hch : ∀ b ∈ ch, (b ∈ X.ex ∨ X.s₀.heap.objs.size ≤ b) ∧ b ≠ X.env.locals ∧ (∀ x c, X.env.cells.lookup x = some c → c ≠ b) ∧ ∀ p ∈ X.pn ++ pins, p.1 ≠ b) :
    Inv X pins σ H' { s with heap := h', gens := g', drawn := d', toks := t' } := by
  obtain ⟨m, ⟨o, es, ep, ho, r⟩, _⟩ := id I.loc
  obtain ⟨sl, hL⟩ := u.any ho I.free fun z => (hch _ z).2.1 rfl
  exact I.step (ch := ch) hch (fun b o hL hb hc e n => u.keep b o e n (fun z => (List.mem_cons.mp (I.stkSub b z)).elim hL hb) hc) (fun b o _ _ hc e n => u.any e n hc) (fun b o hc e n => u.free b o e n hc) (fun b o hc e => u.there b o e hc) u.tups u.frzs u.tbls (fun m' hm => by
    obtain ⟨o', es', ep', ho', r'⟩ := hm
    rw [ho] at ho'; cases ho'
    exact ⟨_, es', ep', hL, r'⟩) hok hg
theorem Inv.turned {t' : Nat} {it : Addr} (I : Inv X pins σ H s) (k : ∀ b o, b ≠ it → s.heap.get? b = some o → h'.get? b = some o) (hn : H it = none) (hL : it ≠ X.env.locals)
    (h1 : it ∈ X.ex ∨ X.s₀.heap.objs.size ≤ it) (h2 : ∀ x c, X.env.cells.lookup x = some c → c ≠ it) (h3 : ∀ p ∈ X.pn ++ pins, p.1 ≠ it) : Inv X pins σ H { s with heap := h', toks := t' } := by
  have nit : ∀ b u, H b = some u → b ≠ it := fun b u e z => by rw [z, hn] at e; cases e
  refine I.step (g' := s.gens) (d' := s.drawn) (ch := [it]) (fun b hb => ?_) (fun b o _ _ hc e _ => k b o (fun z => hc (by simp [z])) e) (fun b o _ _ hc e _ => ⟨o.slots, k b o (fun z => hc (by simp [z])) e⟩) (fun _ _ _ _ n => n)
    (fun b o hc e => ⟨o, k b o (fun z => hc (by simp [z])) e⟩) (fun _ _ e => e) (fun _ _ _ e => e) (fun b ps e => ⟨#[], by rw [e]; simp⟩) (fun m hm => ?_) (fun b u e => ?_) I.bare
  · have e : b = it := by simpa using hb
    subst e
    exact ⟨h1, hL, h2, h3⟩
  · obtain ⟨o, es, ep, ho, r⟩ := hm
    exact ⟨o, es, ep, k _ o (Ne.symm hL) ho, r⟩
  · refine (I.hok b u e).stay (fun c v hc q => k c v ?_ q) (fun _ q => q) fun _ _ q => q
    rcases hc with z | z
    · rw [z]; exact nit b u e
    · exact nit c _ z
theorem Inv.tok (I : Inv X pins σ H s) (t : Nat) : Inv X pins σ H { s with toks := t } := I.un (h' := s.heap) (t' := t) Un.refl I.hok
theorem Inv.kept {t' : Nat} (I : Inv X pins σ H s) (k : ∀ b u, s.heap.get? b = some u → h'.get? b = some u) : Inv X pins σ H { s with heap := h', toks := t' } := I.un (Un.kept k) (I.hok.kept k)
theorem Inv.laid {a : Addr} {o : HO} {t' : Nat} (I : Inv X pins σ H s) (k : ∀ b u, s.heap.get? b = some u → h'.get? b = some u) (hp : s.heap.objs.size ≤ a) (new : ObjOk X.prog X.w (upd H a o) h' a o) :
    Inv X pins σ (upd H a o) { s with heap := h', toks := t' } := I.un (Un.laid k hp (I.hok.fresh hp)) (I.hok.laid k hp new)
theorem Inv.write {x e : Addr} {o : HO} {t' : Nat} (I : Inv X pins σ H s) (mu : Mut (H x)) (he : e = x ∨ H e = some (.own x)) (k : ∀ b u, b ≠ e → s.heap.get? b = some u → h'.get? b = some u) (heo : ∃ u, h'.get? e = some u)
    (new : ObjOk X.prog X.w (upd H x o) h' x o) : Inv X pins σ (upd H x o) { s with heap := h', toks := t' } := I.un (Un.write mu he k heo) (I.hok.write mu he k heo new)
theorem Inv.weak {σ' : List (Option V)} (I : Inv X pins σ H s) (hl : σ'.length = σ.length) (w : ∀ (i : Nat) v, σ'[i]? = some (some v) → σ[i]? = some (some v)) : Inv X pins σ' H s :=
  ⟨I.ok, I.os, I.bare, I.base, let ⟨m, hn, hl'⟩ := I.loc; ⟨m, hn, fun i x v e1 e2 e3 => hl' i x v e1 (w i v e2) e3⟩, I.cell, I.free, I.freeC, I.pin, I.hok, hl.trans I.len⟩
theorem Inv.pins_of {pins' : List (Addr × Obj)} (I : Inv X pins σ H s) (h : ∀ p ∈ pins', s.heap.get? p.1 = some p.2 ∧ H p.1 = none ∧ p.1 ≠ X.env.locals ∧ p.1 ∉ X.fs ∧ ∀ v, p.2.data ≠ .cell v) : Inv X pins' σ H s :=
  ⟨I.ok, I.os, I.bare, I.base, I.loc, I.cell, I.free, I.freeC, fun p hp => (List.mem_append.mp hp).elim (fun z => I.pin p (List.mem_append_left _ z)) (h p), I.hok, I.len⟩
theorem nodup_ix {N : List Str} (hN : N.Nodup) {i j : Nat} {x : Str} (a : N[i]? = some x) (b : N[j]? = some x) : i = j := by
  obtain ⟨h1, e1⟩ := List.getElem?_eq_some_iff.mp a
  obtain ⟨h2, e2⟩ := List.getElem?_eq_some_iff.mp b
  exact (List.getElem_inj hN).mp (e1.trans e2.symm)
theorem store_ok2 {M : Model} {A : Around} {E : Value → Shared → Prop} {i : Nat} {x : Str} {v : V} {u : Value} {Q : Unit → Shared → Prop} (I : Inv X pins σ H s) (hN : X.N.Nodup) (hi : X.N[i]? = some x) (hx : Loc X.env.scope x) (r : RelV v u)
    (h : ∀ s', Inv X pins (σ.set i (some v)) H s' → (∃ a, Heap.SameBut a s.heap s'.heap ∧ (a = X.env.locals ∨ X.env.cells.lookup x = some a)) → Q () s') (hf : X.fn x = true ∨ X.env.scope.names.lookup x = some .local := by first | exact .inl rfl | exact .inr rfl | assumption) : wpAny M A (storeName X.env x u) Q E s := by
  obtain ⟨m, hn, hl⟩ := id I.loc
  have hcls : (X.env.scope.kind == .class || (X.env.scope.kind == .module && X.env.locals != X.env.globals)) = false := by rw [I.ok.kind]; rfl
  have hiσ : i < σ.length := by rw [I.len]; exact (List.getElem?_eq_some_iff.mp hi).1
  have cne := I.cne
  have tracked : ∀ {a : Addr} {h' : Heap}, (∃ o, s.heap.get? a = some o ∧ H a = none) → Heap.SameBut a s.heap h' → HOk X.prog X.w H h' := fun {a h'} ha hs b ob e => by
    obtain ⟨_, _, hfree⟩ := ha
    refine (I.hok b ob e).stay (fun c w' hc q => (hs.2 c ?_).trans q) (fun _ q => q) fun _ _ q => q
    rintro rfl
    rcases hc with rfl | hc
    · rw [hfree] at e; cases e
    · rw [hfree] at hc; cases hc
  rcases hx with hk | hk
  · refine wpAny_storeName_local hk hn (fun h' hn' hs => ?_) hcls
    obtain ⟨oL, _, _, hoL, _⟩ := id hn
    refine h _ ⟨I.ok, I.os, I.bare, ⟨fun b o e n hb hx => ?_, fun b o e n hb hx => ?_, I.base.free, fun b o e hx => ?_, I.base.tups, I.base.frzs, I.base.tbls⟩, ⟨_, hn', fun j y v' e1 e2 e3 => ?_⟩, fun y c e => ?_, I.free, I.freeC, fun p hp => ?_, tracked ⟨oL, hoL, I.free⟩ hs, by simpa using I.len⟩ ⟨_, hs, .inl rfl⟩
    · exact (hs.2 b (Nat.ne_of_lt (Nat.lt_of_lt_of_le (Heap.lt_size e) I.ok.above))).trans (I.base.keep b o e n hb hx)
    · obtain ⟨sl, e1⟩ := I.base.slot b o e n hb hx
      exact ⟨sl, (hs.2 b (Nat.ne_of_lt (Nat.lt_of_lt_of_le (Heap.lt_size e) I.ok.above))).trans e1⟩
    · obtain ⟨o', e1⟩ := I.base.there b o e hx
      exact ⟨o', (hs.2 b (Nat.ne_of_lt (Nat.lt_of_lt_of_le (Heap.lt_size e) I.ok.above))).trans e1⟩
    · by_cases hj : j = i
      · subst hj
        rw [hi] at e1; cases e1
        rw [List.getElem?_set_self hiσ] at e2
        cases e2
        exact ⟨u, r, .inl ⟨hk, by simp⟩⟩
      · rw [List.getElem?_set_ne (Ne.symm hj)] at e2
        obtain ⟨u', r', q⟩ := hl j y v' e1 e2 e3
        refine ⟨u', r', ?_⟩
        rcases q with ⟨k, e⟩ | ⟨k, c, e, z⟩
        · refine .inl ⟨k, ?_⟩
          have : y ≠ x := fun e => hj (nodup_ix hN e1 (e ▸ hi))
          simp [this, e]
        · exact .inr ⟨k, c, e, z.sameBut hs (cne y c e)⟩
    · obtain ⟨w', z⟩ := I.cell y c e
      exact ⟨w', z.sameBut hs (cne y c e)⟩
    · obtain ⟨e, n, ne, nf, d⟩ := I.pin p hp
      exact ⟨(hs.2 p.1 ne).trans e, n, ne, nf, d⟩
  · have hfn : X.fn x = true := by
      rcases hf with z | z
      · exact z
      · rw [z] at hk; cases hk
    obtain ⟨c, hc⟩ := I.ok.has x (.inl hk)
    obtain ⟨w', z⟩ := I.cell x c hc
    refine wpAny_storeName_cell I.ok.kind hk hc z (fun h' hc' hs => ?_)
    obtain ⟨oc, hoc, hocd⟩ := id z
    refine h { s with heap := h' } ⟨I.ok, I.os, I.bare, ⟨fun b o e n hb hx => ?_, fun b o e n hb hx => ?_, I.base.free, fun b o e hx => ?_, I.base.tups, I.base.frzs, I.base.tbls⟩, ⟨m, hn.sameBut hs (Ne.symm (cne x c hc)), fun j y v' e1 e2 e3 => ?_⟩, fun y c' e => ?_, I.free, I.freeC, fun p hp => ?_, tracked ⟨oc, hoc, I.freeC x c hc⟩ hs, by simpa using I.len⟩ ⟨c, hs, .inr hc⟩
    · exact (hs.2 b (Nat.ne_of_lt (Nat.lt_of_lt_of_le (Heap.lt_size e) (I.ok.cab x c hfn hc)))).trans (I.base.keep b o e n hb hx)
    · obtain ⟨sl, e1⟩ := I.base.slot b o e n hb hx
      exact ⟨sl, (hs.2 b (Nat.ne_of_lt (Nat.lt_of_lt_of_le (Heap.lt_size e) (I.ok.cab x c hfn hc)))).trans e1⟩
    · obtain ⟨o', e1⟩ := I.base.there b o e hx
      exact ⟨o', (hs.2 b (Nat.ne_of_lt (Nat.lt_of_lt_of_le (Heap.lt_size e) (I.ok.cab x c hfn hc)))).trans e1⟩
    · by_cases hj : j = i
      · subst hj
        rw [hi] at e1; cases e1
        rw [List.getElem?_set_self hiσ] at e2
        cases e2
        exact ⟨u, r, .inr ⟨.inl hk, c, hc, hc'⟩⟩
      · rw [List.getElem?_set_ne (Ne.symm hj)] at e2
        obtain ⟨u', r', q⟩ := hl j y v' e1 e2 e3
        refine ⟨u', r', ?_⟩
        rcases q with q | ⟨k, c', e, z'⟩
        · exact .inl q
        · refine .inr ⟨k, c', e, z'.sameBut hs ?_⟩
          rintro rfl
          exact hj (nodup_ix hN e1 (I.ok.inj _ _ _ e hc ▸ hi))
    · by_cases hcc : c' = c
      · subst hcc; exact ⟨_, hc'⟩
      · obtain ⟨w2, z2⟩ := I.cell y c' e
        exact ⟨w2, z2.sameBut hs hcc⟩
    · obtain ⟨e, n, ne, nf, d⟩ := I.pin p hp
      refine ⟨(hs.2 p.1 ?_).trans e, n, ne, nf, d⟩
      intro q
      rw [q, hoc] at e
      have q' : oc = p.2 := Option.some.inj e
      exact d w' (by rw [← q']; exact hocd)
theorem store_ok {M : Model} {A : Around} {E : Value → Shared → Prop} {i : Nat} {x : Str} {v : V} {u : Value} {Q : Unit → Shared → Prop} (I : Inv X pins σ H s) (hN : X.N.Nodup) (hi : X.N[i]? = some x) (hx : Loc X.env.scope x) (r : RelV v u)
    (h : ∀ s', Inv X pins (σ.set i (some v)) H s' → Q () s') (hf : X.fn x = true ∨ X.env.scope.names.lookup x = some .local := by first | exact .inl rfl | exact .inr rfl | assumption) : wpAny M A (storeName X.env x u) Q E s :=
  store_ok2 I hN hi hx r (fun s' I' _ => h s' I') hf
theorem Inv.call' {s' : Shared} {ch : List Addr} (I : Inv X pins σ H s) (ho : s'.os = s.os) (u : Un (frs X.stack) ch H H' s.heap s'.heap) (hok : HOk X.prog X.w H' s'.heap) (hg : AllBare s'.gens)
    (hch : ∀ b ∈ ch, (b ∈ X.ex ∨ X.s₀.heap.objs.size ≤ b) ∧ b ≠ X.env.locals ∧ (∀ x c, X.env.cells.lookup x = some c → c ≠ b) ∧ ∀ p ∈ X.pn ++ pins, p.1 ≠ b) : Inv X pins σ H' s' := by
  obtain ⟨h', g', d', t', o'⟩ := s'
  have e : o' = s.os := ho
  subst e
  exact I.call (g' := g') (t' := t') (d' := d') u hok hg hch
end
abbrev XK := Value → Option Addr → Hp → Prop
abbrev St := List (Option V)
abbrev VK := V → Hp → Prop
abbrev TE := St → Hp → VK → Prop
abbrev TT := St → Hp → (Bool → Hp → Prop) → Prop
abbrev TA := St → Hp → (List V → Hp → Prop) → Prop
structure Ends where
  nx : St → Hp → Prop
  rt : VK
  bk : St → Hp → Prop := fun _ _ => False
  ct : St → Hp → Prop := fun _ _ => False
abbrev TS := Ends → St → Hp → Prop
def EP (X : Cx) (pins : List (Addr × Obj)) (σ : St) (Q : VK) (u : Value) (s' : Shared) : Prop := ∃ v H', Inv X pins σ H' s' ∧ RelV v u ∧ Q v H'
def TP (X : Cx) (pins : List (Addr × Obj)) (σ : St) (Q : Bool → Hp → Prop) (b : Bool) (s' : Shared) : Prop := ∃ H', Inv X pins σ H' s' ∧ Q b H'
def AP (X : Cx) (pins : List (Addr × Obj)) (σ : St) (Q : List V → Hp → Prop) (us : List Value) (s' : Shared) : Prop := ∃ vs H', Inv X pins σ H' s' ∧ Vals vs us ∧ Q vs H'
def SP (X : Cx) (pins : List (Addr × Obj)) (D : Ends) (f : Flow) (s' : Shared) : Prop :=
  match f with
  | .next => ∃ σ' H', Inv X pins σ' H' s' ∧ D.nx σ' H'
  | .brk => ∃ σ' H', Inv X pins σ' H' s' ∧ D.bk σ' H'
  | .cont => ∃ σ' H', Inv X pins σ' H' s' ∧ D.ct σ' H'
  | .ret u => ∃ v σ' H', Inv X pins σ' H' s' ∧ RelV v u ∧ D.rt v H'
def PE (X : Cx) (e : Expr) (t : TE) : Prop :=
  ∀ (pins : List (Addr × Obj)) (s : Shared) (σ : St) (H : Hp) (Q : VK), Inv X pins σ H s → t σ H Q → wpAny (model X.prog X.w) X.A (eval e X.env) (EP X pins σ Q) X.xe s
def PT (X : Cx) (e : Expr) (t : TT) : Prop :=
  ∀ (pins : List (Addr × Obj)) (s : Shared) (σ : St) (H : Hp) (Q : Bool → Hp → Prop), Inv X pins σ H s → t σ H Q → wpAny (model X.prog X.w) X.A (isTrue e X.env (eval e X.env)) (TP X pins σ Q) X.xe s
def PW (X : Cx) (e : Expr) (t : TT) : Prop :=
  ∀ (whole : Sem Value) (pins : List (Addr × Obj)) (s : Shared) (σ : St) (H : Hp) (Q : Bool → Hp → Prop), Inv X pins σ H s → t σ H Q → wpAny (model X.prog X.w) X.A (isTrue e X.env whole) (TP X pins σ Q) X.xe s
theorem PW.pt {X : Cx} {e : Expr} {t : TT} (h : PW X e t) : PT X e t := h _
def PA (X : Cx) (es : List Expr) (t : TA) : Prop :=
  ∀ (pos : Pos) (pins : List (Addr × Obj)) (s : Shared) (σ : St) (H : Hp) (Q : List V → Hp → Prop), Inv X pins σ H s → t σ H Q → wpAny (model X.prog X.w) X.A (spliced (backTo pos (starEach es X.env))) (AP X pins σ Q) X.xe s
def PS (X : Cx) (st : Stmt) (t : TS) : Prop :=
  ∀ (pins : List (Addr × Obj)) (s : Shared) (σ : St) (H : Hp) (D : Ends), Inv X pins σ H s → t D σ H → wpAny (model X.prog X.w) X.A (exec st X.env) (SP X pins D) X.xe s
def PSs (X : Cx) (st : List Stmt) (t : TS) : Prop :=
  ∀ (pins : List (Addr × Obj)) (s : Shared) (σ : St) (H : Hp) (D : Ends), Inv X pins σ H s → t D σ H → wpAny (model X.prog X.w) X.A (execs st X.env) (SP X pins D) X.xe s
theorem thn {α : Type} {t : Sem α} {Q Q' : α → Shared → Prop} {M : Model} {A : Around} {E : Value → Shared → Prop} {s : Shared} (h : wpAny M A t Q E s) (hQ : ∀ a s, Q a s → Q' a s) : wpAny M A t Q' E s := wpAny_mono h hQ fun _ _ x => x
end L2
namespace L2
open PySem PySem.Spec PyProof.Rows
section
variable {X : Cx}
def tVar (i : Nat) : TE := fun σ H Q => ∃ v, σ[i]? = some (some v) ∧ Q v H
def tC (v : V) : TE := fun _ H Q => Q v H
theorem pe_var {i : Nat} {x : Str} {pos : Pos} (hN : X.N[i]? = some x) (hv : Vis X.env.scope x) (hd : (x == ("__debug__" : Str)) = false := by decide) (hcd : (x == ("__classdict__" : Str)) = false := by decide) : PE X (.Name x pos) (tVar i) := by
  intro pins s σ H Q I h
  obtain ⟨v, e, h⟩ := h
  obtain ⟨m, hn, hl⟩ := I.loc
  obtain ⟨u, r, l⟩ := hl i x v hN e hv
  have fin : EP X pins σ Q u s := ⟨v, H, I, r, h⟩
  rcases l with ⟨hk, hm⟩ | ⟨hk, c, hc, hcell⟩
  · exact wpAny_Name (wpAny_loadName_local I.ok.kind hk hn hm fin) hd
  · rcases hk with hk | hk
    · exact wpAny_Name (wpAny_loadName_cell I.ok.kind hk hc hcell fin) hd
    · exact wpAny_Name (wpAny_loadName_free I.ok.kind hk hc hcell fin hcd) hd
theorem pe_int {i j pos} : PE X (.Constant (.int i) j pos) (tC (.int i)) := fun _ _ _ H _ I h => wpAny_Constant_int ⟨.int i, H, I.tok _, ⟨_, rfl⟩, h⟩
theorem pe_bl {b j pos} : PE X (.Constant (.bool b) j pos) (tC (.bl b)) := fun _ _ _ H _ I h => Constant_bool ⟨.bl b, H, I, rfl, h⟩
theorem pe_non {j pos} : PE X (.Constant .none j pos) (tC .non) := fun _ _ _ H _ I h => Constant_none ⟨.non, H, I, rfl, h⟩
theorem pe_str {x j pos} : PE X (.Constant (.str x) j pos) (tC (.str x)) := fun _ _ _ H _ I h => Calls.Constant_str ⟨.str x, H, I.tok _, ⟨_, rfl⟩, h⟩
def Gl (X : Cx) (x : Str) : Prop := X.env.kindOf x = some .globalImplicit
theorem ld_glob {E : Value → Shared → Prop} {pins : List (Addr × Obj)} {s : Shared} {σ : St} {H : Hp} {x : Str} {u : Value} {pos : Pos} {Q : Value → Shared → Prop} (I : Inv X pins σ H s) (hg : Gl X x) (hm : X.mg x = some u) (h : Q u s)
    (hd : (x == ("__debug__" : Str)) = false := by decide) : wpAny (model X.prog X.w) X.A (eval (.Name x pos) X.env) Q E s :=
  Calls.Name_function_global I.ok.kind hg (Calls.loadGlobal_global (by rw [I.ok.glob]; exact I.mod.glob.keeps I.bk) hm h) hd
theorem ld_blt {E : Value → Shared → Prop} {pins : List (Addr × Obj)} {s : Shared} {σ : St} {H : Hp} {x : Str} {u : Value} {pos : Pos} {Q : Value → Shared → Prop} (I : Inv X pins σ H s) (hg : Gl X x) (hm : X.mg x = none) (hv : bootBuiltins x = some u) (h : Q u s)
    (hn : x ≠ "__name__" := by decide) (hd : (x == ("__debug__" : Str)) = false := by decide) : wpAny (model X.prog X.w) X.A (eval (.Name x pos) X.env) Q E s := by
  obtain ⟨mb, h1, h2⟩ := I.mod.blt
  exact Calls.Name_function_global I.ok.kind hg (Calls.loadGlobal_builtin (by rw [I.ok.glob]; exact I.mod.glob.keeps I.bk) hm (by rw [I.ok.blt]; exact h1.keeps I.bk) ((h2 x hn).trans hv) h) hd
theorem pe_glob {x : Str} {v : V} {u : Value} {pos : Pos} (hg : Gl X x) (hm : X.mg x = some u) (r : RelV v u) (hd : (x == ("__debug__" : Str)) = false := by decide) : PE X (.Name x pos) (tC v) :=
  fun _ _ _ H _ I h => ld_glob I hg hm ⟨v, H, I, r, h⟩ hd
theorem pe_bltn {x : Str} {v : V} {u : Value} {pos : Pos} (hg : Gl X x) (hm : X.mg x = none) (hv : bootBuiltins x = some u) (r : RelV v u) (hn : x ≠ "__name__" := by decide) (hd : (x == ("__debug__" : Str)) = false := by decide) : PE X (.Name x pos) (tC v) :=
  fun _ _ _ H _ I h => ld_blt I hg hm hv ⟨v, H, I, r, h⟩ hn hd
variable {a b : Expr} {ta tb : TE} {pos : Pos}
def PC (X : Cx) (op : CmpOp) (a b : Expr) (t : TE) : Prop :=
  ∀ (pins : List (Addr × Obj)) (s : Shared) (σ : St) (H : Hp) (Q : VK), Inv X pins σ H s → t σ H Q →
    wpAny (model X.prog X.w) X.A (eval a X.env) (fun v s₁ => wpAny (model X.prog X.w) X.A (eval b X.env) (fun u s₂ => wpAny (model X.prog X.w) X.A (compareOp op v u) (EP X pins σ Q) X.xe s₂) X.xe s₁) X.xe s
theorem nobehind (b : Expr) {op : CmpOp} (h : op ≠ .In) (h2 : op ≠ .NotIn) : behindInMarks op b = false := by
  have e1 : (op == CmpOp.In) = false := by cases op <;> first | rfl | exact absurd rfl h
  have e2 : (op == CmpOp.NotIn) = false := by cases op <;> first | rfl | exact absurd rfl h2
  cases b <;> simp [behindInMarks, e1, e2]
def tB (t : TE) : TT := fun σ H Q => t σ H fun x H1 => ∃ c, x = .bl c ∧ Q c H1
theorem pt_cmp {op : CmpOp} {t : TE} (h : PC X op a b t) (h1 : behindInMarks op b = false := by first | exact nobehind _ (by decide) (by decide) | rfl) : PT X (.Compare a [op] [b] pos) (tB t) := by
  intro pins s σ H Q I hw
  refine wpAny_isTrue_Compare1 (thn (h pins s σ H _ I hw) fun v s1 h1 => thn h1 fun u s2 h2 => thn h2 fun c s3 hm0 => ?_) h1
  obtain ⟨x, H1, I1, r1, q1⟩ := hm0
  obtain ⟨d, rfl, q⟩ := q1
  cases r1
  exact wpAny_truthy_bool ⟨H1, I1, q⟩
theorem pt_val {e : Expr} {t : TE} (h : PE X e t) (he : ∀ whole, isTrue e X.env whole = (do let v ← whole; standAt e.pos; holding [v] (truthy v)) := by intro _; rfl) : PT X e (tB t) := by
  intro pins s σ H Q I hw
  refine isTrue_plain (thn (h pins s σ H _ I hw) fun v s1 hm0 => ?_) (he _)
  obtain ⟨x, H1, I1, r1, q1⟩ := hm0
  obtain ⟨d, rfl, q⟩ := q1
  cases r1
  exact wpAny_truthy_bool ⟨H1, I1, q⟩
variable {tA tB' : TT} {rest : List Expr}
def tAnd (t u : TT) : TT := fun σ H Q => t σ H fun c H1 => if c = true then u σ H1 Q else Q false H1
def tOr (t u : TT) : TT := fun σ H Q => t σ H fun c H1 => if c = true then Q true H1 else u σ H1 Q
def tNot (t : TT) : TT := fun σ H Q => t σ H fun c H1 => Q (!c) H1
theorem pw_and1 (ha : PT X a tA) : PW X (.BoolOp .And [a] pos) tA := by
  intro wh pins s σ H Q I h
  refine isTrue_and (thn (ha pins s σ H Q I h) fun c s1 e => ?_)
  cases c with
  | true => exact isTrue_and_nil e
  | false => exact e
theorem pw_or1 (ha : PT X a tA) : PW X (.BoolOp .Or [a] pos) tA := by
  intro wh pins s σ H Q I h
  refine isTrue_or (thn (ha pins s σ H Q I h) fun c s1 e => ?_)
  cases c with
  | false => exact isTrue_or_nil e
  | true => exact e
theorem pw_and (ha : PT X a tA) (hb : PW X (.BoolOp .And (b :: rest) pos) tB') : PW X (.BoolOp .And (a :: b :: rest) pos) (tAnd tA tB') := by
  intro wh pins s σ H Q I h
  refine isTrue_and (thn (ha pins s σ H _ I h) fun c s1 hm0 => ?_)
  obtain ⟨H1, I1, q1⟩ := hm0
  cases c with
  | true => exact hb wh pins s1 σ H1 Q I1 q1
  | false => exact ⟨H1, I1, q1⟩
theorem pw_or (ha : PT X a tA) (hb : PW X (.BoolOp .Or (b :: rest) pos) tB') : PW X (.BoolOp .Or (a :: b :: rest) pos) (tOr tA tB') := by
  intro wh pins s σ H Q I h
  refine isTrue_or (thn (ha pins s σ H _ I h) fun c s1 hm0 => ?_)
  obtain ⟨H1, I1, q1⟩ := hm0
  cases c with
  | true => exact ⟨H1, I1, q1⟩
  | false => exact hb wh pins s1 σ H1 Q I1 q1
theorem pt_not (ha : PT X a tA) : PT X (.UnaryOp .Not a pos) (tNot tA) := by
  intro pins s σ H Q I h
  exact isTrue_not (ha pins s σ H (fun c H1 => Q (!c) H1) I h)
def tAndV (ta tb : TE) : TE := fun σ H Q => ta σ H fun x H1 => ∃ c, x = .bl c ∧ if c = true then tb σ H1 Q else Q (.bl false) H1
def tOrV (ta tb : TE) : TE := fun σ H Q => ta σ H fun x H1 => ∃ c, x = .bl c ∧ if c = true then Q (.bl true) H1 else tb σ H1 Q
def tNotV (ta : TE) : TE := fun σ H Q => ta σ H fun x H1 => ∃ c, x = .bl c ∧ Q (.bl (!c)) H1
theorem pe_one {op} {t : TE} (h : PE X a t) : PE X (.BoolOp op [a] pos) t := fun pins s σ H Q I hw => BoolOp_one (h pins s σ H Q I hw)
theorem pe_and (ha : PE X a ta) (hb : PE X (.BoolOp .And (b :: rest) pos) tb) : PE X (.BoolOp .And (a :: b :: rest) pos) (tAndV ta tb) := by
  intro pins s σ H Q I h
  refine BoolOp_and (thn (ha pins s σ H _ I h) fun v s1 hm0 => ?_)
  obtain ⟨x, H1, I1, r1, q1⟩ := hm0
  obtain ⟨c, rfl, q1⟩ := q1
  cases r1
  refine wpAny_truthy_bool ?_
  cases c with
  | true => exact hb pins s1 σ H1 Q I1 q1
  | false => exact ⟨.bl false, H1, I1, rfl, q1⟩
theorem pe_or (ha : PE X a ta) (hb : PE X (.BoolOp .Or (b :: rest) pos) tb) : PE X (.BoolOp .Or (a :: b :: rest) pos) (tOrV ta tb) := by
  intro pins s σ H Q I h
  refine BoolOp_or (thn (ha pins s σ H _ I h) fun v s1 hm0 => ?_)
  obtain ⟨x, H1, I1, r1, q1⟩ := hm0
  obtain ⟨c, rfl, q1⟩ := q1
  cases r1
  refine wpAny_truthy_bool ?_
  cases c with
  | false => exact hb pins s1 σ H1 Q I1 q1
  | true => exact ⟨.bl true, H1, I1, rfl, q1⟩
theorem pe_not (ha : PE X a ta) : PE X (.UnaryOp .Not a pos) (tNotV ta) := by
  intro pins s σ H Q I h
  refine UnaryOp_ (thn (ha pins s σ H _ I h) fun v s1 hm0 => ?_)
  obtain ⟨x, H1, I1, r1, q1⟩ := hm0
  obtain ⟨c, rfl, q1⟩ := q1
  cases r1
  exact not_of (wpAny_truthy_bool ⟨.bl (!c), H1, I1, rfl, q1⟩)
def tIf (t : TT) (ta tb : TE) : TE := fun σ H Q => t σ H fun c H1 => if c = true then ta σ H1 Q else tb σ H1 Q
theorem pe_ifExp {c : Expr} (hc : PT X c tA) (ha : PE X a ta) (hb : PE X b tb) : PE X (.IfExp c a b pos) (tIf tA ta tb) := by
  intro pins s σ H Q I h
  refine wpAny_IfExp (thn (hc pins s σ H _ I h) fun d s1 hm0 => ?_)
  obtain ⟨H1, I1, q1⟩ := hm0
  cases d with
  | true => exact ha pins s1 σ H1 Q I1 q1
  | false => exact hb pins s1 σ H1 Q I1 q1
end
end L2
namespace L2
open PySem PySem.Spec PyProof.Rows
def SqL (K : PySem.W.Frag) (H : Hp) (a : Addr) (xs : List V) : Prop :=
  Rd H a (.lst xs) ∨
    ∃ (o : Obj) (its : Array Value) (n : Nat), K.lookup a = some o ∧ o.cls = .type "list" ∧ o.dict = none ∧ o.data = .seq its n ∧ its.size ≤ sizeLine ∧ Vals xs its.toList
def SqT (K : PySem.W.Frag) (H : Hp) (a : Addr) (xs : List V) : Prop :=
  Rd H a (.tup xs) ∨
    ∃ (o : Obj) (its : Array Value) (n : Nat), K.lookup a = some o ∧ o.cls = .type "tuple" ∧ o.data = .seq its n ∧ its.size ≤ sizeLine ∧ Vals xs its.toList
def absV : Value → Option V
  | .none => some .non
  | .bool b => some (.bl b)
  | .int i _ => some (.int i)
  | .str x _ => some (.str x)
  | .bytes b _ => some (.byt b)
  | .float b _ => some (.flt b)
  | .ref a => some (.ref a)
  | .type n => some (.ty n)
  | _ => none
theorem RelV.abs {x : V} {u : Value} (r : RelV x u) : absV u = some x := by
  cases x with
  | non => cases r; rfl
  | bl _ => cases r; rfl
  | int _ => obtain ⟨t, rfl⟩ := r; rfl
  | str _ => obtain ⟨t, rfl⟩ := r; rfl
  | byt _ => obtain ⟨t, rfl⟩ := r; rfl
  | flt _ => obtain ⟨t, rfl⟩ := r; rfl
  | ref _ => cases r; rfl
  | ty _ => cases r; rfl
theorem RelV.inj {x y : V} {u : Value} (r : RelV x u) (q : RelV y u) : x = y := Option.some.inj (r.abs.symm.trans q.abs)
theorem Vals.inj : ∀ {xs ys : List V} {us : List Value}, Vals xs us → Vals ys us → xs = ys
  | _, _, _, .nil, .nil => rfl
  | _, _, _, .cons r t, .cons r' t' => by rw [r.inj r', Vals.inj t t']
section
variable {X : Cx} {pins : List (Addr × Obj)} {σ : St} {H : Hp} {s : Shared} {a : Addr} {xs ys : List V}
theorem SqL.of {K : PySem.W.Frag} (h : H a = some (.lst xs)) : SqL K H a xs := .inl (.inl h)
theorem SqT.of {K : PySem.W.Frag} (h : H a = some (.tup xs)) : SqT K H a xs := .inl (.inl h)
theorem Inv.list (I : Inv X pins σ H s) (h : SqL X.K H a xs) : ∃ its : List Value, Vals xs its ∧ PlainL s.heap a its.toArray ∧ xs.length ≤ sizeLine := by
  rcases h with h | ⟨o, its, n, hk, hc, hd, hs, hz, r⟩
  · obtain ⟨z, its, n, r, e⟩ := h.ok I.hok
    exact ⟨its, r, ⟨_, n, e, rfl, rfl, rfl⟩, z⟩
  · refine ⟨its.toList, r, ⟨o, n, I.kIn a o hk, hc, hd, by simpa using hs⟩, ?_⟩
    have e := r.length
    simp only [Array.length_toList] at e
    omega
theorem Inv.tuple (I : Inv X pins σ H s) (h : SqT X.K H a xs) : ∃ its : List Value, Vals xs its ∧ IsTup s.heap a its.toArray ∧ xs.length ≤ sizeLine := by
  rcases h with h | ⟨o, its, n, hk, hc, hs, hz, r⟩
  · obtain ⟨z, its, r, p⟩ := h.ok I.hok
    exact ⟨its, r, p, z⟩
  · refine ⟨its.toList, r, ⟨o, I.kIn a o hk, hc, n, by simpa using hs⟩, ?_⟩
    have e := r.length
    simp only [Array.length_toList] at e
    omega
theorem Inv.list_inj (I : Inv X pins σ H s) (h : SqL X.K H a xs) (h' : SqL X.K H a ys) : xs = ys := by
  obtain ⟨its, r, ⟨o, n, e, _, _, d⟩, _⟩ := I.list h
  obtain ⟨its', r', ⟨o', n', e', _, _, d'⟩, _⟩ := I.list h'
  rw [e] at e'; cases e'
  rw [d] at d'
  injection d' with d1 _
  have : its = its' := by simpa using congrArg Array.toList d1
  subst this
  exact r.inj r'
end
abbrev Cx.wish (X : Cx) (E : Value → Shared → Prop) : Cx := { X with xe := E }
abbrev Cx.nox (X : Cx) : Cx := X.wish fun _ _ => False
theorem Cx.Ok.wish {X : Cx} (ok : X.Ok) (E : Value → Shared → Prop) : (X.wish E).Ok :=
  ⟨ok.mod, ok.kind, ok.glob, ok.blt, ok.above, ok.inj, ok.has, ok.cab, ok.hd, ok.frames, ok.stk, ok.exf, ok.bs, ok.bsz, ok.noex, ok.exfs, ok.funs, ok.frf⟩
theorem Cx.Ok.unwish {X : Cx} {E : Value → Shared → Prop} (ok : (X.wish E).Ok) : X.Ok :=
  ⟨ok.mod, ok.kind, ok.glob, ok.blt, ok.above, ok.inj, ok.has, ok.cab, ok.hd, ok.frames, ok.stk, ok.exf, ok.bs, ok.bsz, ok.noex, ok.exfs, ok.funs, ok.frf⟩
section
variable {X : Cx} {pins : List (Addr × Obj)} {σ : St} {H : Hp} {s : Shared} {E : Value → Shared → Prop}
theorem Inv.wish (I : Inv X pins σ H s) (E : Value → Shared → Prop) : Inv (X.wish E) pins σ H s := ⟨I.ok.wish E, I.os, I.bare, I.base, I.loc, I.cell, I.free, I.freeC, I.pin, I.hok, I.len⟩
theorem Inv.unwish (I : Inv (X.wish E) pins σ H s) : Inv X pins σ H s := ⟨I.ok.unwish, I.os, I.bare, I.base, I.loc, I.cell, I.free, I.freeC, I.pin, I.hok, I.len⟩
theorem SP.unwish {D : Ends} {f : Flow} {s' : Shared} (h : SP (X.wish E) pins D f s') : SP X pins D f s' := by
  cases f with
  | next => obtain ⟨σ', H', I, q⟩ := h; exact ⟨σ', H', I.unwish, q⟩
  | brk => obtain ⟨σ', H', I, q⟩ := h; exact ⟨σ', H', I.unwish, q⟩
  | cont => obtain ⟨σ', H', I, q⟩ := h; exact ⟨σ', H', I.unwish, q⟩
  | ret u => obtain ⟨v, σ', H', I, r, q⟩ := h; exact ⟨v, σ', H', I.unwish, r, q⟩
theorem PSs.nox {st : List Stmt} {t : TS} (h : PSs X.nox st t) : PSs X st t := fun pins s σ H D I hw =>
  wpAny_mono (h pins s σ H D (I.wish _) hw) (fun _ _ q => q.unwish) fun _ _ z => False.elim z
end
section
variable {X : Cx} {st : Stmt} {rest : List Stmt} {t u : TS} {e : Expr} {te : TE} {pos : Pos}
def tNext : TS := fun D σ H => D.nx σ H
def tSeq (t u : TS) : TS := fun D σ H => t { D with nx := u D } σ H
theorem pss_nil : PSs X [] tNext := fun _ _ σ H _ I h => wpAny_execs_nil ⟨σ, H, I, h⟩
theorem pss_cons (h1 : PS X st t) (h2 : PSs X rest u) : PSs X (st :: rest) (tSeq t u) := by
  intro pins s σ H D I h
  refine wpAny_execs_cons (thn (h1 pins s σ H { D with nx := u D } I h) fun f s1 q => ?_)
  cases f with
  | next =>
    obtain ⟨σ', H', I', q⟩ := q
    exact h2 pins s1 σ' H' D I' q
  | ret v => exact q
  | brk => exact q
  | cont => exact q
theorem pss_one (h1 : PS X st t) : PSs X [st] t := by
  intro pins s σ H D I h
  refine wpAny_execs_cons (thn (h1 pins s σ H D I h) fun f s1 q => ?_)
  cases f with
  | next => exact wpAny_execs_nil q
  | ret v => exact q
  | brk => exact q
  | cont => exact q
theorem Inv.quiet {pins : List (Addr × Obj)} {σ : St} {H : Hp} {s : Shared} (I : Inv X pins σ H s) : interactive X.env = false := by simp [interactive, I.ok.kind]
def tDrop (te : TE) : TS := fun D σ H => te σ H fun _ H1 => D.nx σ H1
theorem ps_expr (he : PE X e te) (hs : swapsWith e none pos.line X.env = pure false := by rfl) : PS X (.Expr e pos) (tDrop te) := by
  intro pins s σ H D I h
  refine wpAny_Expr_any (thn (he pins s σ H _ I h) fun v s1 hm0 => ?_) I.quiet hs
  obtain ⟨x, H1, I1, r1, q1⟩ := hm0
  exact ⟨σ, H1, I1, q1⟩
def tRet (te : TE) : TS := fun D σ H => te σ H D.rt
theorem ps_ret (he : PE X e te) : PS X (.Return (some e) pos) (tRet te) := by
  intro pins s σ H D I h
  refine wpAny_Return_some (thn (he pins s σ H _ I h) fun v s1 hm0 => ?_)
  obtain ⟨x, H1, I1, r1, q1⟩ := hm0
  exact ⟨x, σ, H1, I1, r1, q1⟩
def tIfS (c : TT) (t u : TS) : TS := fun D σ H => c σ H fun b H1 => if b = true then t D σ H1 else u D σ H1
theorem ps_if {c : Expr} {a b : List Stmt} {tc : TT} (hc : PT X c tc) (ha : PSs X a t) (hb : PSs X b u) : PS X (.If c a b pos) (tIfS tc t u) := by
  intro pins s σ H D I h
  refine wpAny_If (thn (hc pins s σ H _ I h) fun d s1 hm0 => ?_)
  obtain ⟨H1, I1, q1⟩ := hm0
  cases d with
  | true => exact ha pins s1 σ H1 D I1 q1
  | false => exact hb pins s1 σ H1 D I1 q1
end
abbrev TG := V → St → Hp → (St → Hp → Prop) → Prop
abbrev TGs := List V → St → Hp → (St → Hp → Prop) → Prop
def PG (X : Cx) (target : Expr) (t : TG) : Prop :=
  ∀ (pins : List (Addr × Obj)) (s : Shared) (σ : St) (H : Hp) (v : V) (u : Value) (Q : St → Hp → Prop), Inv X pins σ H s → RelV v u → t v σ H Q →
    wpAny (model X.prog X.w) X.A (assign target X.env u) (fun _ s' => ∃ σ' H', Inv X pins σ' H' s' ∧ Q σ' H') X.xe s
def PGs (X : Cx) (ts : List Expr) (t : TGs) : Prop :=
  ∀ (pins : List (Addr × Obj)) (s : Shared) (σ : St) (H : Hp) (vs : List V) (us : List Value) (Q : St → Hp → Prop), Inv X pins σ H s → Vals vs us → t vs σ H Q →
    wpAny (model X.prog X.w) X.A (assignInOrder ((assignEach ts X.env).map (·.2)) us) (fun _ s' => ∃ σ' H', Inv X pins σ' H' s' ∧ Q σ' H') X.xe s
abbrev TSet := V → V → V → Hp → (Hp → Prop) → Prop
def PSet (X : Cx) (t : TSet) : Prop :=
  ∀ (pins : List (Addr × Obj)) (s : Shared) (σ : St) (H : Hp) (o i v : V) (ov iv u : Value) (Q : Hp → Prop), Inv X pins σ H s → RelV o ov → RelV i iv → RelV v u → t o i v H Q →
    wpAny (model X.prog X.w) X.A (setItem ov iv u) (fun _ s' => ∃ H', Inv X pins σ H' s' ∧ Q H') X.xe s
section
variable {X : Cx} {pos : Pos}
def gName (i : Nat) : TG := fun v σ H Q => Q (σ.set i (some v)) H
theorem pg_name {i : Nat} {x : Str} (hN : X.N.Nodup) (hi : X.N[i]? = some x) (hx : Loc X.env.scope x) (hf : X.fn x = true ∨ X.env.scope.names.lookup x = some .local := by first | exact .inl rfl | exact .inr rfl | assumption) : PG X (.Name x pos) (gName i) := by
  intro pins s σ H v u Q I r h
  exact wpAny_assign_Name (store_ok I hN hi hx r (fun s' I' => ⟨_, H, I', h⟩) hf)
def gNil : TGs := fun vs σ H Q => vs = [] ∧ Q σ H
def gCons (t : TG) (u : TGs) : TGs := fun vs σ H Q => ∃ v r, vs = v :: r ∧ t v σ H fun σ' H' => u r σ' H' Q
theorem pgs_nil : PGs X [] gNil := by
  intro pins s σ H vs us Q I r h
  obtain ⟨e, h⟩ := h
  subst e
  cases r
  exact assignInOrder_nil ⟨σ, H, I, h⟩
theorem pgs_cons {e : Expr} {es : List Expr} {t : TG} {u : TGs} (h1 : PG X e t) (h2 : PGs X es u)
    (hs : (assignEach (e :: es) X.env).map (·.2) = assign e X.env :: (assignEach es X.env).map (·.2) := by rfl) : PGs X (e :: es) (gCons t u) := by
  intro pins s σ H vs us Q I r h
  obtain ⟨v, vr, e1, h⟩ := h
  subst e1
  cases r with
  | cons r rr =>
    rw [hs]
    refine assignInOrder_cons (thn (h1 pins s σ H _ _ _ I r h) fun _ s1 hm0 => ?_)
    obtain ⟨σ1, H1, I1, q1⟩ := hm0
    exact h2 pins s1 σ1 H1 _ _ Q I1 rr q1
def gTup (K : PySem.W.Frag) (n : Nat) (t : TGs) : TG := fun v σ H Q => ∃ a xs, v = .ref a ∧ SqT K H a xs ∧ xs.length = n ∧ t xs σ H Q
theorem pg_tup {es : List Expr} {k : Nat} {t : TGs} {n : Nat} (hc : X.calm = true) (h : PGs X es t)
    (hn : (assignEach es X.env).length = n := by rfl) (hst : (assignEach es X.env).findIdx? (·.1) = none := by rfl) : PG X (.Tuple es k pos) (gTup X.K n t) := by
  intro pins s σ H v u Q I r hw
  obtain ⟨a, xs, e1, hq, hl, hw⟩ := hw
  subst e1
  cases r
  obtain ⟨its, rv, ht, hz⟩ := I.tuple hq
  refine assign_Tuple_tuple (I.ok.hd hc) ht (by simp [hn, ← hl, rv.length]) hst fun h' hx => ?_
  have I1 : Inv X pins σ H { s with heap := h' } := I.kept (t' := s.toks) fun b o e => hx b o (Nat.ne_of_lt (Heap.lt_size e)) e
  exact h pins _ σ H xs _ Q I1 (by simpa using rv) hw
def gSub (to ti : TE) (t : TSet) : TG := fun v σ H Q => to σ H fun o H1 => ti σ H1 fun i H2 => t o i v H2 fun H3 => Q σ H3
theorem pg_sub {o i : Expr} {to ti : TE} {t : TSet} (ho : PE X o to) (hi : PE X i ti) (hs : PSet X t)
    (ha : ∀ v, assign (.Subscript o i pos) X.env v = (do
      let ov ← holding [v] (eval o X.env)
      let iv ← holding [v, ov] (eval i X.env)
      standAt pos
      holding [v, ov, iv] (setItem ov iv v)
      release [v, ov, iv] []) := by intro _; rfl) : PG X (.Subscript o i pos) (gSub to ti t) := by
  intro pins s σ H v u Q I r h
  rw [ha]
  refine wpAny_bind (wpAny_holding (thn (ho pins s σ H _ I h) fun ov s1 hm0 => ?_))
  obtain ⟨x, H1, I1, r1, q1⟩ := hm0
  refine wpAny_bind (wpAny_holding (thn (hi pins s1 σ H1 _ I1 q1) fun iv s2 hm0 => ?_))
  obtain ⟨y, H2, I2, r2, q2⟩ := hm0
  refine wpAny_bind (wpAny_standAt (wpAny_bind (wpAny_holding (thn (hs pins s2 σ H2 x y v ov iv u _ I2 r1 r2 r q2) fun _ s3 hm0 => ?_))))
  obtain ⟨H3, I3, q3⟩ := hm0
  exact wpAny_release ⟨σ, H3, I3, q3⟩
def tAsg (te : TE) (g : TG) : TS := fun D σ H => te σ H fun x H1 => g x σ H1 D.nx
theorem ps_asg {tg e : Expr} {te : TE} {g : TG} (he : PE X e te) (hg : PG X tg g) (hs : swapsWithSole [tg] e pos.line X.env = pure false := by rfl) (hw : swappedStores [tg] e X.env = pure none := by rfl)
    (h1 : (assignEach [tg] X.env).map (·.2) = [assign tg X.env] := by rfl) : PS X (.Assign [tg] e pos) (tAsg te g) := by
  intro pins s σ H D I h
  refine wpAny_Assign_stores (thn (he pins s σ H _ I h) fun v s1 hm0 => ?_) hs hw
  obtain ⟨x, H1, I1, r1, q1⟩ := hm0
  rw [h1]
  exact thn (hg pins s1 σ H1 x v _ I1 r1 q1) fun _ s2 q => q
theorem ps_set {i : Nat} {x : Str} {e : Expr} {te : TE} {pos' : Pos} (hN : X.N.Nodup) (hi : X.N[i]? = some x) (hx : Loc X.env.scope x) (he : PE X e te) (hs : swapsWith e (some (.Name x pos')) pos.line X.env = pure false := by rfl) (hf : X.fn x = true ∨ X.env.scope.names.lookup x = some .local := by first | exact .inl rfl | exact .inr rfl | assumption) :
    PS X (.Assign [.Name x pos'] e pos) (tAsg te (gName i)) := by
  intro pins s σ H D I h
  refine wpAny_Assign_Name (thn (he pins s σ H _ I h) fun v s1 hm0 => ?_) hs
  obtain ⟨y, H1, I1, r1, q1⟩ := hm0
  exact store_ok I1 hN hi hx r1 (fun s2 I2 => ⟨_, H1, I2, q1⟩) hf
end
section
variable {X : Cx} {pos : Pos}
end
structure It where
  go : Nat → Hp → Prop
  yld : Nat → Hp → V → Hp → Prop
  stop : Nat → Hp → Prop
def FpOk (X : Cx) (pins : List (Addr × Obj)) (H : Hp) (b : Addr) : Prop :=
  H b = none ∧ b ≠ X.env.locals ∧ b ∉ X.fs ∧ (b ∈ X.ex ∨ X.s₀.heap.objs.size ≤ b) ∧ (∀ x c, X.env.cells.lookup x = some c → c ≠ b) ∧ ∀ p ∈ X.pn ++ pins, p.1 ≠ b
theorem Inv.fpOk {X : Cx} {pins : List (Addr × Obj)} {σ : St} {H H' : Hp} {s : Shared} {b : Addr} (I : Inv X pins σ H s) (hb : s.heap.objs.size ≤ b) (hn : H' b = none) : FpOk X pins H' b := by
  refine ⟨hn, Nat.ne_of_gt (Nat.lt_of_lt_of_le I.lt hb), I.nofs hb, .inr (Nat.le_trans I.sz hb), fun x c e z => ?_, fun p hp z => ?_⟩
  · obtain ⟨v, q⟩ := I.cell x c e
    exact absurd (Nat.lt_of_lt_of_le q.lt (by rw [z]; exact hb)) (Nat.lt_irrefl _)
  · exact absurd (Nat.lt_of_lt_of_le (Heap.lt_size (I.pin p hp).1) (by rw [z]; exact hb)) (Nat.lt_irrefl _)
structure Turn (P : Program) (w : World) (K : PySem.W.Frag) (tg : Expr) (J : It) (fp : List Addr) (it : Addr) (tn : Nat → Heap → Prop) : Prop where
  mem : it ∈ fp
  obj : ∀ i h, tn i h → ∀ b ∈ fp, ∃ o, h.get? b = some o ∧ ∀ v, o.data ≠ .cell v
  keep : ∀ i h h', tn i h → (∀ b ∈ fp, ∀ o, h.get? b = some o → h'.get? b = some o) → tn i h'
  item : ∀ (X : Cx), X.prog = P → X.w = w → X.K = K → X.calm = true → ∀ (i : Nat) (pins : List (Addr × Obj)) (s : Shared) (σ : St) (H : Hp) (E : Value → Shared → Prop), Inv X pins σ H s → (∀ b ∈ fp, FpOk X pins H b) → tn i s.heap → J.go i H →
    wpAny (model P w) X.A (pyNext (.ref it)) (fun r s1 => ∃ u, r = some u ∧
      wpAny (model P w) X.A (letOwnedTupleGo tg (.ref it) u) (fun _ s2 => ∃ x H', Inv X pins σ H' s2 ∧ RelV x u ∧ J.yld i H x H' ∧ tn (i + 1) s2.heap ∧ ∀ b ∈ fp, H' b = none) E s1) E s
  done : ∀ (X : Cx), X.prog = P → X.w = w → X.K = K → X.calm = true → ∀ (i : Nat) (pins : List (Addr × Obj)) (s : Shared) (σ : St) (H : Hp) (E : Value → Shared → Prop), Inv X pins σ H s → (∀ b ∈ fp, FpOk X pins H b) → tn i s.heap → J.stop i H →
    wpAny (model P w) X.A (pyNext (.ref it)) (fun r s1 => r = none ∧ Inv X pins σ H s1) E s
  self : ∀ (A : Around) (i : Nat) (s : Shared) (Q : Value → Shared → Prop) (E : Value → Shared → Prop), tn i s.heap → Q (.ref it) s → wpAny (model P w) A (pyIter (.ref it)) Q E s
abbrev TI := St → Hp → (It → Hp → Prop) → Prop
def PIE (X : Cx) (pins : List (Addr × Obj)) (σ : St) (tg : Expr) (R : It → Hp → Prop) (itv : Value) (s2 : Shared) : Prop :=
  ∃ (it : Addr) (fp : List Addr) (tn : Nat → Heap → Prop) (J : It) (H' : Hp), itv = .ref it ∧ Inv X pins σ H' s2 ∧ Turn X.prog X.w X.K tg J fp it tn ∧ tn 0 s2.heap ∧ (∀ b ∈ fp, FpOk X pins H' b) ∧ R J H'
def PI (X : Cx) (tg iter : Expr) (wi : TI) : Prop :=
  ∀ (pins : List (Addr × Obj)) (s : Shared) (σ : St) (H : Hp) (R : It → Hp → Prop), Inv X pins σ H s → wi σ H R →
    wpAny (model X.prog X.w) X.A (eval iter X.env) (fun v s1 => wpAny (model X.prog X.w) X.A (pyIter v) (PIE X pins σ tg R) X.xe s1) X.xe s
theorem go_of {M : Model} {A : Around} {E : Value → Shared → Prop} {s : Shared} {tg : Expr} {it : Addr} {u : Value} {o : Obj} {n : String} {vs : Array Value} {Q : Unit → Shared → Prop} (ho : s.heap.get? it = some o) (hc : o.cls = .type n) (hd : o.data = .fields vs)
    (hn : ["enumerate", "zip", "dict_itemiterator", "dict_reverseitemiterator", "odict_iterator", "itertools.zip_longest", "itertools.pairwise"].contains n = false) (hQ : Q () s) : wpAny M A (letOwnedTupleGo tg (.ref it) u) Q E s := by
  unfold letOwnedTupleGo
  cases tg <;> first
    | exact wpAny_pure hQ
    | (cases u <;> first
        | exact wpAny_pure hQ
        | (refine wpAny_bind (wpAny_load ho ?_)
           rw [hc, hd]
           show wpAny M A (if (["enumerate", "zip", "dict_itemiterator", "dict_reverseitemiterator", "odict_iterator", "itertools.zip_longest", "itertools.pairwise"].contains n && vs[0]? == some (rawInt _)) = true then _ else _) Q E s
           rw [if_neg (by intro h; rw [hn, Bool.false_and] at h; cases h)]
           exact wpAny_pure hQ))
def Itl (K : PySem.W.Frag) (a : Addr) : It :=
  ⟨fun i H => ∃ xs x, SqL K H a xs ∧ xs[i]? = some x, fun i H x H' => H' = H ∧ ∀ xs, SqL K H a xs → xs[i]? = some x, fun i H => ∃ xs, SqL K H a xs ∧ xs.length ≤ i⟩
def Itr (lo : Int) (n : Nat) : It := ⟨fun i _ => i < n, fun i H x H' => H' = H ∧ x = .int (lo + i), fun i _ => n ≤ i⟩
theorem turn_list {P : Program} {w : World} {K : PySem.W.Frag} {tg : Expr} (a it : Addr) : Turn P w K tg (Itl K a) [it] it (fun i h => h.IsListIter it a i) where
  mem := by simp
  obj := fun i h st b hb => by
    have e : b = it := by simpa using hb
    subst e
    obtain ⟨o, e, c, d⟩ := st
    exact ⟨o, e, fun v z => by rw [d] at z; cases z⟩
  keep := fun i h h' st k => st.at fun o e => k it (by simp) o e
  item := by
    intro X hP hw hK hc i pins s σ H E I hf st hg
    subst hP hw hK
    obtain ⟨xs, x, hq, hx⟩ := hg
    obtain ⟨its, rv, p, hz⟩ := I.list hq
    obtain ⟨u, hu, ru⟩ := rv.get hx
    obtain ⟨f0, f1, f2, f3, f4, f5⟩ := hf it (by simp)
    refine wpAny_pyNext_list_item st p.isList (x := u) (by simpa using hu) fun h' st' sb => ?_
    have I1 : Inv X pins σ H { s with heap := h' } := I.turned (t' := s.toks) (fun b o hb e => (sb.2 b hb).trans e) f0 f1 f3 f4 f5
    obtain ⟨o, e, c, d⟩ := id st'
    exact ⟨u, rfl, go_of (s := { s with heap := h' }) e c d (by decide) ⟨x, H, I1, ru, ⟨rfl, fun ys hy => by rw [I.list_inj hy hq]; exact hx⟩, st', fun b hb => (hf b hb).1⟩⟩
  done := by
    intro X hP hw hK hc i pins s σ H E I hf st hg
    subst hP hw hK
    obtain ⟨xs, hq, hx⟩ := hg
    obtain ⟨its, rv, p, hz⟩ := I.list hq
    obtain ⟨f0, f1, f2, f3, f4, f5⟩ := hf it (by simp)
    have hl := rv.length
    exact wpAny_pyNext_list_end (I.ok.hd hc) st p.isList (by simp; omega) fun h' eb => ⟨rfl, I.turned (t' := s.toks) (fun b o hb e => eb b o hb e) f0 f1 f3 f4 f5⟩
  self := fun _ _ _ _ _ st h => wpAny_pyIter_listiter st h
theorem turn_range {P : Program} {w : World} {K : PySem.W.Frag} {tg : Expr} (it : Addr) (lo : Int) (n : Nat) : Turn P w K tg (Itr lo n) [it] it (fun i h => IsRangeIter h it (lo + (i : Nat) * 1) ((n : Int) - (i : Nat)) 1) where
  mem := by simp
  obj := fun i h st b hb => by
    have e : b = it := by simpa using hb
    subst e
    exact ⟨_, st, fun v z => by
      have z' : Data.fields _ = Data.cell v := z
      cases z'⟩
  keep := fun i h h' st k => k it (by simp) _ st
  item := by
    intro X hP hw hK hc i pins s σ H E I hf st hg
    subst hP hw hK
    obtain ⟨f0, f1, f2, f3, f4, f5⟩ := hf it (by simp)
    have W := Walks.range (prog := X.prog) (w := X.w) (I.ok.hd hc) it lo 1 n
    refine W.item i s _ _ hg st fun v h' tk hv st' kk => ?_
    obtain ⟨t, rfl⟩ := hv
    have I1 : Inv X pins σ H { s with heap := h', toks := tk } := I.turned (fun b o hb e => kk b o (by simpa using hb) e) f0 f1 f3 f4 f5
    refine ⟨_, rfl, go_of (s := { s with heap := h', toks := tk }) (n := "range_iterator") st' rfl rfl (by decide) ⟨.int (lo + i), H, I1, ⟨t, ?_⟩, ⟨rfl, rfl⟩, st', fun b hb => (hf b hb).1⟩⟩
    rw [Int.mul_one]
  done := by
    intro X hP hw hK hc i pins s σ H E I hf st hg
    subst hP hw hK
    obtain ⟨f0, f1, f2, f3, f4, f5⟩ := hf it (by simp)
    exact wpAny_pyNext_range_end (I.ok.hd hc) st (by have : n ≤ i := hg; omega) fun h' eb => ⟨rfl, I.turned (t' := s.toks) (fun b o hb e => eb b o hb e) f0 f1 f3 f4 f5⟩
  self := fun _ _ _ _ _ st h => wpAny_pyIter_rangeiter st h
end L2
namespace L2
open PySem PySem.Spec PyProof.Rows
section
variable {X : Cx} {tg : Expr}
def iList (K : PySem.W.Frag) (tl : TE) : TI := fun σ H R => tl σ H fun x H1 => ∃ a, x = .ref a ∧ (∃ xs, SqL K H1 a xs) ∧ R (Itl K a) H1
theorem pi_list {l : Expr} {tl : TE} (hl : PE X l tl) : PI X tg l (iList X.K tl) := by
  intro pins s σ H R I h
  refine thn (hl pins s σ H _ I h) fun v s1 hm0 => ?_
  obtain ⟨x, H1, I1, r1, q1⟩ := hm0
  obtain ⟨a, e, ⟨xs, hq⟩, q⟩ := q1
  subst e
  cases r1
  obtain ⟨its, rv, p, hz⟩ := I1.list hq
  refine wpAny_pyIter_list p.isList ?_
  refine ⟨s1.heap.objs.size, [s1.heap.objs.size], _, _, H1, rfl, I1.kept (t' := s1.toks) fun b o e => Heap.get?_push_of_some _ e, turn_list a _, ⟨_, Heap.get?_push_size _ rfl, rfl, rfl⟩, fun b hb => ?_, q⟩
  have e : b = s1.heap.objs.size := by simpa using hb
  subst e
  exact I1.fpOk (Nat.le_refl _) (I1.hok.fresh (Nat.le_refl _))
theorem range_it {pins : List (Addr × Obj)} {σ : St} {H : Hp} {s : Shared} {R : It → Hp → Prop} {E : Value → Shared → Prop} {lo hi : Int} {t u v : Tok} {tk : Nat} (I : Inv X pins σ H s) (h1 : -(2 ^ 62) ≤ lo) (h2 : lo < 2 ^ 62) (h3 : -(2 ^ 62) ≤ hi) (h4 : hi < 2 ^ 62)
    (q : R (Itr lo (hi - lo).toNat) H) : wpAny (model X.prog X.w) X.A (pyIter (.ref s.heap.objs.size)) (PIE X pins σ tg R) E { s with heap := s.heap.push { cls := .type "range", data := .fields #[.int lo t, .int hi u, .int 1 v] }, toks := tk } := by
  refine wpAny_pyIter_range (IsRange.new ..) (small_one h1 h2 h3 h4) ?_
  have I1 : Inv X pins σ H { s with heap := s.heap.push { cls := .type "range", data := .fields #[.int lo t, .int hi u, .int 1 v] }, toks := tk } := I.kept fun b o e => Heap.get?_push_of_some _ e
  refine ⟨(s.heap.push { cls := .type "range", data := .fields #[.int lo t, .int hi u, .int 1 v] }).objs.size, [(s.heap.push { cls := .type "range", data := .fields #[.int lo t, .int hi u, .int 1 v] }).objs.size], _, _, H, rfl,
    I1.kept (t' := tk) fun b o e => Heap.get?_push_of_some _ e, turn_range _ lo (hi - lo).toNat, ?_, fun b hb => ?_, q⟩
  · have e1 : lo + ((0 : Nat) : Int) * 1 = lo := by simp
    have e2 : (((hi - lo).toNat : Nat) : Int) - ((0 : Nat) : Int) = Builtin.Range.rangeSize lo hi 1 := by rw [rangeSize_one]; split <;> omega
    show IsRangeIter _ _ (lo + ((0 : Nat) : Int) * 1) ((((hi - lo).toNat : Nat) : Int) - ((0 : Nat) : Int)) 1
    rw [e1, e2]
    exact Heap.get?_push_size _ rfl
  · have e : b = (s.heap.push { cls := .type "range", data := .fields #[.int lo t, .int hi u, .int 1 v] }).objs.size := by simpa using hb
    subst e
    exact I1.fpOk (Nat.le_refl _) (I1.hok.fresh (Nat.le_refl _))
def iRng1 (ta : TA) : TI := fun σ H R => ta σ H fun vs H1 => ∃ j : Int, vs = [.int j] ∧ -(2 ^ 62) ≤ j ∧ j < 2 ^ 62 ∧ R (Itr 0 j.toNat) H1
theorem pi_range1 {a : Expr} {ta : TA} {p pos : Pos} (hg : Gl X "range") (hm : X.mg "range" = none) (ha : PA X [a] ta) (hs : starEach [a] X.env = [(false, eval a X.env)] := by rfl) : PI X tg (.Call (.Name "range" p) [a] [] pos) (iRng1 ta) := by
  intro pins s σ H R I h
  refine Call_ (ld_blt I hg hm boot_range (PyProof.Rows.callWith_type1 (thn (ha pos pins s σ H _ I h) fun us s1 hm0 => ?_) hs rfl))
  obtain ⟨vs, H1, I1, r1, q1⟩ := hm0
  obtain ⟨j, e, q1, q2, q⟩ := q1
  subst e
  cases r1 with
  | cons r rr =>
    cases rr
    obtain ⟨t, rfl⟩ := r
    exact call_range_1 (range_it I1 (by omega) (by omega) q1 q2 (by simpa using q))
def tFor (wi : TI) (g : TG) (tb : TS) : TS := fun D σ H => wi σ H fun J H1 => ∃ W : Nat → Nat → St → Hp → Prop, (∃ m, W 0 m σ H1) ∧ ∀ i m σ H, W i m σ H →
  (J.stop i H ∧ D.nx σ H) ∨ (J.go i H ∧ ∃ N : St → Hp → Prop, (∀ σ' H', N σ' H' → ∃ m', m' < m ∧ W (i + 1) m' σ' H') ∧ ∀ x H', J.yld i H x H' → g x σ H' fun σ2 H2 => tb { D with nx := N, ct := N, bk := D.nx } σ2 H2)
def pinsAt (fp : List Addr) (h : Heap) : List (Addr × Obj) := fp.filterMap fun b => (h.get? b).map fun o => (b, o)
theorem mem_pinsAt {fp : List Addr} {h : Heap} {b : Addr} {o : Obj} (hb : b ∈ fp) (e : h.get? b = some o) : (b, o) ∈ pinsAt fp h := List.mem_filterMap.mpr ⟨b, hb, by rw [e]; rfl⟩
theorem of_pinsAt {fp : List Addr} {h : Heap} {p : Addr × Obj} (hp : p ∈ pinsAt fp h) : p.1 ∈ fp ∧ h.get? p.1 = some p.2 := by
  obtain ⟨b, hb, e⟩ := List.mem_filterMap.mp hp
  cases q : h.get? b with
  | none => rw [q] at e; cases e
  | some o =>
    rw [q] at e
    have e' : (b, o) = p := Option.some.inj e
    subst e'
    exact ⟨hb, q⟩
theorem Inv.pinned {pins : List (Addr × Obj)} {σ : St} {H : Hp} {s : Shared} {fp : List Addr} (I : Inv X pins σ H s) (hf : ∀ b ∈ fp, FpOk X pins H b) (ho : ∀ b ∈ fp, ∃ o, s.heap.get? b = some o ∧ ∀ v, o.data ≠ .cell v) : Inv X (pins ++ pinsAt fp s.heap) σ H s :=
  I.pins_of fun p hp => (List.mem_append.mp hp).elim (fun z => I.pin p (List.mem_append_right _ z)) fun z => by
    obtain ⟨hb, e⟩ := of_pinsAt z
    obtain ⟨f0, f1, f2, _⟩ := hf p.1 hb
    obtain ⟨o, e', d⟩ := ho p.1 hb
    rw [e] at e'; cases e'
    exact ⟨e, f0, f1, f2, d⟩
theorem Inv.unpinned {pins pl : List (Addr × Obj)} {σ : St} {H : Hp} {s : Shared} (I : Inv X (pins ++ pl) σ H s) : Inv X pins σ H s := I.pins_of fun p hp => I.pin p (List.mem_append_right _ (List.mem_append_left _ hp))
theorem ps_for {iter : Expr} {body : List Stmt} {wi : TI} {g : TG} {tb : TS} {pos : Pos} (hp : PassesOwn (model X.prog X.w) X.A X.env X.xe) (hc : X.calm = true) (hi : PI X tg iter wi) (hg : PG X tg g) (hb : PSs X body tb)
    (hs : ∀ x, foldedSetIterable iter X.env x = pure x := by intro _; rfl) : PS X (.For tg iter body [] pos) (tFor wi g tb) := by
  intro pins s σ H D I h
  refine wpAny_For (thn (hi pins s σ H _ I h) fun v s1 h1 => thn h1 fun itv s2 h2 => ?_) hs
  obtain ⟨it, fp, tn, J, H2, e, I2, T, st2, f2, W, ⟨m0, w0⟩, turn⟩ := h2
  subst e
  have stat : ∀ {H' : Hp}, (∀ b ∈ fp, H' b = none) → ∀ b ∈ fp, FpOk X pins H' b := fun hn b hb => ⟨hn b hb, (f2 b hb).2⟩
  refine codeAny_forLoop_any (fun n s' => ∃ i σ' H', Inv X pins σ' H' s' ∧ tn i s'.heap ∧ (∀ b ∈ fp, H' b = none) ∧ W i n σ' H') ?_ m0 ⟨0, σ, H2, I2, st2, fun b hb => (f2 b hb).1, w0⟩
  rintro n s3 ⟨i, σ3, H3, I3, st3, fr3, w3⟩
  rcases turn i n σ3 H3 w3 with ⟨stop, qn⟩ | ⟨go, N, hN, step⟩
  · refine wpAny_passesOwn hp (thn (T.done X rfl rfl rfl hc i pins s3 σ3 H3 X.xe I3 (stat fr3) st3 stop) fun r s4 hm0 => ?_)
    obtain ⟨hr, I4⟩ := hm0
    subst hr
    exact wpAny_execs_nil ⟨σ3, H3, I4, qn⟩
  · refine wpAny_passesOwn hp (thn (T.item X rfl rfl rfl hc i pins s3 σ3 H3 X.xe I3 (stat fr3) st3 go) fun r s4 hm0 => ?_)
    obtain ⟨u, hr, h4⟩ := hm0
    subst hr
    refine wpAny_passesOwn hp (thn h4 fun _ s5 hm0 => ?_)
    obtain ⟨x, H5, I5, r5, y5, st5, fr5⟩ := hm0
    have I5' := I5.pinned (stat fr5) (T.obj _ _ st5)
    refine wpAny_passesOwn hp (thn (hg _ s5 σ3 H5 x u _ I5' r5 (step x H5 y5)) fun _ s6 hm0 => ?_)
    obtain ⟨σ6, H6, I6, q6⟩ := hm0
    refine wpAny_passesOwn hp (thn (hb _ s6 σ6 H6 _ I6 q6) fun f s7 q7 => ?_)
    have again : ∀ {σ7 : St} {H7 : Hp}, Inv X (pins ++ pinsAt fp s5.heap) σ7 H7 s7 → N σ7 H7 → ∃ m, m < n ∧ ∃ i σ' H', Inv X pins σ' H' s7 ∧ tn i s7.heap ∧ (∀ b ∈ fp, H' b = none) ∧ W i m σ' H' := fun {σ7 H7} I7 n7 => by
      obtain ⟨m', hm, w7⟩ := hN σ7 H7 n7
      refine ⟨m', hm, i + 1, σ7, H7, I7.unpinned, T.keep _ _ _ st5 fun b hb o e => (I7.pin (b, o) (List.mem_append_right _ (List.mem_append_right _ (mem_pinsAt hb e)))).1, fun b hb => ?_, w7⟩
      obtain ⟨o, e, d⟩ := T.obj _ _ st5 b hb
      exact (I7.pin (b, o) (List.mem_append_right _ (List.mem_append_right _ (mem_pinsAt hb e)))).2.1
    cases f with
    | next => obtain ⟨σ7, H7, I7, n7⟩ := q7; exact again I7 n7
    | cont => obtain ⟨σ7, H7, I7, n7⟩ := q7; exact again I7 n7
    | brk => obtain ⟨σ7, H7, I7, q7⟩ := q7; exact ⟨σ7, H7, I7.unpinned, q7⟩
    | ret v => obtain ⟨x7, σ7, H7, I7, r7, q7⟩ := q7; exact ⟨x7, σ7, H7, I7.unpinned, r7, q7⟩
end
theorem for_list {K : PySem.W.Frag} {a : Addr} {xs : List V} {g : TG} {tb : TS} {D : Ends} {σ : St} {H : Hp} (Pv : Nat → St → Hp → Prop) (h0 : Pv 0 σ H) (hl : ∀ i σ H, i ≤ xs.length → Pv i σ H → SqL K H a xs)
    (hs : ∀ i x σ H, xs[i]? = some x → Pv i σ H → g x σ H fun σ2 H2 => tb { D with nx := Pv (i + 1), ct := Pv (i + 1), bk := D.nx } σ2 H2) (hd : ∀ σ H, Pv xs.length σ H → D.nx σ H) :
    ∃ W : Nat → Nat → St → Hp → Prop, (∃ m, W 0 m σ H) ∧ ∀ i m σ H, W i m σ H →
      ((Itl K a).stop i H ∧ D.nx σ H) ∨ ((Itl K a).go i H ∧ ∃ N : St → Hp → Prop, (∀ σ' H', N σ' H' → ∃ m', m' < m ∧ W (i + 1) m' σ' H') ∧ ∀ x H', (Itl K a).yld i H x H' → g x σ H' fun σ2 H2 => tb { D with nx := N, ct := N, bk := D.nx } σ2 H2) := by
  refine ⟨fun i m σ H => m = xs.length - i ∧ i ≤ xs.length ∧ Pv i σ H, ⟨xs.length, by simp, Nat.zero_le _, h0⟩, ?_⟩
  rintro i m σ H ⟨rfl, hi, p⟩
  have q := hl i σ H hi p
  by_cases hlt : i < xs.length
  · refine .inr ⟨⟨xs, xs[i], q, by simp [hlt]⟩, Pv (i + 1), fun σ' H' p' => ⟨xs.length - (i + 1), by omega, rfl, hlt, p'⟩, fun x H' y => ?_⟩
    obtain ⟨e, y⟩ := y
    subst e
    exact hs i x σ _ (y xs q) p
  · have e : i = xs.length := by omega
    subst e
    exact .inl ⟨⟨xs, q, Nat.le_refl _⟩, hd σ H p⟩
theorem for_range {lo : Int} {n : Nat} {g : TG} {tb : TS} {D : Ends} {σ : St} {H : Hp} (Pv : Nat → St → Hp → Prop) (h0 : Pv 0 σ H)
    (hs : ∀ i σ H, i < n → Pv i σ H → g (.int (lo + i)) σ H fun σ2 H2 => tb { D with nx := Pv (i + 1), ct := Pv (i + 1), bk := D.nx } σ2 H2) (hd : ∀ σ H, Pv n σ H → D.nx σ H) :
    ∃ W : Nat → Nat → St → Hp → Prop, (∃ m, W 0 m σ H) ∧ ∀ i m σ H, W i m σ H →
      ((Itr lo n).stop i H ∧ D.nx σ H) ∨ ((Itr lo n).go i H ∧ ∃ N : St → Hp → Prop, (∀ σ' H', N σ' H' → ∃ m', m' < m ∧ W (i + 1) m' σ' H') ∧ ∀ x H', (Itr lo n).yld i H x H' → g x σ H' fun σ2 H2 => tb { D with nx := N, ct := N, bk := D.nx } σ2 H2) := by
  refine ⟨fun i m σ H => m = n - i ∧ i ≤ n ∧ Pv i σ H, ⟨n, by simp, Nat.zero_le _, h0⟩, ?_⟩
  rintro i m σ H ⟨rfl, hi, p⟩
  by_cases hlt : i < n
  · refine .inr ⟨hlt, Pv (i + 1), fun σ' H' p' => ⟨n - (i + 1), by omega, rfl, hlt, p'⟩, fun x H' y => ?_⟩
    obtain ⟨e, y⟩ := y
    subst e y
    exact hs i σ _ hlt p
  · have e : i = n := by omega
    subst e
    exact .inl ⟨Nat.le_refl _, hd σ H p⟩
end L2
namespace L2
open PySem PySem.Spec PyProof.Rows
abbrev R2 := V → V → Hp → VK → Prop
def OpR (X : Cx) (f : Value → Value → Sem Value) (r : R2) : Prop :=
  ∀ (pins : List (Addr × Obj)) (s : Shared) (σ : St) (H : Hp) (x y : V) (v u : Value) (Q : VK), Inv X pins σ H s → RelV x v → RelV y u → r x y H Q →
    wpAny (model X.prog X.w) X.A (f v u) (EP X pins σ Q) X.xe s
def UnR (X : Cx) (f : Value → Sem Value) (r : V → Hp → VK → Prop) : Prop :=
  ∀ (pins : List (Addr × Obj)) (s : Shared) (σ : St) (H : Hp) (x : V) (v : Value) (Q : VK), Inv X pins σ H s → RelV x v → r x H Q →
    wpAny (model X.prog X.w) X.A (f v) (EP X pins σ Q) X.xe s
def CallR (X : Cx) (f : Value) (r : List V → Hp → VK → Prop) : Prop :=
  ∀ (pins : List (Addr × Obj)) (s : Shared) (σ : St) (H : Hp) (xs : List V) (us : List Value) (Q : VK), Inv X pins σ H s → Vals xs us → r xs H Q →
    wpAny (model X.prog X.w) X.A (call f us) (EP X pins σ Q) X.xe s
def TruR (X : Cx) (r : V → Hp → (Bool → Hp → Prop) → Prop) : Prop :=
  ∀ (pins : List (Addr × Obj)) (s : Shared) (σ : St) (H : Hp) (x : V) (v : Value) (Q : Bool → Hp → Prop), Inv X pins σ H s → RelV x v → r x H Q →
    wpAny (model X.prog X.w) X.A (truthy v) (TP X pins σ Q) X.xe s
def tOp (r : R2) (ta tb : TE) : TE := fun σ H Q => ta σ H fun x H1 => tb σ H1 fun y H2 => r x y H2 Q
def tUn (r : V → Hp → VK → Prop) (ta : TE) : TE := fun σ H Q => ta σ H fun x H1 => r x H1 Q
def rI (C : Int → Int → Prop) (g : Int → Int → V) : R2 := fun x y H Q => ∃ i j, x = .int i ∧ y = .int j ∧ C i j ∧ Q (g i j) H
def rI0 (g : Int → Int → V) : R2 := fun x y H Q => ∃ i j, x = .int i ∧ y = .int j ∧ Q (g i j) H
def rU (g : Int → V) : V → Hp → VK → Prop := fun x H Q => ∃ i, x = .int i ∧ Q (g i) H
section
variable {X : Cx} {a b c : Expr} {ta tb tc : TE} {pos : Pos}
theorem binT (ha : PE X a ta) (hb : PE X b tb) {pins : List (Addr × Obj)} {s : Shared} {σ : St} {H : Hp} {R : V → V → Hp → Prop} (I : Inv X pins σ H s)
    (h : ta σ H fun x H1 => tb σ H1 fun y H2 => R x y H2) {Q : Value → Shared → Prop} {f : Value → Value → Sem Value}
    (hf : ∀ v u s2 x y H2, Inv X pins σ H2 s2 → RelV x v → RelV y u → R x y H2 → wpAny (model X.prog X.w) X.A (f v u) Q X.xe s2) :
    wpAny (model X.prog X.w) X.A (eval a X.env) (fun v s₁ => wpAny (model X.prog X.w) X.A (eval b X.env) (fun u s₂ => wpAny (model X.prog X.w) X.A (f v u) Q X.xe s₂) X.xe s₁) X.xe s := by
  refine thn (ha pins s σ H _ I h) fun v s1 hm0 => ?_
  obtain ⟨x, H1, I1, r1, q1⟩ := hm0
  refine thn (hb pins s1 σ H1 _ I1 q1) fun u s2 hm0 => ?_
  obtain ⟨y, H2, I2, r2, q2⟩ := hm0
  exact hf v u s2 x y H2 I2 r1 r2 q2
theorem pe_op {op : Operator} {r : R2} (ho : OpR X (binaryOp op) r) (ha : PE X a ta) (hb : PE X b tb) : PE X (.BinOp a op b pos) (tOp r ta tb) := by
  intro pins s σ H Q I h
  exact wpAny_BinOp (binT ha hb I h fun v u s2 x y H2 I2 rx ry q => ho pins s2 σ H2 x y v u Q I2 rx ry q)
theorem pe_un {op : UnaryOp} {r : V → Hp → VK → Prop} (ho : UnR X (unaryOp op) r) (ha : PE X a ta) : PE X (.UnaryOp op a pos) (tUn r ta) := by
  intro pins s σ H Q I h
  refine UnaryOp_ (thn (ha pins s σ H _ I h) fun v s1 hm0 => ?_)
  obtain ⟨x, H1, I1, r1, q1⟩ := hm0
  exact ho pins s1 σ H1 x v Q I1 r1 q1
theorem opI {f : Value → Value → Sem Value} {C : Int → Int → Prop} {g : Int → Int → Int}
    (rule : ∀ (i j : Int) (t u : Tok) (s : Shared) (Q : Value → Shared → Prop) (E : Value → Shared → Prop), C i j → Q (.int (g i j) s.toks) { s with toks := s.toks + 1 } → wpAny (model X.prog X.w) X.A (f (.int i t) (.int j u)) Q E s) :
    OpR X f (rI C fun i j => .int (g i j)) := by
  intro pins s σ H x y v u Q I rx ry h
  obtain ⟨i, j, rfl, rfl, hc, q⟩ := h
  obtain ⟨t, rfl⟩ := rx
  obtain ⟨t', rfl⟩ := ry
  exact rule i j t t' s _ _ hc ⟨.int (g i j), H, I.tok _, ⟨_, rfl⟩, q⟩
theorem opI0 {f : Value → Value → Sem Value} {g : Int → Int → Int}
    (rule : ∀ (i j : Int) (t u : Tok) (s : Shared) (Q : Value → Shared → Prop) (E : Value → Shared → Prop), Q (.int (g i j) s.toks) { s with toks := s.toks + 1 } → wpAny (model X.prog X.w) X.A (f (.int i t) (.int j u)) Q E s) :
    OpR X f (rI0 fun i j => .int (g i j)) := by
  intro pins s σ H x y v u Q I rx ry h
  obtain ⟨i, j, rfl, rfl, q⟩ := h
  obtain ⟨t, rfl⟩ := rx
  obtain ⟨t', rfl⟩ := ry
  exact rule i j t t' s _ _ ⟨.int (g i j), H, I.tok _, ⟨_, rfl⟩, q⟩
theorem opB0 {f : Value → Value → Sem Value} {g : Int → Int → Bool}
    (rule : ∀ (i j : Int) (t u : Tok) (s : Shared) (Q : Value → Shared → Prop) (E : Value → Shared → Prop), Q (.bool (g i j)) s → wpAny (model X.prog X.w) X.A (f (.int i t) (.int j u)) Q E s) :
    OpR X f (rI0 fun i j => .bl (g i j)) := by
  intro pins s σ H x y v u Q I rx ry h
  obtain ⟨i, j, rfl, rfl, q⟩ := h
  obtain ⟨t, rfl⟩ := rx
  obtain ⟨t', rfl⟩ := ry
  exact rule i j t t' s _ _ ⟨.bl (g i j), H, I, rfl, q⟩
def CDiv (i j : Int) : Prop := 0 < j ∧ j < 1073741824
def CPow (i j : Int) : Prop := 0 ≤ j ∧ j ≤ 1000000 ∧ i.natAbs < 2 ^ 64
def CMul (i j : Int) : Prop := (-(2 ^ 64) < i ∧ i < 2 ^ 64) ∨ (-(2 ^ 64) < j ∧ j < 2 ^ 64)
theorem CMul.ok {i j : Int} (h : CMul i j) : IntMulOk i j := by
  rcases h with ⟨h1, h2⟩ | ⟨h1, h2⟩
  · exact .of_left (intBits_le_64 h1 h2)
  · exact .of_right (intBits_le_64 h1 h2)
theorem op_add : OpR X (binaryOp .Add) (rI0 fun i j => .int (i + j)) := opI0 fun _ _ _ _ _ _ _ q => add_int q
theorem op_sub : OpR X (binaryOp .Sub) (rI0 fun i j => .int (i - j)) := opI0 fun _ _ _ _ _ _ _ q => sub_int q
theorem op_mul : OpR X (binaryOp .Mult) (rI CMul fun i j => .int (i * j)) := opI fun _ _ _ _ _ _ _ hc q => mul_int q hc.ok
theorem op_fdiv : OpR X (binaryOp .FloorDiv) (rI CDiv fun i j => .int (i / j)) := opI fun i j _ _ _ _ _ hc q => by
  have h1 : (0 : Int) < j := hc.1
  have h2 : j < 1073741824 := hc.2
  exact floordiv_int (by omega) (by rw [Int.fdiv_eq_ediv_of_nonneg i (by omega)]; exact q) (.inl (PyProof.noPylong_small (by omega)))
theorem op_mod : OpR X (binaryOp .Mod) (rI (fun _ j => 0 < j) fun i j => .int (i % j)) := opI fun i j _ _ _ _ _ hc q => by
  have h1 : (0 : Int) < j := hc
  exact mod_int' (by omega) (by rw [Int.fmod_eq_emod_of_nonneg i (by omega)]; exact q)
theorem op_pow : OpR X (binaryOp .Pow) (rI CPow fun i j => .int (i ^ j.toNat)) := opI fun _ _ _ _ _ _ _ hc q => pow_int_small hc.1 hc.2.1 hc.2.2 q
theorem unI {f : Value → Sem Value} {g : Int → Int}
    (rule : ∀ (i : Int) (t : Tok) (s : Shared) (Q : Value → Shared → Prop) (E : Value → Shared → Prop), Q (.int (g i) s.toks) { s with toks := s.toks + 1 } → wpAny (model X.prog X.w) X.A (f (.int i t)) Q E s) :
    UnR X f (rU fun i => .int (g i)) := by
  intro pins s σ H x v Q I rx h
  obtain ⟨i, rfl, q⟩ := h
  obtain ⟨t, rfl⟩ := rx
  exact rule i t s _ _ ⟨.int (g i), H, I.tok _, ⟨_, rfl⟩, q⟩
theorem un_neg : UnR X (unaryOp .USub) (rU fun i => .int (-i)) := unI fun _ _ _ _ _ q => neg_int q
end
def scal : V → V → Bool
  | .non, .non => true | .non, .int _ => true | .int _, .non => true | .non, .bl _ => true | .bl _, .non => true | .non, .str _ => true | .str _, .non => true
  | .int _, .int _ => true | .bl _, .bl _ => true | .str _, .str _ => true | .byt _, .byt _ => true
  | .int _, .str _ => true | .str _, .int _ => true | .bl _, .str _ => true | .str _, .bl _ => true
  | _, _ => false
def rEq : R2 := fun x y H Q => scal x y = true ∧ Q (.bl (decide (x = y))) H
def rNe : R2 := fun x y H Q => scal x y = true ∧ Q (.bl (!decide (x = y))) H
theorem dec_int {i j : Int} : decide (V.int i = V.int j) = (i == j) := by
  rw [Bool.eq_iff_iff]
  simp
theorem dec_bl {i j : Bool} : decide (V.bl i = V.bl j) = (i == j) := by
  rw [Bool.eq_iff_iff]
  simp
theorem dec_str {i j : Str} : decide (V.str i = V.str j) = (i == j) := by
  rw [Bool.eq_iff_iff]
  simp
theorem dec_byt {i j : Array UInt8} : decide (V.byt i = V.byt j) = (i.toList == j.toList) := by
  rw [Bool.eq_iff_iff]
  cases i
  cases j
  simp
section
variable {X : Cx} {a b c : Expr} {ta tb tc : TE} {pos : Pos}
theorem fin_bl {pins : List (Addr × Obj)} {σ : St} {H : Hp} {s : Shared} {Q : VK} {k k' : Bool} (I : Inv X pins σ H s) (q : Q (.bl k) H) (e : k = k') : EP X pins σ Q (.bool k') s := by
  subst e
  exact ⟨.bl k, H, I, rfl, q⟩
theorem op_eq : OpR X (compareOp .Eq) rEq := by
  intro pins s σ H x y v u Q I rx ry h
  obtain ⟨hs, q⟩ := h
  cases x with
  | non =>
    cases rx
    cases y with
    | non => cases ry; exact PySem.EqNone.eq_none_none (fin_bl I q (by simp))
    | bl j => cases ry; exact PySem.EqNone.eq_none_bool (fin_bl I q (by simp))
    | int j => obtain ⟨t', rfl⟩ := ry; exact PySem.EqNone.eq_none_int (fin_bl I q (by simp))
    | str j => obtain ⟨t', rfl⟩ := ry; exact PySem.EqNone.eq_none_str (fin_bl I q (by simp))
    | _ => exact absurd (show false = true from hs) Bool.false_ne_true
  | bl i =>
    cases rx
    cases y with
    | non => cases ry; exact PySem.EqNone.eq_bool_none (fin_bl I q (by simp))
    | bl j => cases ry; exact eq_bool (fin_bl I q dec_bl)
    | str j => obtain ⟨t', rfl⟩ := ry; exact PySem.EqMixed.eq_bool_str (fin_bl I q (by simp))
    | _ => exact absurd (show false = true from hs) Bool.false_ne_true
  | int i =>
    obtain ⟨t, rfl⟩ := rx
    cases y with
    | non => cases ry; exact PySem.EqNone.eq_int_none (fin_bl I q (by simp))
    | int j => obtain ⟨t', rfl⟩ := ry; exact eq_int (fin_bl I q dec_int)
    | str j => obtain ⟨t', rfl⟩ := ry; exact PySem.EqMixed.eq_int_str (fin_bl I q (by simp))
    | _ => exact absurd (show false = true from hs) Bool.false_ne_true
  | str i =>
    obtain ⟨t, rfl⟩ := rx
    cases y with
    | non => cases ry; exact PySem.EqNone.eq_str_none (fin_bl I q (by simp))
    | bl j => cases ry; exact PySem.EqMixed.eq_str_bool (fin_bl I q (by simp))
    | int j => obtain ⟨t', rfl⟩ := ry; exact PySem.EqMixed.eq_str_int (fin_bl I q (by simp))
    | str j => obtain ⟨t', rfl⟩ := ry; exact eq_str (fin_bl I q dec_str)
    | _ => exact absurd (show false = true from hs) Bool.false_ne_true
  | byt i =>
    obtain ⟨t, rfl⟩ := rx
    cases y with
    | byt j => obtain ⟨t', rfl⟩ := ry; exact PySem.W.eq_bytes (fin_bl I q dec_byt)
    | _ => exact absurd (show false = true from hs) Bool.false_ne_true
  | _ => cases y <;> exact absurd (show false = true from hs) Bool.false_ne_true
theorem op_ne : OpR X (compareOp .NotEq) rNe := by
  intro pins s σ H x y v u Q I rx ry h
  obtain ⟨hs, q⟩ := h
  cases x with
  | non =>
    cases rx
    cases y with
    | non => cases ry; exact PySem.EqNone.ne_none_none (fin_bl I q (by simp))
    | bl j => cases ry; exact PySem.EqNone.ne_none_bool (fin_bl I q (by simp))
    | int j => obtain ⟨t', rfl⟩ := ry; exact PySem.EqNone.ne_none_int (fin_bl I q (by simp))
    | str j => obtain ⟨t', rfl⟩ := ry; exact PySem.EqNone.ne_none_str (fin_bl I q (by simp))
    | _ => exact absurd (show false = true from hs) Bool.false_ne_true
  | bl i =>
    cases rx
    cases y with
    | non => cases ry; exact PySem.EqNone.ne_bool_none (fin_bl I q (by simp))
    | bl j => cases ry; exact ne_bool (fin_bl I q (congrArg not dec_bl))
    | str j => obtain ⟨t', rfl⟩ := ry; exact PySem.EqMixed.ne_bool_str (fin_bl I q (by simp))
    | _ => exact absurd (show false = true from hs) Bool.false_ne_true
  | int i =>
    obtain ⟨t, rfl⟩ := rx
    cases y with
    | non => cases ry; exact PySem.EqNone.ne_int_none (fin_bl I q (by simp))
    | int j => obtain ⟨t', rfl⟩ := ry; exact ne_int (fin_bl I q (congrArg not dec_int))
    | str j => obtain ⟨t', rfl⟩ := ry; exact PySem.EqMixed.ne_int_str (fin_bl I q (by simp))
    | _ => exact absurd (show false = true from hs) Bool.false_ne_true
  | str i =>
    obtain ⟨t, rfl⟩ := rx
    cases y with
    | non => cases ry; exact PySem.EqNone.ne_str_none (fin_bl I q (by simp))
    | bl j => cases ry; exact PySem.EqMixed.ne_str_bool (fin_bl I q (by simp))
    | int j => obtain ⟨t', rfl⟩ := ry; exact PySem.EqMixed.ne_str_int (fin_bl I q (by simp))
    | str j => obtain ⟨t', rfl⟩ := ry; exact ne_str (fin_bl I q (congrArg not dec_str))
    | _ => exact absurd (show false = true from hs) Bool.false_ne_true
  | byt i =>
    obtain ⟨t, rfl⟩ := rx
    cases y with
    | byt j => obtain ⟨t', rfl⟩ := ry; exact PySem.W.ne_bytes (fin_bl I q (congrArg not dec_byt))
    | _ => exact absurd (show false = true from hs) Bool.false_ne_true
  | _ => cases y <;> exact absurd (show false = true from hs) Bool.false_ne_true
theorem op_lt : OpR X (compareOp .Lt) (rI0 fun i j => .bl (decide (i < j))) := opB0 fun _ _ _ _ _ _ _ q => lt_int q
theorem op_le : OpR X (compareOp .LtE) (rI0 fun i j => .bl (decide (i ≤ j))) := opB0 fun _ _ _ _ _ _ _ q => le_int q
theorem op_gt : OpR X (compareOp .Gt) (rI0 fun i j => .bl (decide (j < i))) := opB0 fun _ _ _ _ _ _ _ q => gt_int q
theorem op_ge : OpR X (compareOp .GtE) (rI0 fun i j => .bl (decide (j ≤ i))) := opB0 fun _ _ _ _ _ _ _ q => ge_int q
theorem op_in_str : OpR X (compareOp .In) (fun x y H Q => ∃ i j, x = .str i ∧ y = .str j ∧ Q (.bl (!(Builtin.Str.occurrences j i 0 j.length 1).isEmpty)) H) := by
  intro pins s σ H x y v u Q I rx ry h
  obtain ⟨i, j, rfl, rfl, q⟩ := h
  obtain ⟨t, rfl⟩ := rx
  obtain ⟨t', rfl⟩ := ry
  exact in_str (fin_bl I q rfl)
theorem nomark (b : Expr) {op : CmpOp} (h : op ≠ .In := by decide) (h2 : op ≠ .NotIn := by decide) : behindInMarks op b = false := by
  have e1 : (op == CmpOp.In) = false := by cases op <;> first | rfl | exact absurd rfl h
  have e2 : (op == CmpOp.NotIn) = false := by cases op <;> first | rfl | exact absurd rfl h2
  cases b <;> simp [behindInMarks, e1, e2]
theorem pe_cmpR {op : CmpOp} {r : R2} (ho : OpR X (compareOp op) r) (ha : PE X a ta) (hb : PE X b tb) (hm : behindInMarks op b = false) : PE X (.Compare a [op] [b] pos) (tOp r ta tb) := by
  intro pins s σ H Q I h
  exact wpAny_Compare1 (binT ha hb I h fun v u s2 x y H2 I2 rx ry q => ho pins s2 σ H2 x y v u Q I2 rx ry q) hm
def tTest (t : TE) : TT := fun σ H Q => t σ H fun x H' => ∃ k, x = .bl k ∧ Q k H'
theorem pt_cmpR {op : CmpOp} {r : R2} (ho : OpR X (compareOp op) r) (ha : PE X a ta) (hb : PE X b tb) (hm : behindInMarks op b = false) : PT X (.Compare a [op] [b] pos) (tTest (tOp r ta tb)) := by
  intro pins s σ H Q I h
  refine wpAny_isTrue_Compare1 (thn (ha pins s σ H _ I h) fun v s1 ⟨x, H1, I1, r1, q1⟩ => thn (hb pins s1 σ H1 _ I1 q1) fun u s2 ⟨y, H2, I2, r2, q2⟩ =>
    thn (ho pins s2 σ H2 x y v u _ I2 r1 r2 q2) fun c s3 ⟨z, H3, I3, r3, k, e, q3⟩ => ?_) hm
  subst e
  cases r3
  exact wpAny_truthy_bool ⟨H3, I3, q3⟩
def tChain (r r' : R2) (ta tb tc : TE) : TE := fun σ H Q => ta σ H fun x H1 => tb σ H1 fun y H2 => r x y H2 fun z H3 => ∃ k, z = .bl k ∧
  (if k = true then tc σ H3 fun w' H4 => r' y w' H4 Q else Q (.bl false) H3)
theorem pe_chain {op op' : CmpOp} {r r' : R2} (ho : OpR X (compareOp op) r) (ho' : OpR X (compareOp op') r') (ha : PE X a ta) (hb : PE X b tb) (hc : PE X c tc)
    (hm : lastMarks [op, op'] [b, c] = false := by with_unfolding_all rfl) : PE X (.Compare a [op, op'] [b, c] pos) (tChain r r' ta tb tc) := by
  intro pins s σ H Q I h
  refine Compare_chain (thn (ha pins s σ H _ I h) fun v s1 ⟨x, H1, I1, r1, q1⟩ => chain_link (thn (hb pins s1 σ H1 _ I1 q1) fun u s2 ⟨y, H2, I2, r2, q2⟩ =>
    thn (ho pins s2 σ H2 x y v u _ I2 r1 r2 q2) fun d s3 ⟨z, H3, I3, r3, k, e, q3⟩ => ?_)) hm
  subst e
  cases r3
  refine wpAny_truthy_bool ?_
  cases k with
  | false => exact ite_ff ⟨.bl false, H3, I3, rfl, q3⟩
  | true => exact ite_tt (chain_last (thn (hc pins s3 σ H3 _ I3 q3) fun w' s4 ⟨z', H4, I4, r4, q4⟩ => ho' pins s4 σ H4 y z' u w' Q I4 r2 r4 q4))
def TruV (K : PySem.W.Frag) (x : V) (H : Hp) (k : Bool) : Prop :=
  match x with
  | .non => k = false
  | .bl b => k = b
  | .int i => k = (i != 0)
  | .str y => y.length ≤ sizeLine ∧ k = ((y.length : Int) != 0)
  | .byt y => y.size ≤ sizeLine ∧ k = ((y.size : Int) != 0)
  | .ref p => (∃ xs, SqL K H p xs ∧ k = !xs.isEmpty) ∨ (∃ xs, SqT K H p xs ∧ k = !xs.isEmpty) ∨ ∃ kvs, H p = some (.dK kvs) ∧ k = !kvs.isEmpty
  | _ => False
theorem isEmpty_kv {κ : Type} {kvs : List (κ × V)} {vs : List (κ × Value)} (r : KV kvs vs) : (!vs.isEmpty) = !kvs.isEmpty := by
  cases r <;> rfl
theorem isEmpty_of {xs : List V} {its : List Value} (r : Vals xs its) : (!its.toArray.isEmpty) = !xs.isEmpty := by
  cases r <;> simp
theorem line63 : (sizeLine : Nat) < 2 ^ 63 := by rw [sizeLine_eq]; decide
theorem tru_ok : TruR X (fun x H Q => ∃ k, TruV X.K x H k ∧ Q k H) := by
  intro pins s σ H x v Q I rx h
  obtain ⟨k, e, q⟩ := h
  have hl := line63
  have hs : sizeLine = 16777216 := sizeLine_eq
  cases x with
  | non =>
    cases rx
    have e' : k = false := e
    subst e'
    exact truthy_none ⟨H, I, q⟩
  | bl b =>
    cases rx
    have e' : k = b := e
    subst e'
    exact wpAny_truthy_bool ⟨H, I, q⟩
  | int i =>
    obtain ⟨t, rfl⟩ := rx
    have e' : k = (i != 0) := e
    subst e'
    exact PySem.P.truthy_int ⟨H, I, q⟩
  | str y =>
    obtain ⟨t, rfl⟩ := rx
    obtain ⟨hy, e'⟩ : y.length ≤ sizeLine ∧ k = ((y.length : Int) != 0) := e
    subst e'
    exact PySem.P.truthy_str (by omega) ⟨H, I.tok _, q⟩
  | byt y =>
    obtain ⟨t, rfl⟩ := rx
    obtain ⟨hy, e'⟩ : y.size ≤ sizeLine ∧ k = ((y.size : Int) != 0) := e
    subst e'
    exact PySem.W.truthy_bytes (by omega) ⟨H, I.tok _, q⟩
  | ref p =>
    cases rx
    have e' : (∃ xs, SqL X.K H p xs ∧ k = !xs.isEmpty) ∨ (∃ xs, SqT X.K H p xs ∧ k = !xs.isEmpty) ∨ ∃ kvs, H p = some (.dK kvs) ∧ k = !kvs.isEmpty := e
    rcases e' with ⟨xs, hx, e'⟩ | ⟨xs, hx, e'⟩ | ⟨kvs, hx, e'⟩
    · subst e'
      obtain ⟨its, r, pl, hz⟩ := I.list hx
      have hlen := r.length
      exact wpAny_truthy_list pl.isList (by simp only [List.size_toArray]; omega) ⟨H, I.tok _, by rw [isEmpty_of r]; exact q⟩
    · subst e'
      obtain ⟨its, r, pl, hz⟩ := I.tuple hx
      have hlen := r.length
      exact truthy_tuple pl (by simp only [List.size_toArray]; omega) ⟨H, I.tok _, by rw [isEmpty_of r]; exact q⟩
    · subst e'
      obtain ⟨hz, hS, vs, r, m⟩ : kvs.length ≤ sizeLine ∧ (p == sysModules) = false ∧ ∃ vs, KV kvs vs ∧ s.heap.DictOf (mixKind X.prog X.w) p vs := I.hok p _ hx
      have hlen : kvs.length = vs.length := Paired.length r
      exact wpAny_truthy_dict hS m (by omega) ⟨H, I.tok _, by rw [isEmpty_kv r]; exact q⟩
  | _ => exact (show False from e).elim
theorem pt_truth (ha : PE X a ta) (he : ∀ whole, isTrue a X.env whole = (do let v ← whole; standAt a.pos; holding [v] (truthy v))) :
    PT X a (fun σ H Q => ta σ H fun x H' => ∃ k, TruV X.K x H' k ∧ Q k H') := by
  intro pins s σ H Q I h
  refine isTrue_plain (thn (ha pins s σ H _ I h) fun v s1 hm0 => ?_) (he _)
  obtain ⟨x, H1, I1, r1, q1⟩ := hm0
  exact tru_ok pins s1 σ H1 x v Q I1 r1 q1
theorem op_add_str : OpR X (binaryOp .Add) (fun x y H Q => ∃ i j, x = .str i ∧ y = .str j ∧ i.length + j.length ≤ sizeLine ∧ Q (.str (i ++ j)) H) := by
  intro pins s σ H x y v u Q I rx ry h
  obtain ⟨i, j, rfl, rfl, hz, q⟩ := h
  obtain ⟨t, rfl⟩ := rx
  obtain ⟨t', rfl⟩ := ry
  exact add_str (fun t' tk => ⟨.str (i ++ j), H, I.tok _, ⟨_, rfl⟩, q⟩) hz
theorem vals1 {x : V} {us : List Value} (r : Vals [x] us) : ∃ u, us = [u] ∧ RelV x u := by
  cases r with
  | cons r1 r2 => cases r2; exact ⟨_, rfl, r1⟩
theorem vals2 {x y : V} {us : List Value} (r : Vals [x, y] us) : ∃ u w', us = [u, w'] ∧ RelV x u ∧ RelV y w' := by
  cases r with
  | cons r1 r2 =>
    cases r2 with
    | cons r3 r4 => cases r4; exact ⟨_, _, rfl, r1, r3⟩
theorem call_int1 : CallR X (.type "int") (fun xs H Q => (∃ i, xs = [.int i] ∧ Q (.int i) H) ∨ ∃ k, xs = [.bl k] ∧ Q (.int (if k then 1 else 0)) H) := by
  intro pins s σ H xs us Q I r h
  rcases h with ⟨i, rfl, q⟩ | ⟨k, rfl, q⟩
  · obtain ⟨u, rfl, t, rfl⟩ := vals1 r
    exact call_int_int ⟨.int i, H, I, ⟨_, rfl⟩, q⟩
  · obtain ⟨u, rfl, r1⟩ := vals1 r
    cases r1
    exact call_int_bool ⟨.int (if k then 1 else 0), H, I.tok _, ⟨_, rfl⟩, q⟩
theorem call_str_int : CallR X (.type "str") (fun xs H Q => ∃ i, xs = [.int i] ∧ i.natAbs.log2 < 1920 ∧ Q (.str (toString i)) H) := by
  intro pins s σ H xs us Q I r h
  obtain ⟨i, rfl, hz, q⟩ := h
  obtain ⟨u, rfl, t, rfl⟩ := vals1 r
  exact PySem.P.str_of_int hz ⟨.str _, H, I.tok _, ⟨_, rfl⟩, q⟩
end
end L2
namespace L2
open PySem PySem.Spec PyProof.Rows
structure ObjM (h : Heap) (x dx C : Addr) (mA : Str → Option Value) : Prop where
  obj : h.get? x = some (PySem.W.instObj C dx)
  ns : h.Ns1 dx mA
  ne : dx ≠ x
theorem lookIn_ns {h : Heap} {dx : Addr} {mA : Str → Option Value} (n : h.Ns1 dx mA) : ∃ od, h.get? dx = some od ∧ ∀ name, PySem.W.lookIn name od = some (mA name) := by
  obtain ⟨o, es, ep, ho, hd, hk, _, hm⟩ := n
  refine ⟨o, ho, fun name => ?_⟩
  have e := hm name
  unfold nsFind findBy at e
  rw [← Array.find?_toList] at e
  unfold PySem.W.lookIn
  rw [hd]
  dsimp only
  split
  · rename_i y q
    rw [q] at e
    exact congrArg some e
  · rename_i q
    rw [q] at e
    have a : es.toList.any (·.refKey) = false := by
      rw [List.any_eq_false]
      intro y hy
      obtain ⟨z, t, hkey⟩ := hk y (Array.mem_toList_iff.mp hy)
      simp [DictEntry.refKey, hkey]
    have a' : ¬ es.toList.any (·.refKey) = true := by rw [a]; exact Bool.false_ne_true
    rw [if_neg a']
    exact congrArg some e
theorem ObjM.look {h : Heap} {x dx C : Addr} {mA : Str → Option Value} (I : ObjM h x dx C mA) : ∃ od, PySem.W.InstAt h x (PySem.W.instObj C dx) C (some od) ∧ ∀ name, PySem.W.lookIn name od = some (mA name) :=
  let ⟨od, ho, hl⟩ := lookIn_ns I.ns
  ⟨od, ⟨I.obj, rfl, rfl, ho⟩, hl⟩
section
variable {prog : Program} {w : World} {A : Around} {E : Value → Shared → Prop} {s : Shared} {K : PySem.W.Frag} {x dx C f : Addr} {mA : Str → Option Value} {name : Str} {v : Value}
end
theorem RelO.some_of {v : V} {o : Option Value} (r : RelO (some v) o) : ∃ u, o = some u ∧ RelV v u := by
  cases o with
  | none => exact (show False from r).elim
  | some u => exact ⟨u, rfl, r⟩
section
variable {P : Program} {w : World} {H H' : Hp} {h h' : Heap} {a C dx : Addr} {fs fs' : List (Str × V)}
theorem ins_get (hok : HOk P w H h) (e : H a = some (.ins C dx fs)) : ∃ mA, ObjM h a dx C mA ∧ (∀ f, RelO (fs.lookup f) (mA f)) ∧ PySem.Within mA (fs.map (·.1)) ∧ fs.length ≤ 1000 ∧ H dx = some (.own a) := by
  obtain ⟨d, z, ne, ob, mA, n, r, q⟩ := (show ObjOk P w H h a (.ins C dx fs) from hok a _ e)
  exact ⟨mA, ⟨ob, n, ne⟩, r, q, z, d⟩
end
structure Cls (K : PySem.W.Frag) (C : Addr) : Prop where
  pg : PySem.W.plainGet K C Str.empty = true
  hd : PySem.W.hasDictIn K C = true
  po : PySem.W.plainOver K C = true
  sa : PySem.W.findIn K (.ref C) "__setattr__" = some (some (.builtin "object.__setattr__"))
theorem Cls.get {K : PySem.W.Frag} {C : Addr} (c : Cls K C) (f : Str) : PySem.W.plainGet K C f = true := c.pg
section
variable {X : Cx} {pins : List (Addr × Obj)} {σ : St} {H : Hp} {s : Shared} {a C dx : Addr} {fs : List (Str × V)} {f : Str} {v : V} {A : Around} {E : Value → Shared → Prop}
end
section
variable {X : Cx} {o e value : Expr} {f : Str} {pos pos' tpos : Pos} {ta tv : TE}
end
section
variable {X : Cx} {pins : List (Addr × Obj)} {σ : St} {H : Hp} {s : Shared} {A : Around} {E : Value → Shared → Prop} {Q : Value → Shared → Prop} {c : Value} {b : Bool}
inductive TyOf (K : PySem.W.Frag) (H : Hp) : V → Value → Prop where
  | non : TyOf K H .non (.type "NoneType")
  | bl (x : Bool) : TyOf K H (.bl x) (.type "bool")
  | int (i : Int) : TyOf K H (.int i) (.type "int")
  | str (x : Str) : TyOf K H (.str x) (.type "str")
  | flt (x : UInt64) : TyOf K H (.flt x) (.type "float")
  | lst {a : Addr} {xs : List V} (e : H a = some (.lst xs)) : TyOf K H (.ref a) (.type "list")
  | frz {a : Addr} {o : Obj} {xs : List V} (e : H a = some (.frz o (.lst xs))) : TyOf K H (.ref a) (.type "list")
  | tup {a : Addr} {xs : List V} (e : H a = some (.tup xs)) : TyOf K H (.ref a) (.type "tuple")
  | dK {a : Addr} {kvs : List (Key × V)} (e : H a = some (.dK kvs)) : TyOf K H (.ref a) (.type "dict")
  | dT {a : Addr} {kvs : List (List Key × V)} (e : H a = some (.dT kvs)) : TyOf K H (.ref a) (.type "dict")
  | ins {a C dx : Addr} {fs : List (Str × V)} (e : H a = some (.ins C dx fs)) (cl : Cls K C) (ha : PySem.W.findIn K (.ref C) "__class__" = some (some (.builtin "object.__class__")))
      (hn : PySem.W.specialIn K (.builtin "object.__class__") "__get__" = some (some (.builtin "getset_descriptor.__get__"))) (htk : PySem.W.takesIn K (.builtin "object.__class__") = some true)
      (hm : PySem.W.mroIn K C (.type "object") = some true) : TyOf K H (.ref a) (.ref C)
theorem isinst_ok {x : V} {u t : Value} (I : Inv X pins σ H s) (rx : RelV x u) (ty : TyOf X.K H x t) (e : PySem.W.kitOne X.K t c = some b) (h : ∀ tk, Q (.bool b) { s with toks := tk }) :
    wpAny (model X.prog X.w) A (call (.builtin "isinstance") [u, c]) Q E s := by
  cases ty with
  | non => cases (show u = Value.none from rx); exact PySem.W.kia_one PySem.W.kitx_none I.kIn True.intro e (fun z => nomatch z) h
  | bl y => cases (show u = Value.bool y from rx); exact PySem.W.kia_one PySem.W.kitx_bool I.kIn True.intro e (fun z => nomatch z) h
  | int i => obtain ⟨t, q⟩ := (show ∃ t, u = Value.int i t from rx); cases q; exact PySem.W.kia_one PySem.W.kitx_int I.kIn True.intro e (fun z => nomatch z) h
  | str y => obtain ⟨t, q⟩ := (show ∃ t, u = Value.str y t from rx); cases q; exact PySem.W.kia_one PySem.W.kitx_str I.kIn True.intro e (fun z => nomatch z) h
  | flt y => obtain ⟨t, q⟩ := (show ∃ t, u = Value.float y t from rx); cases q; exact PySem.W.kia_one PySem.W.kitx_float I.kIn True.intro e (fun z => nomatch z) h
  | @lst a xs ea =>
    cases (show u = Value.ref a from rx)
    obtain ⟨_, _, n, _, h1⟩ := (show ObjOk X.prog X.w H s.heap a (.lst xs) from I.hok a _ ea)
    exact PySem.W.kia_one PySem.W.kitx_list I.kIn ⟨_, h1, rfl⟩ e (fun z => nomatch z) h
  | @frz a ob xs ea =>
    cases (show u = Value.ref a from rx)
    obtain ⟨_, _, _, n, _, h1⟩ := (show ObjOk X.prog X.w H s.heap a (.frz ob (.lst xs)) from I.hok a _ ea)
    exact PySem.W.kia_one PySem.W.kitx_list I.kIn ⟨_, h1, rfl⟩ e (fun z => nomatch z) h
  | @tup a xs ea =>
    cases (show u = Value.ref a from rx)
    obtain ⟨_, _, _, p⟩ := (show ObjOk X.prog X.w H s.heap a (.tup xs) from I.hok a _ ea)
    obtain ⟨o, h1, h2, _⟩ := p
    exact PySem.W.kia_one PySem.W.kitx_tuple I.kIn ⟨o, h1, h2⟩ e (fun z => nomatch z) h
  | @dK a kvs ea =>
    cases (show u = Value.ref a from rx)
    obtain ⟨_, _, vs, _, p⟩ := (show ObjOk X.prog X.w H s.heap a (.dK kvs) from I.hok a _ ea)
    obtain ⟨o, es, ep, h1, h2, _⟩ := p
    exact PySem.W.kia_one PySem.W.kitx_dict I.kIn ⟨o, h1, h2.1⟩ e (fun z => nomatch z) h
  | @dT a kvs ea =>
    cases (show u = Value.ref a from rx)
    obtain ⟨_, _, xs, _, o, es, ep, h1, h2, _⟩ := (show ObjOk X.prog X.w H s.heap a (.dT kvs) from I.hok a _ ea)
    exact PySem.W.kia_one PySem.W.kitx_dict I.kIn ⟨o, h1, h2.1⟩ e (fun z => nomatch z) h
  | @ins a C dx fs ea cl ha hn htk hm =>
    cases (show u = Value.ref a from rx)
    obtain ⟨mA, O, _⟩ := ins_get I.hok ea
    obtain ⟨od, J, _⟩ := O.look
    exact PySem.W.kia_one (PySem.W.kitx_own (cl.get _) cl.hd ha hn htk hm) I.kIn J e (fun z => nomatch z) h
end
end L2
namespace L2
open PySem PySem.Spec PyProof.Rows
structure Room (k : Nat) (A : Around) : Prop where
  hd : A.handled = none
  dp : A.depth + 3 * k + 5 < recursionLimit
  un : A.units + 16 * k + 200 < cLine
theorem Room.mono {j k : Nat} {A : Around} (r : Room k A) (h : j ≤ k) : Room j A := ⟨r.hd, by have := r.dp; omega, by have := r.un; omega⟩
theorem Room.deeper {k : Nat} {A : Around} (r : Room (k + 1) A) (env : Env) : Room k (A.deeper env) :=
  ⟨r.hd, by have := r.dp; show A.depth + 1 + 3 * k + 5 < _; omega, by have := r.un; show A.units + 3 + 16 * k + 200 < _; omega⟩
theorem Room.depth {k : Nat} {A : Around} (r : Room k A) : A.depth < recursionLimit := by have := r.dp; omega
theorem Room.units {k : Nat} {A : Around} (r : Room k A) : A.units + 64 < cLine := by have := r.un; omega
def tNil : TA := fun _ H Q => Q [] H
def tCons (ta : TE) (tr : TA) : TA := fun σ H Q => ta σ H fun x H1 => tr σ H1 fun xs H2 => Q (x :: xs) H2
section
variable {X : Cx} {e : Expr} {es : List Expr} {te : TE} {t : TA} {pos : Pos}
theorem pa_nil : PA X [] tNil := fun _ _ _ _ H Q I h => Calls.spliced_nil ⟨[], H, I, .nil, h⟩
theorem pa_cons (ha : PE X e te) (hr : PA X es t) (hs : starEach (e :: es) X.env = (false, eval e X.env) :: starEach es X.env := by rfl) : PA X (e :: es) (tCons te t) := by
  intro pos pins s σ H Q I h
  rw [hs]
  show wpAny _ _ (spliced ((false, eval e X.env) :: backTo pos (starEach es X.env))) _ _ s
  refine Calls.spliced_cons (thn (ha pins s σ H _ I h) fun u s1 hm0 => ?_)
  obtain ⟨x, H1, I1, r1, q1⟩ := hm0
  refine thn (hr pos pins s1 σ H1 _ I1 q1) fun us s2 hm0 => ?_
  obtain ⟨xs, H2, I2, r2, q2⟩ := hm0
  exact ⟨x :: xs, H2, I2, .cons r1 r2, q2⟩
def tTup (t : TA) : TE := fun σ H Q => t σ H fun xs H1 => xs.length ≤ sizeLine ∧ ∀ p, H1 p = none → Q (.ref p) (upd H1 p (.tup xs))
def tLst (t : TA) : TE := fun σ H Q => t σ H fun xs H1 => xs.length ≤ sizeLine ∧ ∀ p, H1 p = none → Q (.ref p) (upd H1 p (.lst xs))
theorem pe_tup {x1} (h : PA X es t) : PE X (.Tuple es x1 pos) (tTup t) := by
  intro pins s σ H Q I hq
  refine wpAny_Tuple_spliced (thn (h pos pins s σ H _ I hq) fun us s1 hm0 => ?_)
  obtain ⟨xs, H1, I1, r, z, q⟩ := hm0
  refine ⟨by rw [← r.length]; exact z, ?_⟩
  have hf : H1 s1.heap.objs.size = none := I1.hok.fresh (Nat.le_refl _)
  refine ⟨.ref s1.heap.objs.size, upd H1 s1.heap.objs.size (.tup xs), I1.laid (t' := s1.toks) (fun b u e => Heap.get?_push_of_some _ e) (Nat.le_refl _) ?_, rfl, q _ hf⟩
  exact ⟨z, us, r, ⟨_, Heap.get?_push_size _ rfl, rfl, _, rfl⟩⟩
theorem pe_lst (h : PA X es t) : PE X (.List es pos) (tLst t) := by
  intro pins s σ H Q I hq
  refine wpAny_List_spliced (thn (h pos pins s σ H _ I hq) fun us s1 hm0 => ?_)
  obtain ⟨xs, H1, I1, r, z, q⟩ := hm0
  refine ⟨by rw [← r.length]; exact z, ?_⟩
  have hf : H1 s1.heap.objs.size = none := I1.hok.fresh (Nat.le_refl _)
  refine ⟨.ref s1.heap.objs.size, upd H1 s1.heap.objs.size (.lst xs), I1.laid (t' := s1.toks) (fun b u e => Heap.get?_push_of_some _ e) (Nat.le_refl _) ?_, rfl, q _ hf⟩
  exact ⟨z, us, 0, r, Heap.get?_push_size _ rfl⟩
end
abbrev Sp := List V → Hp → VK → XK → Prop
abbrev CXT := List Env → Hp → Shared → XK → Value → Shared → Prop
structure Env0 (P : Program) (w : World) (K : PySem.W.Frag) (mg : Str → Option Value) (base : Heap) (A : Around) (outer : List Env) (s : Shared) (H : Hp) : Prop where
  frames : A.frames = some outer
  mod : Mod K mg base
  bs : ∀ b o, base.get? b = some o → s.heap.get? b = some o ∧ H b = none
  bsz : base.objs.size ≤ s.heap.objs.size
  funs : s.heap.FunFrames base outer
  frf : ∀ b ∈ frs outer, H b = none
  hok : HOk P w H s.heap
  bare : AllBare s.gens
def CE (outer : List Env) (P : Program) (w : World) (H : Hp) (s : Shared) (Q : VK) (u : Value) (s' : Shared) : Prop :=
  ∃ v H', s'.os = s.os ∧ AllBare s'.gens ∧ Un (frs outer) [] H H' s.heap s'.heap ∧ HOk P w H' s'.heap ∧ RelV v u ∧ Q v H'
def CR (CX : CXT) (outer : List Env) (P : Program) (w : World) (H : Hp) (s : Shared) (Q : VK) (E : XK) (r : Result) (s' : Shared) : Prop :=
  match r with
  | .ok (.ret u) => CE outer P w H s Q u s'
  | .ok _ => False
  | .error e => CX outer H s E e s'
structure FnOk (P : Program) (w : World) (K : PySem.W.Frag) (mg : Str → Option Value) (base : Heap) (CX : CXT) (k : Nat) (f : Addr) (fd : FuncData) (ps : List Str) (sp : Sp) : Prop where
  len : ∀ vs H Q E, sp vs H Q E → vs.length = ps.length
  run : ∀ (A : Around) (outer : List Env) (s : Shared) (H : Hp) (args : Args) (us : List Value) (vs : List V) (Q : VK) (E : XK), Room k A → Env0 P w K mg base A outer s H → BindsTo s fd args (ps.zip us) → Vals vs us → sp vs H Q E →
    codeAny (model P w) A (.call (.ref f) args) (CR CX outer P w H s Q E) s
section
variable {X : Cx} {pins : List (Addr × Obj)} {σ : St} {H : Hp} {s s' : Shared}
theorem Inv.env0 (I : Inv X pins σ H s) : Env0 X.prog X.w X.K X.mg X.base X.A X.stack s H :=
  ⟨I.ok.frames, I.ok.mod, I.bs, Nat.le_trans I.ok.bsz I.sz, I.stack, I.stkFree, I.hok, I.bare⟩
theorem Inv.after {Q : VK} {u : Value} (I : Inv X pins σ H s) (h : CE X.stack X.prog X.w H s Q u s') : EP X pins σ Q u s' := by
  obtain ⟨v, H', os, bare, un, hok, r, q⟩ := h
  obtain ⟨hh, g, d, t, os'⟩ := s'
  obtain rfl : os' = s.os := os
  exact ⟨v, H', I.call (h' := hh) (g' := g) (d' := d) (t' := t) (ch := []) un hok bare (fun b z => absurd z (by simp)), r, q⟩
end
def tCall (sp : Sp) (dvs : List V) (E : XK) (t : TA) : TE := fun σ H Q => t σ H fun vs H1 => sp (vs ++ dvs) H1 Q E
def Binds (K : PySem.W.Frag) (fd : FuncData) (ps : List Str) (ds : List Value) : Prop :=
  ∀ (s : Shared) (us : List Value), K.In s.heap → (us ++ ds).length = ps.length → BindsTo s fd ⟨us, []⟩ (ps.zip (us ++ ds))
theorem Binds.all {K : PySem.W.Frag} {fd : FuncData} {ps : List Str} (h : ∀ us : List Value, us.length = ps.length → bindArgs fd ⟨us, []⟩ = pure (ps.zip us)) : Binds K fd ps [] := fun s us _ hl => by
  rw [List.append_nil] at hl ⊢
  exact .of_eq (h us hl)
def Passes (CX : CXT) (X : Cx) (E : XK) : Prop := ∀ (pins : List (Addr × Obj)) (σ : St) (H : Hp) (s : Shared) (e : Value) (s' : Shared), Inv X pins σ H s → CX X.stack H s E e s' → X.xe e s'
section
variable {X : Cx} {CX : CXT} {k : Nat} {f C : Addr} {fd : FuncData} {ps : List Str} {sp : Sp} {dvs : List V} {ds : List Value} {E : XK} {x m : Str} {p pos apos : Pos} {e o : Expr} {es : List Expr} {ta : TE} {t : TA}
theorem run_fn {pins : List (Addr × Obj)} {σ : St} {H : Hp} {s : Shared} {Q : VK} {us : List Value} {vs : List V} (F : FnOk X.prog X.w X.K X.mg X.base CX k f fd ps sp) (hr : Room k X.A) (hb : Binds X.K fd ps ds) (hd : Vals dvs ds) (hx : Passes CX X E)
    (I : Inv X pins σ H s) (r : Vals vs us) (h : sp (vs ++ dvs) H Q E) : wpAny (model X.prog X.w) X.A (call (.ref f) us) (EP X pins σ Q) X.xe s := by
  have r2 : Vals (vs ++ dvs) (us ++ ds) := r.append hd
  have hl : (us ++ ds).length = ps.length := by rw [← r2.length]; exact F.len _ _ _ _ h
  refine wpAny_call (codeAny_mono (F.run X.A X.stack s H ⟨us, []⟩ (us ++ ds) (vs ++ dvs) Q E hr I.env0 (hb s us I.kIn hl) r2 h) fun r s' hq => ?_)
  cases r with
  | error e => exact hx pins σ H s e s' I hq
  | ok fl =>
    cases fl with
    | ret u => exact I.after hq
    | next => exact False.elim hq
    | brk => exact False.elim hq
    | cont => exact False.elim hq
theorem pe_call (F : FnOk X.prog X.w X.K X.mg X.base CX k f fd ps sp) (hr : Room k X.A) (hg : Gl X x) (hm : X.mg x = some (.ref f)) (hk : PySem.W.keepIn X.K (.ref f) = true) (hb : Binds X.K fd ps ds) (hd : Vals dvs ds) (hx : Passes CX X E)
    (ha : PA X (e :: es) t) (hdb : (x == ("__debug__" : Str)) = false := by decide) (he : starEach (e :: es) X.env = (false, eval e X.env) :: starEach es X.env := by rfl) (hpl : (backTo pos (starEach es X.env)).any (·.1) = false := by rfl) :
    PE X (.Call (.Name x p) (e :: es) [] pos) (tCall sp dvs E t) := by
  intro pins s σ H Q I h
  refine wpAny_Call_Name_kw (ld_glob I hg hm ?_ hdb)
  refine PySem.W.callWith_K (h₀ := X.base) I.ok.mod.kin hk (thn (ha pos pins s σ H _ I h) fun us s1 hm0 => ?_) he hpl
  obtain ⟨vs, H1, I1, r, q⟩ := hm0
  refine ⟨I1.kIn, ?_⟩
  exact run_fn F hr hb hd hx I1 r q
end
section
variable {X : Cx} {CX : CXT} {k : Nat} {f C : Addr} {fd : FuncData} {ps ks : List Str} {sp : Sp} {E : XK} {x m : Str} {p pos apos kpos : Pos} {e o : Expr} {es : List Expr} {kws : List Keyword} {te ta : TE} {t tk : TA} {nm : Option Str}
variable {g : List Value → List Value → List Value} {gV : List V → List V → List V}
end
structure FnScope (N P : List Str) (sc : Scope) : Prop where
  kind : sc.kind = .function
  co : sc.isCoroutine = false
  gen : sc.isGenerator = false
  nd : N.Nodup
  pre : N.take P.length = P
  par : ∀ x ∈ P, sc.names.lookup x = some .local ∨ sc.names.lookup x = some .cell
  nofree : ∀ y ∈ sc.names, y.2 ≠ .free
theorem bindL_out {kindOf : Str → Option NameKind} {x : Str} : ∀ {binds : List (Str × Value)} {m : Str → Option Value}, (∀ v, (x, v) ∉ binds) → bindL kindOf binds m x = m x
  | [], _, _ => rfl
  | (n, v) :: r, m, h => by
    unfold bindL
    rw [bindL_out fun w hw => h w (List.mem_cons_of_mem _ hw)]
    split
    · have : x ≠ n := by rintro rfl; exact h v List.mem_cons_self
      simp [this]
    · rfl
theorem bindC_out {kindOf : Str → Option NameKind} {x : Str} : ∀ {binds : List (Str × Value)} {m : Str → Option Value}, (∀ v, (x, v) ∉ binds) → bindC kindOf binds m x = m x
  | [], _, _ => rfl
  | (n, v) :: r, m, h => by
    unfold bindC
    rw [bindC_out fun w hw => h w (List.mem_cons_of_mem _ hw)]
    split
    · rfl
    · have : x ≠ n := by rintro rfl; exact h v List.mem_cons_self
      simp [this]
theorem bindL_get {kindOf : Str → Option NameKind} {x : Str} {v : Value} : ∀ {P : List Str} {vs : List Value} {i : Nat} {m : Str → Option Value}, P.Nodup → P[i]? = some x → vs[i]? = some v → kindOf x = some .local →
    bindL kindOf (P.zip vs) m x = some v
  | [], _, _, _, _, h, _, _ => by simp at h
  | _ :: _, [], _, _, _, _, h, _ => by simp at h
  | p :: P, w :: vs, 0, m, nd, h1, h2, hk => by
    simp at h1 h2; subst h1; subst h2
    show bindL kindOf ((p, w) :: P.zip vs) m p = _
    unfold bindL
    rw [bindL_out fun v hv => (List.nodup_cons.mp nd).1 (List.of_mem_zip hv).1, if_pos hk]
    simp
  | p :: P, w :: vs, i + 1, m, nd, h1, h2, hk => by
    show bindL kindOf ((p, w) :: P.zip vs) m x = _
    unfold bindL
    exact bindL_get (i := i) (List.nodup_cons.mp nd).2 (by simpa using h1) (by simpa using h2) hk
theorem bindC_get {kindOf : Str → Option NameKind} {x : Str} {v : Value} : ∀ {P : List Str} {vs : List Value} {i : Nat} {m : Str → Option Value}, P.Nodup → P[i]? = some x → vs[i]? = some v → kindOf x ≠ some .local →
    bindC kindOf (P.zip vs) m x = some v
  | [], _, _, _, _, h, _, _ => by simp at h
  | _ :: _, [], _, _, _, _, h, _ => by simp at h
  | p :: P, w :: vs, 0, m, nd, h1, h2, hk => by
    simp at h1 h2; subst h1; subst h2
    show bindC kindOf ((p, w) :: P.zip vs) m p = _
    unfold bindC
    rw [bindC_out fun v hv => (List.nodup_cons.mp nd).1 (List.of_mem_zip hv).1, if_neg hk]
    simp
  | p :: P, w :: vs, i + 1, m, nd, h1, h2, hk => by
    show bindC kindOf ((p, w) :: P.zip vs) m x = _
    unfold bindC
    exact bindC_get (i := i) (List.nodup_cons.mp nd).2 (by simpa using h1) (by simpa using h2) hk
def start (N : List Str) (vs : List V) : St := vs.map some ++ List.replicate (N.length - vs.length) none
def cxOf (CX : CXT) (P : Program) (w : World) (K : PySem.W.Frag) (mg : Str → Option Value) (base : Heap) (N : List Str) (qual : Str) (scope : Scope) (f : Addr) (cd : Value) (A : Around) (outer : List Env) (s : Shared) (H : Hp) (E : XK) : Cx where
  prog := P
  w := w
  K := K
  mg := mg
  base := base
  A := A.deeper (envOfC qual scope s.heap.objs.size f cd)
  N := N
  s₀ := s
  H₀ := H
  env := envOfC qual scope s.heap.objs.size f cd
  outer := outer
  stack := envOfC qual scope s.heap.objs.size f cd :: outer
  ex := []
  calm := true
  fn := fun _ => true
  pn := []
  xe := fun e s' => wpAny (model P w) (A.deeper (envOfC qual scope s.heap.objs.size f cd)) (leaving (envOfC qual scope s.heap.objs.size f cd) e) (fun _ s'' => CX outer H s E e s'') (fun e' s'' => CX outer H s E e' s'') s'
theorem cell_has {sc : Scope} {n : Nat} {x : Str} (h : sc.names.lookup x = some .cell) : ∃ c, (cellsFrom n sc.names []).lookup x = some c := by
  have q := PySem.W.cellsFrom_some sc.names n [] (.inl h)
  exact Option.isSome_iff_exists.mp q
theorem inv_start {CX : CXT} {P : Program} {w : World} {K : PySem.W.Frag} {mg : Str → Option Value} {base : Heap} {N ps : List Str} {qual : Str} {scope : Scope} {f : Addr} {cd : Value} {A : Around} {outer : List Env} {s s1 : Shared} {H : Hp} {E : XK} {us : List Value} {vs : List V}
    (S : FnScope N ps scope) (hd : A.handled = none) (e0 : Env0 P w K mg base A outer s H) (hl : vs.length = ps.length) (r : Vals vs us)
    (x : InCallC s s.heap.objs.size (bindL (envOfC qual scope s.heap.objs.size f cd).kindOf (ps.zip us) fun _ => none) (cellsFrom (s.heap.objs.size + 1) scope.names []) (bindC (envOfC qual scope s.heap.objs.size f cd).kindOf (ps.zip us) fun _ => none) s1) :
    Inv (cxOf CX P w K mg base N qual scope f cd A outer s H E) [] (start N vs) H s1 := by
  have hpl : ps.length ≤ N.length := by have := congrArg List.length S.pre; rw [List.length_take] at this; omega
  obtain ⟨h1, tk, rfl, hk⟩ := x.done
  have noA : ∀ b : Addr, b ∉ (cxOf CX P w K mg base N qual scope f cd A outer s H E).ex := fun b z => absurd (show b ∈ ([] : List Addr) from z) (by simp)
  refine ⟨⟨e0.mod, S.kind, rfl, rfl, Nat.le_refl _, fun y z c h1 h2 => ?_, fun y hy => ?_, fun y c _ h => ?_, fun _ => hd, Around.frames_deeper e0.frames, .inr ⟨rfl, rfl⟩, fun b z => absurd z (noA b), e0.bs, e0.bsz, fun b _ _ => noA b, fun b z => absurd z (noA b), e0.funs, e0.frf⟩,
    rfl, e0.bare, Un.kept hk, ⟨_, x.toInCall.ns, fun i y v h1 h2 h3 => ?_⟩, fun y c h => ⟨_, x.cell y c h⟩, e0.hok.fresh (Nat.le_refl _), fun y c h => ?_, fun p hp => absurd (show p ∈ ([] : List (Addr × Obj)) from hp) (by simp), e0.hok.kept hk, ?_⟩
  · exact name_of_addr x.apart (PySem.mem_of_lookup h1) (PySem.mem_of_lookup h2)
  · have hy : scope.names.lookup y = some .cell ∨ scope.names.lookup y = some .free := hy
    rcases hy with hy | hy
    · exact cell_has hy
    · exact absurd rfl (S.nofree _ (PySem.mem_of_lookup hy))
  · exact Nat.le_of_lt (x.above y c (PySem.mem_of_lookup h))
  · have hi : i < vs.length := by
      unfold start at h2
      by_cases hi : i < vs.length
      · exact hi
      · rw [List.getElem?_append_right (by simpa using hi)] at h2
        rw [List.getElem?_replicate] at h2
        split at h2 <;> cases h2
    have ha : vs[i]? = some v := by
      unfold start at h2
      rw [List.getElem?_append_left (by simpa using hi), List.getElem?_map] at h2
      cases e : vs[i]? with
      | none => rw [e] at h2; cases h2
      | some a => rw [e] at h2; cases h2; rfl
    obtain ⟨u, hu, rv⟩ := r.get ha
    have hp : ps[i]? = some y := by
      rw [← S.pre, List.getElem?_take_of_lt (by omega)]; exact h1
    have ndP : ps.Nodup := by rw [← S.pre]; exact S.nd.sublist (List.take_sublist _ _)
    refine ⟨u, rv, ?_⟩
    rcases S.par y (List.mem_of_getElem? hp) with k | k
    · exact .inl ⟨k, bindL_get ndP hp hu k⟩
    · obtain ⟨c, e⟩ := cell_has (n := s.heap.objs.size + 1) k
      refine .inr ⟨.inl k, c, e, ?_⟩
      have q := x.cell y c e
      rw [bindC_get ndP hp hu (by show scope.names.lookup y ≠ _; rw [k]; decide)] at q
      exact q
  · exact e0.hok.fresh (Nat.le_of_lt (x.above y c (PySem.mem_of_lookup h)))
  · unfold start
    show _ = N.length
    rw [List.length_append, List.length_map, List.length_replicate]
    omega
theorem fn_of {CX : CXT} {P : Program} {w : World} {K : PySem.W.Frag} {mg : Str → Option Value} {base : Heap} {k : Nat} {f : Addr} {name qual : Str} {params : Arguments} {body : List Stmt} {scope : Scope} {dV kV doc pm cdv ct oc : Value} {an od : Option Addr}
    {osl : Array (Option Value)} {N ps : List Str} {sp : Sp} (lk : K.lookup f = some ⟨oc, od, .func (PySem.W.fnOf name qual params body scope dV kV doc pm an cdv ct), osl⟩) (hcd : PySem.W.codeIn K cdv qual = true) (S : FnScope N ps scope)
    (len : ∀ vs H Q E, sp vs H Q E → vs.length = ps.length)
    (hbody : ∀ (A : Around) (outer : List Env) (s : Shared) (H : Hp) (vs : List V) (Q : VK) (E : XK), Room k (A.deeper (envOfC qual scope s.heap.objs.size f cdv)) → sp vs H Q E →
      ∃ t, PSs (cxOf CX P w K mg base N qual scope f cdv A outer s H E) body t ∧ t { nx := fun _ H' => Q .non H', rt := Q } (start N vs) H) :
    FnOk P w K mg base CX (k + 1) f (PySem.W.fnOf name qual params body scope dV kV doc pm an cdv ct) ps sp := by
  refine ⟨len, fun A outer s H args us vs Q E hr e0 hb r hsp => ?_⟩
  have hl := len _ _ _ _ hsp
  have KX : K.In s.heap := e0.mod.kin.keeps fun b o e => (e0.bs b o e).1
  have lim : s.heap.NoLimit := e0.mod.nolimit.keeps fun b o e => (e0.bs b o e).1
  have hkind : ∀ y ∈ ps.zip us, scope.names.lookup y.1 = some .local ∨ (scope.names.lookup y.1 = some .cell ∧ ((cellsFrom (s.heap.objs.size + 1) scope.names []).lookup y.1).isSome = true) := fun ⟨n, v⟩ hy => by
    rcases S.par n (List.of_mem_zip hy).1 with q | q
    · exact .inl q
    · exact .inr ⟨q, PySem.W.cellsFrom_some _ _ _ (.inl q)⟩
  refine codeAny_call_function hr.depth (KX _ _ lk) rfl S.co S.gen rfl (PySem.W.codeRec_of KX hcd) (hb _ _ _ _ ?_)
  refine wpAny_newFunctionEnv_cells S.kind hkind fun env he s1 x => ?_
  subst he
  refine ⟨lim.keeps x.toInCall.keep, codeAny_func ?_⟩
  obtain ⟨t, ht, hq⟩ := hbody A outer s H vs Q E (hr.deeper _) hsp
  have I : Inv (cxOf CX P w K mg base N qual scope f cdv A outer s H E) [] (start N vs) H s1 := inv_start S hr.hd e0 hl r x
  refine wpAny_mono (ht [] s1 (start N vs) H _ I hq) (fun fl s' hs => ?_) fun e s' hs => hs
  have fin : ∀ {σ' : St} {H' : Hp} {v : V} {u : Value}, Inv (cxOf CX P w K mg base N qual scope f cdv A outer s H E) [] σ' H' s' → RelV v u → Q v H' → CE outer P w H s Q u s' :=
    fun {σ' H' v u} J rv q => ⟨v, H', J.os, J.bare, J.base, J.hok, rv, q⟩
  cases fl with
  | ret u =>
    obtain ⟨v, σ', H', J, rv, q⟩ := hs
    exact fin J rv q
  | next =>
    obtain ⟨σ', H', J, q⟩ := hs
    exact fin (v := V.non) (u := Value.none) J rfl q
  | brk =>
    obtain ⟨_, _, _, q⟩ := hs
    exact False.elim q
  | cont =>
    obtain ⟨_, _, _, q⟩ := hs
    exact False.elim q
end L2
namespace L2
open PySem PySem.Spec PyProof.Rows
section
variable {X : Cx} {x : Str} {p pos : Pos} {e : Expr} {es : List Expr} {t : TA} {id T : String} {r : List V → Hp → VK → Prop}
def tCB (r : List V → Hp → VK → Prop) (t : TA) : TE := fun σ H Q => t σ H fun vs H1 => r vs H1 Q
theorem pe_callB (hc : CallR X (.builtin id) r) (hg : Gl X x) (hm : X.mg x = none) (hv : bootBuiltins x = some (.builtin id)) (ha : PA X (e :: es) t) (hn : x ≠ "__name__" := by decide) (hdb : (x == ("__debug__" : Str)) = false := by decide)
    (he : starEach (e :: es) X.env = (false, eval e X.env) :: starEach es X.env := by rfl) (hpl : (backTo pos (starEach es X.env)).any (·.1) = false := by rfl) : PE X (.Call (.Name x p) (e :: es) [] pos) (tCB r t) := by
  intro pins s σ H Q I h
  refine wpAny_Call_Name_kw (ld_blt I hg hm hv ?_ hn hdb)
  refine PyProof.Rows.callWith_builtin1 (thn (ha pos pins s σ H _ I h) fun us s1 hm0 => ?_) he hpl
  obtain ⟨vs, H1, I1, r1, q1⟩ := hm0
  exact hc pins s1 σ H1 vs us Q I1 r1 q1
theorem pe_callTy (hc : CallR X (.type T) r) (hg : Gl X x) (hm : X.mg x = none) (hv : bootBuiltins x = some (.type T)) (ha : PA X (e :: es) t) (hn : x ≠ "__name__" := by decide) (hdb : (x == ("__debug__" : Str)) = false := by decide)
    (he : starEach (e :: es) X.env = (false, eval e X.env) :: starEach es X.env := by rfl) (hpl : (backTo pos (starEach es X.env)).any (·.1) = false := by rfl) : PE X (.Call (.Name x p) (e :: es) [] pos) (tCB r t) := by
  intro pins s σ H Q I h
  refine wpAny_Call_Name_kw (ld_blt I hg hm hv ?_ hn hdb)
  refine PyProof.Rows.callWith_type1 (thn (ha pos pins s σ H _ I h) fun us s1 hm0 => ?_) he hpl
  obtain ⟨vs, H1, I1, r1, q1⟩ := hm0
  exact hc pins s1 σ H1 vs us Q I1 r1 q1
end
end L2
namespace HT
open PySem PyProof.Rows
section
open PySem.SeqAt
open PySem.AutoSeq1 (wpAny_loadPart')
open PySem.MeetsSeq PySem.MeetsSeq2 PySem.MeetsSeq3
end
section
variable {prog : Program} {w : World} {A : Around} {E : Value → Shared → Prop} {s : Shared}
def sIx (n d : Nat) : Option Int → Nat
  | none => d
  | some v => if v < 0 then (v + (n : Int)).toNat else min v.toNat n
theorem sIx_none (n d : Nat) : sIx n d none = d := rfl
theorem sIx_nat (n d k : Nat) : sIx n d (some (k : Int)) = min k n := by
  show (if (k : Int) < 0 then ((k : Int) + (n : Int)).toNat else min (k : Int).toNat n) = min k n
  rw [if_neg (by omega), Int.toNat_natCast]
end
end HT
namespace L2
open PySem PySem.Spec PyProof.Rows
abbrev TO := St → Hp → (Option Int → Hp → Prop) → Prop
def PO (X : Cx) (e : Option Expr) (t : TO) : Prop :=
  ∀ (pins : List (Addr × Obj)) (s : Shared) (σ : St) (H : Hp) (Q : Option Int → Hp → Prop), Inv X pins σ H s → t σ H Q →
    wpAny (model X.prog X.w) X.A (evalPart e X.env) (fun u s' => ∃ o H', Inv X pins σ H' s' ∧ IsPart u o ∧ Q o H') X.xe s
def tNoPart : TO := fun _ H Q => Q none H
def tPart (t : TE) : TO := fun σ H Q => t σ H fun x H1 => ∃ i, x = .int i ∧ Q (some i) H1
theorem intsAre_of {ns : List Int} : ∀ {us : List Value}, Vals (ns.map V.int) us → IntsAre us ns := by
  induction ns with
  | nil => intro us r; rw [List.map_nil] at r; cases r; exact .nil
  | cons n ns ih =>
    intro us r
    rw [List.map_cons] at r
    cases r with
    | cons r1 r2 =>
      obtain ⟨t, e⟩ := r1
      subst e
      exact .cons n t (ih r2)
section
variable {X : Cx} {e : Expr} {te : TE} {lo hi : Option Expr} {tl th : TO} {pos p2 : Pos}
theorem po_none : PO X none tNoPart := by
  intro pins s σ H Q I h
  rw [evalPart_none]
  exact wpAny_pure ⟨none, H, I, .none, h⟩
theorem po_some (h : PE X e te) : PO X (some e) (tPart te) := by
  intro pins s σ H Q I hw
  rw [evalPart_some]
  refine thn (h pins s σ H _ I hw) fun u s1 hm0 => ?_
  obtain ⟨x, H1, I1, r1, q1⟩ := hm0
  obtain ⟨i, rfl, q⟩ := q1
  obtain ⟨t, rfl⟩ := r1
  exact ⟨some i, H1, I1, .int i t, q⟩
def SlR (X : Cx) (r : V → Option Int → Option Int → Hp → VK → Prop) : Prop :=
  ∀ (pins : List (Addr × Obj)) (s : Shared) (σ : St) (H : Hp) (x : V) (v vl vu : Value) (lo hi : Option Int) (sl : Addr) (Q : VK), Inv X pins σ H s → RelV x v → s.heap.IsSliceOf sl vl vu .none → IsPart vl lo → IsPart vu hi → r x lo hi H Q →
    ∃ T id, typeLookup (.type T) "__getitem__" = pure (some (.builtin id)) ∧ s.TypeIs v T ∧ wpAny (model X.prog X.w) X.A (getItem v (.ref sl)) (EP X pins σ Q) X.xe s
def tSl (r : V → Option Int → Option Int → Hp → VK → Prop) (te : TE) (tl th : TO) : TE := fun σ H Q => te σ H fun x H1 => tl σ H1 fun l H2 => th σ H2 fun u H3 => r x l u H3 Q
theorem pe_slice {r : V → Option Int → Option Int → Hp → VK → Prop} (hr : SlR X r) (he : PE X e te) (hl : PO X lo tl) (hu : PO X hi th) : PE X (.Subscript e (.Slice lo hi none p2) pos) (tSl r te tl th) := by
  intro pins s σ H Q I h
  refine Subscript_ (thn (he pins s σ H _ I h) fun v s1 hm0 => ?_)
  obtain ⟨x, H1, I1, r1, q1⟩ := hm0
  refine wpAny_Slice (thn (hl pins s1 σ H1 _ I1 q1) fun vl s2 hm0 => ?_)
  obtain ⟨l, H2, I2, pl, q2⟩ := hm0
  refine thn (hu pins s2 σ H2 _ I2 q2) fun vu s3 hm1 => ?_
  obtain ⟨u, H3, I3, pu, q3⟩ := hm1
  rw [evalPart_none]
  refine wpAny_pure ?_
  have I4 : Inv X pins σ H3 { s3 with heap := s3.heap.push { cls := .type "slice", data := .fields #[vl, vu, .none] } } := I3.kept (t' := s3.toks) fun b ob q => Heap.get?_push_of_some _ q
  obtain ⟨T, id, hT, ht, hg⟩ := hr pins { s3 with heap := s3.heap.push { cls := .type "slice", data := .fields #[vl, vu, .none] } } σ H3 x v vl vu l u s3.heap.objs.size Q I4 r1 (Heap.IsSliceOf.new ..) pl pu q3
  show wpAny (model X.prog X.w) X.A (subscriptTail e (.Slice lo hi none p2) v (.ref s3.heap.objs.size)) (EP X pins σ Q) X.xe { s3 with heap := s3.heap.push { cls := .type "slice", data := .fields #[vl, vu, .none] } }
  exact tail_any (ops := [.ref s3.heap.objs.size, v]) ht hT hg (by with_unfolding_all rfl)
def cutV (xs : List V) (lo hi : Option Int) : List V := (xs.drop (HT.sIx xs.length 0 lo)).take (HT.sIx xs.length xs.length hi - HT.sIx xs.length 0 lo)
theorem cutV_length (xs : List V) (lo hi : Option Int) : (cutV xs lo hi).length ≤ xs.length := by
  unfold cutV
  rw [List.length_take, List.length_drop]
  omega
end
end L2
namespace L2
open PySem PySem.Spec PyProof.Rows
def ixN (n : Nat) (i : Int) : Option Nat := if 0 ≤ i then (if i < n then some i.toNat else none) else if -(n : Int) ≤ i then some (i + n).toNat else none
def atI {α : Type} (xs : List α) (i : Int) : Option α := (ixN xs.length i).bind fun j => xs[j]?
theorem ixN_seq {n : Nat} {i : Int} {j : Nat} (h : ixN n i = some j) : seqIndex? i n = some j ∧ j < n ∧ -(n : Int) ≤ i ∧ i < n := by
  unfold ixN at h
  by_cases h0 : 0 ≤ i
  · rw [if_pos h0] at h
    by_cases h1 : i < n
    · rw [if_pos h1] at h
      have e : i.toNat = j := Option.some.inj h
      exact ⟨by rw [seqIndex_of h0 h1, e], by omega, by omega, h1⟩
    · rw [if_neg h1] at h; cases h
  · rw [if_neg h0] at h
    by_cases h1 : -(n : Int) ≤ i
    · rw [if_pos h1] at h
      have e : (i + n).toNat = j := Option.some.inj h
      exact ⟨by rw [seqIndex_neg (by omega) h1, e], by omega, h1, by omega⟩
    · rw [if_neg h1] at h; cases h
theorem atI_get {α : Type} {xs : List α} {i : Int} {v : α} (h : atI xs i = some v) : ∃ j, seqIndex? i xs.length = some j ∧ xs[j]? = some v ∧ j < xs.length ∧ -(xs.length : Int) ≤ i ∧ i < xs.length := by
  unfold atI at h
  cases e : ixN xs.length i with
  | none => rw [e] at h; cases h
  | some j =>
    rw [e] at h
    obtain ⟨h1, h2, h3, h4⟩ := ixN_seq e
    exact ⟨j, h1, h, h2, h3, h4⟩
theorem atI_nat {α : Type} {xs : List α} {j : Nat} {v : α} (h : xs[j]? = some v) : atI xs (j : Int) = some v := by
  have hj : j < xs.length := (List.getElem?_eq_some_iff.mp h).1
  have e : ixN xs.length (j : Int) = some j := by
    unfold ixN
    rw [if_pos (by omega), if_pos (by omega)]; simp
  unfold atI; rw [e]; exact h
def PlainIx (b : Expr) : Prop := ∀ o i, subscripted b false o i = operate [o, i] (getItem o i)
def IxR (X : Cx) (r : R2) : Prop :=
  ∀ (value slice : Expr) (pins : List (Addr × Obj)) (s : Shared) (σ : St) (H : Hp) (x y : V) (v u : Value) (Q : VK), Inv X pins σ H s → RelV x v → RelV y u → r x y H Q →
    subscripted slice false v u = operate [v, u] (getItem v u) → wpAny (model X.prog X.w) X.A (subscriptTail value slice v u) (EP X pins σ Q) X.xe s
def MtR (X : Cx) (id : String) (r : V → List V → Hp → VK → Prop) : Prop :=
  ∀ (pins : List (Addr × Obj)) (s : Shared) (σ : St) (H : Hp) (x : V) (xs : List V) (v : Value) (us : List Value) (Q : VK), Inv X pins σ H s → RelV x v → Vals xs us → r x xs H Q →
    wpAny (model X.prog X.w) X.A (call (.builtin id) (v :: us)) (EP X pins σ Q) X.xe s
section
variable {X : Cx} {a b : Expr} {ta tb : TE} {pos : Pos}
theorem pe_ix {r : R2} (hr : IxR X r) (ha : PE X a ta) (hb : PE X b tb) (hs : PlainIx b) : PE X (.Subscript a b pos) (tOp r ta tb) := by
  intro pins s σ H Q I h
  exact Subscript_ (binT ha hb I h fun v u s2 x y H2 I2 rx ry q => hr a b pins s2 σ H2 x y v u Q I2 rx ry q (hs _ _))
def rIxL (K : PySem.W.Frag) : R2 := fun x y H Q => ∃ p xs i v, x = .ref p ∧ y = .int i ∧ SqL K H p xs ∧ atI xs i = some v ∧ Q v H
def rIxT (K : PySem.W.Frag) : R2 := fun x y H Q => ∃ p xs i v, x = .ref p ∧ y = .int i ∧ SqT K H p xs ∧ atI xs i = some v ∧ Q v H
def rIxS : R2 := fun x y H Q => ∃ z i c, x = .str z ∧ y = .int i ∧ z.length ≤ sizeLine ∧ atI z.cps.toList i = some c ∧ Q (.str ⟨#[c]⟩) H
theorem ix_list : IxR X (rIxL X.K) := by
  intro value slice pins s σ H x y v u Q I rx ry h hs
  obtain ⟨p, xs, i, z, rfl, rfl, hq, he, q⟩ := h
  cases rx
  obtain ⟨t, rfl⟩ := ry
  obtain ⟨its, r, pl, hz⟩ := I.list hq
  obtain ⟨j, h1, h2, h3, h4, h5⟩ := atI_get he
  obtain ⟨w, ew, rw'⟩ := r.get h2
  have hl := r.length
  have hn := line63
  have fin : EP X pins σ Q w s := ⟨z, H, I, rw', q⟩
  by_cases h0 : 0 ≤ i
  · have hj : i.toNat = j := by
      rw [seqIndex_of h0 h5] at h1
      exact Option.some.inj h1
    exact item_listR pl.isList h0 (by omega) (by rw [hj]; simpa using ew) fin hs
  · have hj : (i + (its.toArray.size : Int)).toNat = j := by
      rw [seqIndex_neg (by omega) h4] at h1
      rw [List.size_toArray, ← hl]
      exact Option.some.inj h1
    exact subscriptTail_builtinR (x := w) pl.isList.typeIs slot_list_getitem.lookup
      (wpAny_getItem_list_neg (Q := fun r s' => r = w ∧ EP X pins σ Q r s') pl.isList (by omega) (by rw [List.size_toArray] <;> omega) (by omega) (by rw [hj]; simpa using ew) ⟨rfl, fin⟩) hs
theorem ix_tup : IxR X (rIxT X.K) := by
  intro value slice pins s σ H x y v u Q I rx ry h hs
  obtain ⟨p, xs, i, z, rfl, rfl, hq, he, q⟩ := h
  cases rx
  obtain ⟨t, rfl⟩ := ry
  obtain ⟨its, r, pl, hz⟩ := I.tuple hq
  obtain ⟨j, h1, h2, h3, h4, h5⟩ := atI_get he
  obtain ⟨w, ew, rw'⟩ := r.get h2
  have hl := r.length
  have hn := line63
  have fin : EP X pins σ Q w s := ⟨z, H, I, rw', q⟩
  exact subscriptTail_builtinR (x := w) pl.typeIs slot_tuple_getitem.lookup
    (getItem_tuple (j := j) (Q := fun r s' => r = w ∧ EP X pins σ Q r s') pl (by omega) (by omega) (by rw [List.size_toArray, ← hl]; exact h1) (by simpa using ew) ⟨rfl, fin⟩) hs
theorem ix_str : IxR X rIxS := by
  intro value slice pins s σ H x y v u Q I rx ry h hs
  obtain ⟨z, i, c, rfl, rfl, hz, he, q⟩ := h
  obtain ⟨t, rfl⟩ := rx
  obtain ⟨t', rfl⟩ := ry
  obtain ⟨j, h1, h2, h3, h4, h5⟩ := atI_get he
  have hl : z.cps.toList.length = z.length := by simp [Str.length]
  rw [hl] at h1 h4 h5
  have hn := line63
  exact tail_any (typeIs_str s z t) slot_str_getitem.lookup (getItem_str (c := c) (by
    have e1 : decide (i < -(2 ^ 63 : Int)) = false := decide_eq_false (by omega)
    have e2 : decide (i ≥ 2 ^ 63) = false := decide_eq_false (by omega)
    rw [e1, e2, Bool.or_false]) (by rw [h1]; simpa using h2) ⟨.str ⟨#[c]⟩, H, I.tok _, ⟨_, rfl⟩, q⟩) hs
theorem mapSeq_set (its : List Value) (n j : Nat) (u : Value) : Obj.mapSeq (·.setIfInBounds j u) { cls := .type "list", data := .seq its.toArray n } = { cls := .type "list", data := .seq (its.set j u).toArray n } := by
  simp [Obj.mapSeq]
theorem Inv.lst {pins : List (Addr × Obj)} {σ : St} {H : Hp} {s : Shared} {p : Addr} {xs : List V} (I : Inv X pins σ H s) (h : H p = some (.lst xs)) :
    ∃ (its : List Value) (n : Nat), Vals xs its ∧ s.heap.get? p = some { cls := .type "list", data := .seq its.toArray n } ∧ xs.length ≤ sizeLine := by
  obtain ⟨z, its, n, r, e⟩ := I.hok p _ h
  exact ⟨its, n, r, e, z⟩
theorem Inv.lstUpd {pins : List (Addr × Obj)} {σ : St} {H : Hp} {s : Shared} {p : Addr} {xs ys : List V} {its its' : List Value} {n n' : Nat} {f : Obj → Obj} (I : Inv X pins σ H s) (h : H p = some (.lst xs))
    (ho : s.heap.get? p = some { cls := .type "list", data := .seq its.toArray n }) (hf : f { cls := .type "list", data := .seq its.toArray n } = { cls := .type "list", data := .seq its'.toArray n' }) (r : Vals ys its') (hz : ys.length ≤ sizeLine) (t : Nat) :
    Inv X pins σ (upd H p (.lst ys)) { s with heap := s.heap.update p f, toks := t } := by
  have e : (s.heap.update p f).get? p = some { cls := .type "list", data := .seq its'.toArray n' } := by
    rw [Heap.get?_update_self f ho (by rw [hf] <;> rfl), hf]
  refine I.write (x := p) (e := p) (by rw [h]; trivial) (.inl rfl) (fun b u hb q => (Heap.get?_update_other _ _ (Ne.symm hb)).trans q) ⟨_, e⟩ ?_
  exact ⟨hz, its', n', r, e⟩
def rSetL : V → V → V → Hp → (Hp → Prop) → Prop := fun o i v H Q => ∃ p xs k j, o = .ref p ∧ i = .int k ∧ H p = some (.lst xs) ∧ ixN xs.length k = some j ∧ Q (upd H p (.lst (xs.set j v)))
theorem set_list : PSet X rSetL := by
  intro pins s σ H o i v ov iv u Q I ro ri rv h
  obtain ⟨p, xs, k, j, rfl, rfl, hp, hj, q⟩ := h
  cases ro
  obtain ⟨t, rfl⟩ := ri
  obtain ⟨its, n, r, ho, hz⟩ := I.lst hp
  obtain ⟨h1, h2, h3, h4⟩ := ixN_seq hj
  have hl := r.length
  have hn := line63
  have I' : Inv X pins σ (upd H p (.lst (xs.set j v))) { s with heap := s.heap.update p (Obj.mapSeq (·.setIfInBounds j u)) } :=
    I.lstUpd hp ho (mapSeq_set its n j u) (r.set rv j) (by rw [List.length_set]; exact hz) s.toks
  by_cases h0 : 0 ≤ k
  · have hk : k.toNat = j := by
      rw [seqIndex_of h0 h4] at h1
      exact Option.some.inj h1
    exact PySem.W.ki_setAt ho h0 (by omega) (by rw [List.size_toArray, ← hl]; exact h4) (by rw [hk]; exact ⟨_, I', q⟩)
  · have hk : (k + (its.toArray.size : Int)).toNat = j := by
      rw [seqIndex_neg (by omega) h3] at h1
      rw [List.size_toArray, ← hl]
      exact Option.some.inj h1
    exact PySem.W.ki_setBack ho (by omega) (by rw [List.size_toArray, ← hl]; exact h3) (by omega) (by rw [hk]; exact ⟨_, I', q⟩)
theorem slice_bounds (lo hi : Option Int) (n : Nat) : (sliceBounds lo hi none n).1 = ((HT.sIx n 0 lo : Nat) : Int) ∧ (sliceBounds lo hi none n).2.1 = ((HT.sIx n n hi : Nat) : Int) ∧ (sliceBounds lo hi none n).2.2 = 1 := by
  refine ⟨?_, ?_, rfl⟩
  · cases lo with
    | none => simp [sliceBounds, HT.sIx]
    | some i =>
      simp only [sliceBounds, HT.sIx, Option.getD_none, show (1 : Int) > 0 by decide, if_true]
      by_cases h : i < 0
      · simp only [h, if_true] <;> omega
      · simp only [h, if_false] <;> omega
  · cases hi with
    | none => simp [sliceBounds, HT.sIx]
    | some i =>
      simp only [sliceBounds, HT.sIx, Option.getD_none, show (1 : Int) > 0 by decide, if_true]
      by_cases h : i < 0
      · simp only [h, if_true] <;> omega
      · simp only [h, if_false] <;> omega
theorem slicePick_cut (its : List Value) (lo hi : Option Int) : slicePick its.toArray lo hi none = ((its.drop (HT.sIx its.length 0 lo)).take (HT.sIx its.length its.length hi - HT.sIx its.length 0 lo)).toArray := by
  obtain ⟨h1, h2, h3⟩ := slice_bounds lo hi its.toArray.size
  unfold slicePick
  rw [h1, h2, h3]
  simp only [sliceRange_one, pick_run, List.size_toArray] <;> rfl
def rSlL (K : PySem.W.Frag) : V → Option Int → Option Int → Hp → VK → Prop := fun x lo hi H Q => ∃ a xs, x = .ref a ∧ SqL K H a xs ∧ ∀ p, H p = none → Q (.ref p) (upd H p (.lst (cutV xs lo hi)))
theorem sl_list : SlR X (rSlL X.K) := by
  intro pins s σ H x v vl vu lo hi sl Q I rx hs pl pu h
  obtain ⟨a, xs, rfl, hx, q⟩ := h
  cases rx
  obtain ⟨its, r, ht, hz⟩ := I.list hx
  have hlen := r.length
  refine ⟨"list", _, slot_list_getitem.lookup, ht.isList.typeIs, ?_⟩
  refine wpAny_getItem_list_slice ht.isList hs pl pu .none (by simp) ?_ (by rw [List.size_toArray] <;> omega)
  rw [slicePick_cut, ← hlen]
  refine ⟨.ref s.heap.objs.size, _, I.laid (t' := s.toks) (o := .lst (cutV xs lo hi)) (fun b ob q => Heap.get?_push_of_some _ q) (Nat.le_refl _) ?_, rfl, q _ (I.hok.fresh (Nat.le_refl _))⟩
  exact ⟨Nat.le_trans (cutV_length xs lo hi) hz, _, 0, (r.drop (HT.sIx xs.length 0 lo)).take (HT.sIx xs.length xs.length hi - HT.sIx xs.length 0 lo), Heap.get?_push_size _ rfl⟩
def flatV : V → Bool
  | .non => true
  | .bl _ => true
  | .int _ => true
  | .str _ => true
  | _ => false
def eqV : V → V → Bool
  | .non, .non => true
  | .bl a, .bl b => a == b
  | .bl a, .int b => (if a then 1 else 0) == b
  | .int a, .bl b => a == (if b then 1 else 0)
  | .int a, .int b => a == b
  | .str a, .str b => a == b
  | _, _ => false
theorem eqAt_V {A : Around} {s : Shared} {y x : V} {u v : Value} (ry : RelV y u) (rx : RelV x v) (fy : flatV y = true) (fx : flatV x = true) : SeqAt.EqAt A s u v (eqV y x) := by
  cases y with
  | non =>
    cases ry
    cases x with
    | non => cases rx; exact SeqAt.EqAt.same _
    | bl b => cases rx; exact SeqAt.EqAt.none_bool b
    | int b => obtain ⟨t, rfl⟩ := rx; exact SeqAt.EqAt.none_int b t
    | str b => obtain ⟨t, rfl⟩ := rx; exact SeqAt.EqAt.none_str b t
    | _ => exact absurd (show false = true from fx) Bool.false_ne_true
  | bl a =>
    cases ry
    cases x with
    | non => cases rx; exact SeqAt.EqAt.bool_none a
    | bl b => cases rx; exact SeqAt.EqAt.bool_bool a b
    | int b => obtain ⟨t, rfl⟩ := rx; exact SeqAt.EqAt.bool_int a b t
    | str b => obtain ⟨t, rfl⟩ := rx; exact SeqAt.EqAt.bool_str a b t
    | _ => exact absurd (show false = true from fx) Bool.false_ne_true
  | int a =>
    obtain ⟨t', rfl⟩ := ry
    cases x with
    | non => cases rx; exact SeqAt.EqAt.int_none a t'
    | bl b => cases rx; exact SeqAt.EqAt.int_bool a t' b
    | int b => obtain ⟨t, rfl⟩ := rx; exact SeqAt.EqAt.int_int a t' b t
    | str b => obtain ⟨t, rfl⟩ := rx; exact SeqAt.EqAt.int_str a t' b t
    | _ => exact absurd (show false = true from fx) Bool.false_ne_true
  | str a =>
    obtain ⟨t', rfl⟩ := ry
    cases x with
    | non => cases rx; exact SeqAt.EqAt.str_none a t'
    | bl b => cases rx; exact SeqAt.EqAt.str_bool a t' b
    | int b => obtain ⟨t, rfl⟩ := rx; exact SeqAt.EqAt.str_int a t' b t
    | str b => obtain ⟨t, rfl⟩ := rx; exact SeqAt.EqAt.str_str a t' b t
    | _ => exact absurd (show false = true from fx) Bool.false_ne_true
  | _ => exact absurd (show false = true from fy) Bool.false_ne_true
def eqU (x : V) (u : Value) : Bool := match u with
  | .none => eqV .non x
  | .bool b => eqV (.bl b) x
  | .int i _ => eqV (.int i) x
  | .str z _ => eqV (.str z) x
  | _ => false
theorem eqU_of {x y : V} {u : Value} (r : RelV y u) (f : flatV y = true) : eqU x u = eqV y x := by
  cases y with
  | non => cases r; rfl
  | bl b => cases r; rfl
  | int i => obtain ⟨t, rfl⟩ := r; rfl
  | str z => obtain ⟨t, rfl⟩ := r; rfl
  | _ => exact absurd (show false = true from f) Bool.false_ne_true
theorem any_eqU {x : V} : ∀ {xs : List V} {us : List Value}, Vals xs us → xs.all flatV = true → us.any (eqU x) = xs.any fun y => eqV y x
  | _, _, .nil, _ => rfl
  | y :: xs, u :: us, .cons r t, f => by
    rw [List.all_cons, Bool.and_eq_true] at f
    rw [List.any_cons, List.any_cons, eqU_of r f.1, any_eqU t f.2]
theorem mem_eqAt {A : Around} {s : Shared} {x : V} {v : Value} (rx : RelV x v) (fx : flatV x = true) : ∀ {xs : List V} {us : List Value}, Vals xs us → xs.all flatV = true → ∀ u ∈ us, SeqAt.EqAt A s u v (eqU x u)
  | _, _, .nil, _ => fun u hu => by cases hu
  | y :: xs, u :: us, .cons r t, f => fun u' hu => by
    rw [List.all_cons, Bool.and_eq_true] at f
    rcases List.mem_cons.mp hu with rfl | hu
    · rw [eqU_of r f.1]; exact eqAt_V r rx f.1 fx
    · exact mem_eqAt rx fx t f.2 u' hu
def inV (x : V) (xs : List V) : Bool := xs.any fun y => eqV y x
def rIn (K : PySem.W.Frag) (neg : Bool) : R2 := fun x y H Q => ∃ p xs, y = .ref p ∧ (SqL K H p xs ∨ SqT K H p xs) ∧ flatV x = true ∧ xs.all flatV = true ∧ Q (.bl (if neg then !inV x xs else inV x xs)) H
theorem op_notIn_seq : OpR X (compareOp .NotIn) (rIn X.K true) := by
  intro pins s σ H x y v u Q I rx ry h
  obtain ⟨p, xs, rfl, hq, fx, fs, q⟩ := h
  cases ry
  rcases hq with hq | hq
  · obtain ⟨its, r, pl, hz⟩ := I.list hq
    refine SeqAt.notIn_listAt (eqU x) pl.isList (fun w hw => mem_eqAt rx fx r fs w (by simpa using hw)) ⟨.bl _, H, I, rfl, ?_⟩
    rw [show its.toArray.any (eqU x) = its.any (eqU x) by simp, any_eqU r fs]
    exact q
  · obtain ⟨its, r, pl, hz⟩ := I.tuple hq
    refine SeqAt.notIn_tupleAt (eqU x) pl (fun w hw => mem_eqAt rx fx r fs w (by simpa using hw)) ⟨.bl _, H, I, rfl, ?_⟩
    rw [show its.toArray.any (eqU x) = its.any (eqU x) by simp, any_eqU r fs]
    exact q
theorem call_len_seq : CallR X (.builtin "len") (fun xs H Q => ∃ p ys, xs = [.ref p] ∧ (SqL X.K H p ys ∨ SqT X.K H p ys) ∧ Q (.int ys.length) H) := by
  intro pins s σ H xs us Q I r h
  obtain ⟨p, ys, rfl, hq, q⟩ := h
  obtain ⟨u, rfl, rx⟩ := vals1 r
  cases rx
  have hn := line63
  rcases hq with hq | hq
  · obtain ⟨its, r', pl, hz⟩ := I.list hq
    have hlen := r'.length
    exact Calls.call_len_list pl.isList (by simp only [List.size_toArray] <;> omega) ⟨.int ys.length, H, I.tok _, ⟨s.toks + 1, by rw [List.size_toArray, hlen]⟩, q⟩
  · obtain ⟨its, r', pl, hz⟩ := I.tuple hq
    have hlen := r'.length
    exact len_tuple pl (by simp only [List.size_toArray] <;> omega) ⟨.int ys.length, H, I.tok _, ⟨s.toks + 1, by rw [List.size_toArray, hlen]⟩, q⟩
theorem call_len_str : CallR X (.builtin "len") (fun xs H Q => ∃ z, xs = [.str z] ∧ z.length ≤ sizeLine ∧ Q (.int z.length) H) := by
  intro pins s σ H xs us Q I r h
  obtain ⟨z, rfl, hz, q⟩ := h
  obtain ⟨u, rfl, t, rfl⟩ := vals1 r
  have hn := line63
  exact len_str (by omega) ⟨.int z.length, H, I.tok _, ⟨_, rfl⟩, q⟩
def tyV (K : PySem.W.Frag) (T : String) (x : V) (H : Hp) : Prop := match x with
  | .str _ => T = "str"
  | .int _ => T = "int"
  | .ref p => (T = "list" ∧ ∃ xs, SqL K H p xs) ∨ (T = "tuple" ∧ ∃ o, K.lookup p = some o ∧ o.cls = .type "tuple" ∧ o.dict = none) ∨
      (T = "dict" ∧ ((∃ kvs, H p = some (.dK kvs)) ∨ ∃ kvs, H p = some (.dT kvs))) ∨ (T = "set" ∧ ∃ S n, H p = some (.set S n))
  | _ => False
theorem tyV_is {pins : List (Addr × Obj)} {σ : St} {H : Hp} {s : Shared} {T : String} {x : V} {v : Value} (I : Inv X pins σ H s) (r : RelV x v) (ty : tyV X.K T x H) :
    s.TypeIs v T ∧ ∀ a, v = .ref a → ∃ ob, s.heap.get? a = some ob ∧ ob.dict = none := by
  cases x with
  | str z =>
    obtain ⟨t, rfl⟩ := r
    cases (show T = "str" from ty)
    exact ⟨typeIs_str s z t, fun _ e => nomatch e⟩
  | int i =>
    obtain ⟨t, rfl⟩ := r
    cases (show T = "int" from ty)
    exact ⟨typeIs_int s i t, fun _ e => nomatch e⟩
  | ref p =>
    cases r
    rcases ty with ⟨rfl, xs, hq⟩ | ⟨rfl, o, hk, hc, hd⟩ | ⟨rfl, hk⟩ | ⟨rfl, S, n, hk⟩
    · obtain ⟨its, _, pl, _⟩ := I.list hq
      refine ⟨pl.isList.typeIs, fun a e => ?_⟩
      cases e
      obtain ⟨o, n, e, c, hd, _⟩ := pl
      exact ⟨o, e, hd⟩
    · refine ⟨⟨o, I.kIn p o hk, hc⟩, fun a e => ?_⟩
      cases e
      exact ⟨o, I.kIn _ o hk, hd⟩
    · have z : ∃ o, s.heap.get? p = some o ∧ o.ExactDict := by
        rcases hk with ⟨kvs, hk⟩ | ⟨kvs, hk⟩
        · obtain ⟨_, _, _, _, o, _, _, e, ex, _⟩ := I.hok p _ hk
          exact ⟨o, e, ex⟩
        · obtain ⟨_, _, _, _, o, _, _, e, ex, _⟩ := I.hok p _ hk
          exact ⟨o, e, ex⟩
      obtain ⟨o, e, ex⟩ := z
      refine ⟨⟨o, e, ex.1⟩, fun a e2 => ?_⟩
      cases e2
      exact ⟨o, e, ex.2.1⟩
    · obtain ⟨o, _, _, _, e, ex, _⟩ := I.hok p _ hk
      refine ⟨⟨o, e, ex.1⟩, fun a e2 => ?_⟩
      cases e2
      exact ⟨o, e, ex.2.1⟩
  | _ => exact False.elim ty
def tBM0 (K : PySem.W.Frag) (T : String) (r : V → List V → Hp → VK → Prop) (to : TE) : TE := fun σ H Q => to σ H fun x H1 => tyV K T x H1 ∧ r x [] H1 Q
def tBM (K : PySem.W.Frag) (T : String) (r : V → List V → Hp → VK → Prop) (to : TE) (t : TA) : TE := fun σ H Q => to σ H fun x H1 => tyV K T x H1 ∧ t σ H1 fun xs H2 => r x xs H2 Q
variable {o e : Expr} {es : List Expr} {to : TE} {t : TA} {name : Str} {apos cpos : Pos} {T id : String} {r : V → List V → Hp → VK → Prop}
theorem pe_bm0 (pa : PlainAttrs T) (slot : Slot T name id) (hty : typeOf (.builtin id) = pure (.type "method_descriptor")) (hm : MtR X id r) (ho : PE X o to)
    (hbase : attributeBase o name X.env (eval o X.env) = eval o X.env := by rfl) (hline : (apos.endLine == cpos.line) = true := by rfl) : PE X (.Call (.Attribute o name apos) [] [] cpos) (tBM0 X.K T r to) := by
  intro pins s σ H Q I h
  refine wpAny_Call_method0_late hbase hline (thn (ho pins s σ H _ I h) fun v s1 hm0 => ?_)
  obtain ⟨x, H1, I1, r1, ty, q1⟩ := hm0
  obtain ⟨h1, h2⟩ := tyV_is I1 r1 ty
  exact ⟨T, id, pa, slot, hty, h1, h2, Calls.callWith_builtin rfl (PySem.evalArgs_none (hm pins s1 σ H1 x [] v [] Q I1 r1 .nil q1))⟩
theorem pe_bm (pa : PlainAttrs T) (slot : Slot T name id) (hty : typeOf (.builtin id) = pure (.type "method_descriptor")) (hm : MtR X id r) (ho : PE X o to) (ha : PA X (e :: es) t)
    (hbase : attributeBase o name X.env (eval o X.env) = eval o X.env := by rfl)
    (hfew : ((backTo cpos (starEach (e :: es) X.env)).all (fun x => !x.1) && (backToKw cpos (keywordEach [] X.env)).all (fun x => x.1.isSome)
      && decide ((e :: es).length + ([] : List Keyword).length + (if ([] : List Keyword).isEmpty then 0 else 1) < 30)) = true := by rfl)
    (hline : (apos.endLine == cpos.line) = true := by rfl) (hs : starEach (e :: es) X.env = (false, eval e X.env) :: starEach es X.env := by rfl) (hplain : (backTo cpos (starEach es X.env)).any (·.1) = false := by rfl) :
    PE X (.Call (.Attribute o name apos) (e :: es) [] cpos) (tBM X.K T r to t) := by
  intro pins s σ H Q I h
  refine wpAny_Call_method_late hbase hfew hline rfl (thn (ho pins s σ H _ I h) fun v s1 hm0 => ?_)
  obtain ⟨x, H1, I1, r1, ty, q1⟩ := hm0
  obtain ⟨h1, h2⟩ := tyV_is I1 r1 ty
  refine ⟨T, id, pa, slot, hty, h1, h2, ?_⟩
  have hA := ha cpos pins s1 σ H1 _ I1 q1
  rw [hs] at hA ⊢
  refine Calls.callWith_builtin (by show (false || (backTo cpos (starEach es X.env)).any (·.1)) = false; rw [hplain] <;> rfl) (Calls.evalArgs_plain ?_)
  refine thn hA fun us s2 hm0 => ?_
  obtain ⟨vs, H2, I2, r2, q2⟩ := hm0
  exact hm pins s2 σ H2 x vs v us Q I2 r1 r2 q2
/- xs.append(e), list.index on a module's tuple .. are MtR facts of 06m -/
end
end L2
namespace L2
open PySem PySem.Spec PyProof.Rows
def MtM (X : Cx) (id : String) (r : V → List V → Hp → VK → Prop) : Prop :=
  ∀ (pins : List (Addr × Obj)) (s : Shared) (σ : St) (H : Hp) (x : V) (xs : List V) (v : Value) (us : List Value) (Q : VK), Inv X pins σ H s → RelV x v → Vals xs us → r x xs H Q →
    wpAny (model X.prog X.w) X.A (call (.builtin id) (v :: us)) (EP X pins σ Q) X.xe s
theorem Vals.one {x : V} {us : List Value} (h : Vals [x] us) : ∃ u, us = [u] ∧ RelV x u := by
  cases h with
  | cons r e => cases e; exact ⟨_, rfl, r⟩
theorem Vals.two {x y : V} {us : List Value} (h : Vals [x, y] us) : ∃ u v, us = [u, v] ∧ RelV x u ∧ RelV y v := by
  cases h with
  | cons r e =>
    obtain ⟨v, e1, q⟩ := Vals.one e
    subst e1
    exact ⟨_, _, rfl, r, q⟩
theorem Vals.zero : ∀ {us : List Value}, Vals [] us → us = []
  | _, .nil => rfl
section
variable {X : Cx} {pins : List (Addr × Obj)} {σ : St} {H : Hp} {s : Shared} {l b : Addr} {xs ys zs : List V}
theorem Inv.lset {its its' : List Value} {n : Nat} {f : Array Value → Array Value} {t' : Nat} (I : Inv X pins σ H s) (hH : H l = some (.lst xs))
    (e : s.heap.get? l = some { cls := .type "list", data := .seq its.toArray n }) (hf : f its.toArray = its'.toArray) (hv : Vals ys its') (hz : ys.length ≤ sizeLine) :
    Inv X pins σ (upd H l (.lst ys)) { s with heap := s.heap.update l (Obj.mapSeq f), toks := t' } := by
  have q := PySem.IsL.update e f
  rw [hf] at q
  refine I.write (x := l) (e := l) (by rw [hH]; exact trivial) (.inl rfl) (fun b' u hb hu => (Heap.get?_update_other s.heap (Obj.mapSeq f) (Ne.symm hb)).trans hu) ⟨_, q⟩ ?_
  exact ⟨hz, its', _, hv, q⟩
theorem Inv.lnew {its : List Value} {t' : Nat} (I : Inv X pins σ H s) (hv : Vals ys its) (hz : ys.length ≤ sizeLine) :
    Inv X pins σ (upd H s.heap.objs.size (.lst ys)) { s with heap := s.heap.push { cls := .type "list", data := .seq its.toArray }, toks := t' } :=
  I.laid (fun _ _ q => Heap.get?_push_of_some _ q) (Nat.le_refl _) ⟨hz, its, 0, hv, Heap.get?_push_size _ rfl⟩
theorem Inv.fresh (I : Inv X pins σ H s) : H s.heap.objs.size = none := I.hok.fresh (Nat.le_refl _)
theorem Inv.lstM (I : Inv X pins σ H s) (hH : H l = some (.lst xs)) : xs.length ≤ sizeLine ∧ ∃ (its : List Value) (n : Nat), Vals xs its ∧ xs.length = its.length ∧ s.heap.get? l = some { cls := .type "list", data := .seq its.toArray n } := by
  obtain ⟨z, its, n, r, e⟩ := I.hok l _ hH
  exact ⟨z, its, n, r, r.length, e⟩
end
section
variable {X : Cx}
def rAppend : V → List V → Hp → VK → Prop := fun x vs H Q => ∃ l xs y, x = .ref l ∧ vs = [y] ∧ H l = some (.lst xs) ∧ xs.length < sizeLine ∧ Q .non (upd H l (.lst (xs ++ [y])))
theorem mt_append : MtM X "list.append" rAppend := by
  intro pins s σ H x vs v us Q I rx rv h
  obtain ⟨l, xs, y, rfl, rfl, hH, hz, q⟩ := h
  cases rx
  obtain ⟨u, rfl, ru⟩ := rv.one
  obtain ⟨z, its, n, r, hl, e⟩ := I.lstM hH
  refine call_meets F.slot_list_append ⟨_, e, rfl⟩ F.entry_list_append (F.args_list_append_2 _ _) (PySem.list_append l its.toArray n u (by rw [List.size_toArray]; omega)) ⟨e, ?_⟩
  refine ⟨.non, _, I.lset (its' := its ++ [u]) hH e (by simp) (r.append (.cons ru .nil)) ?_, rfl, q⟩
  rw [List.length_append, List.length_singleton]
  omega
def rClear : V → List V → Hp → VK → Prop := fun x vs H Q => ∃ l xs, x = .ref l ∧ vs = [] ∧ H l = some (.lst xs) ∧ Q .non (upd H l (.lst []))
theorem mt_clear : MtM X "list.clear" rClear := by
  intro pins s σ H x vs v us Q I rx rv h
  obtain ⟨l, xs, rfl, rfl, hH, q⟩ := h
  cases rx
  have hus := rv.zero
  subst hus
  obtain ⟨z, its, n, r, hl, e⟩ := I.lstM hH
  refine call_meets F.slot_list_clear ⟨_, e, rfl⟩ F.entry_list_clear (F.args_list_clear_1 _) (AutoSeq1.list_clear_list_0 l its.toArray n (by rw [List.size_toArray]; omega)) ⟨e, ?_⟩
  exact ⟨.non, _, I.lset (its' := []) (ys := []) hH e rfl .nil (Nat.zero_le _), rfl, q⟩
def rCat : R2 := fun x y H Q => ∃ l b xs zs, x = .ref l ∧ y = .ref b ∧ H l = some (.lst xs) ∧ H b = some (.lst zs) ∧ xs.length + zs.length ≤ sizeLine ∧ ∀ p, H p = none → Q (.ref p) (upd H p (.lst (xs ++ zs)))
theorem op_cat : OpR X (binaryOp .Add) rCat := by
  intro pins s σ H x y v u Q I rx ry h
  obtain ⟨l, b, xs, zs, rfl, rfl, hH, hB, hz, q⟩ := h
  cases rx
  cases ry
  obtain ⟨z, its, n, r, hl, e⟩ := I.lstM hH
  obtain ⟨z2, its2, n2, r2, hl2, e2⟩ := I.lstM hB
  refine PySem.P.add_list e e2 ?_ (by rw [List.size_toArray, List.size_toArray]; omega)
  have ea : its.toArray ++ its2.toArray = (its ++ its2).toArray := by simp
  rw [ea]
  exact ⟨.ref _, _, I.lnew (t' := s.toks) (r.append r2) (by rw [List.length_append]; omega), rfl, q _ I.fresh⟩
end
section
variable {prog : Program} {w : World} {A : Around} {E : Value → Shared → Prop} {s : Shared}
set_option maxRecDepth 100000 in
end
section
variable {X : Cx}
end
end L2
namespace L2
open PySem PySem.Spec PyProof.Rows
section
variable {κ : Type} [DecidableEq κ]
def valV (kvs : List (κ × V)) (k : κ) : Option V := (kvs.find? fun kv => decide (kv.1 = k)).map (·.2)
def putK (kvs : List (κ × V)) (k : κ) (v : V) : List (κ × V) :=
  if (kvs.any fun kv => decide (kv.1 = k)) = true then kvs.map (fun kv => if kv.1 = k then (kv.1, v) else kv) else kvs ++ [(k, v)]
theorem valV_pos {p : κ × V} {r : List (κ × V)} {k : κ} (e : p.1 = k) : valV (p :: r) k = some p.2 := by simp [valV, List.find?_cons, e]
theorem valV_neg {p : κ × V} {r : List (κ × V)} {k : κ} (e : ¬ p.1 = k) : valV (p :: r) k = valV r k := by simp [valV, List.find?_cons, e]
theorem length_putK (kvs : List (κ × V)) (k : κ) (v : V) : (putK kvs k v).length ≤ kvs.length + 1 := by
  unfold putK
  split
  · rw [List.length_map]; omega
  · rw [List.length_append, List.length_cons, List.length_nil]; omega
theorem RelO.isSome_eq {o : Option V} {u : Option Value} (r : RelO o u) : o.isSome = u.isSome := by
  cases o with
  | none => cases u with
    | none => rfl
    | some _ => exact (show False from r).elim
  | some _ => cases u with
    | none => exact (show False from r).elim
    | some _ => rfl
theorem KV.val {kvs : List (κ × V)} {vs : List (κ × Value)} (r : KV kvs vs) (k : κ) : RelO (valV kvs k) (valueAt vs k) := by
  unfold KV at r
  induction r with
  | nil => exact True.intro
  | @cons p q ps qs h t ih =>
    obtain ⟨h1, h2⟩ := h
    by_cases e : p.1 = k
    · have e' : q.1 = k := h1.symm.trans e
      have b : valueAt (q :: qs) k = some q.2 := by simp [valueAt, List.find?_cons, e']
      rw [valV_pos e, b]; exact h2
    · have e' : ¬ q.1 = k := fun z => e (h1.trans z)
      have b : valueAt (q :: qs) k = valueAt qs k := by simp [valueAt, List.find?_cons, e']
      rw [valV_neg e, b]; exact ih
theorem KV.any {kvs : List (κ × V)} {vs : List (κ × Value)} (r : KV kvs vs) (k : κ) : (kvs.any fun kv => decide (kv.1 = k)) = vs.any fun kv => decide (kv.1 = k) := by
  unfold KV at r
  induction r with
  | nil => rfl
  | cons h t ih => rw [List.any_cons, List.any_cons, ih, h.1]
theorem KV.repl {kvs : List (κ × V)} {vs : List (κ × Value)} (r : KV kvs vs) (k : κ) {y : V} {u : Value} (ry : RelV y u) :
    KV (kvs.map fun kv => if kv.1 = k then (kv.1, y) else kv) (vs.map fun kv => if kv.1 = k then (kv.1, u) else kv) := by
  unfold KV at r ⊢
  induction r with
  | nil => exact .nil
  | @cons p q ps qs h t ih =>
    rw [List.map_cons, List.map_cons]
    refine .cons ?_ ih
    obtain ⟨h1, h2⟩ := h
    by_cases e : p.1 = k
    · rw [if_pos e, if_pos (h1.symm.trans e)]; exact ⟨h1, ry⟩
    · rw [if_neg e, if_neg (fun z => e (h1.trans z))]; exact ⟨h1, h2⟩
theorem KV.put {kvs : List (κ × V)} {vs : List (κ × Value)} (r : KV kvs vs) (k : κ) {y : V} {u : Value} (ry : RelV y u) : KV (putK kvs k y) (stored vs k u) := by
  unfold putK stored
  rw [r.any k]
  by_cases e : (vs.any fun kv => decide (kv.1 = k)) = true
  · rw [if_pos e, if_pos e]; exact r.repl k ry
  · rw [if_neg e, if_neg e]; exact Paired.snoc r ⟨rfl, ry⟩
theorem KV.length {kvs : List (κ × V)} {vs : List (κ × Value)} (r : KV kvs vs) : kvs.length = vs.length := Paired.length r
end
theorem kV_is {P : Program} {w : World} {k : Key} {u : Value} (r : RelV (kV k) u) : (mixKind P w).is k u = true := by
  cases k with
  | inl i => obtain ⟨t, e⟩ := (show ∃ t, u = Value.int i t from r); subst e; exact mixKind_int P w i t
  | inr x => obtain ⟨t, e⟩ := (show ∃ t, u = Value.str x t from r); subst e; exact mixKind_str P w x t
theorem items_are {P : Program} {w : World} : ∀ {ks : List Key} {us : List Value}, Vals (ks.map kV) us → ItemsAre (mixKind P w) ks us
  | [], _, r => by rw [List.map_nil] at r; cases r; exact .nil
  | k :: ks, _, r => by
    rw [List.map_cons] at r
    cases r with
    | cons h t => exact .cons (kV_is h) (items_are t)
abbrev KT (H : Hp) : List (List Key × V) → List (List Key × Addr × Value) → Prop := Paired fun p q => p.1 = q.1 ∧ H q.2.1 = some (.tup (p.1.map kV)) ∧ RelV p.2 q.2.2
theorem KT.val {H : Hp} {kvs : List (List Key × V)} {xs : List (List Key × Addr × Value)} (r : KT H kvs xs) (k : List Key) : RelO (valV kvs k) ((atKey xs k).map (·.2)) := by
  induction r with
  | nil => exact True.intro
  | @cons p q ps qs h t ih =>
    obtain ⟨h1, _, h2⟩ := h
    by_cases e : p.1 = k
    · have e' : q.1 = k := h1.symm.trans e
      have b : atKey (q :: qs) k = some q.2 := by simp [atKey, List.find?_cons, e']
      rw [valV_pos e, b]; exact h2
    · have e' : ¬ q.1 = k := fun z => e (h1.trans z)
      have b : atKey (q :: qs) k = atKey qs k := by simp [atKey, List.find?_cons, e']
      rw [valV_neg e, b]; exact ih
section
variable {P : Program} {w : World} {H : Hp} {h : Heap} {a : Addr}
theorem rd_of {u : HO} (ok : HOk P w H h) (e : Rd H a u) : ObjOk P w H h a u := e.ok ok
theorem dk_rd {kvs : List (Key × V)} (ok : HOk P w H h) (e : Rd H a (.dK kvs)) : kvs.length ≤ sizeLine ∧ (a == sysModules) = false ∧ ∃ vs, KV kvs vs ∧ h.DictOf (mixKind P w) a vs :=
  show ObjOk P w H h a (.dK kvs) from rd_of ok e
theorem key_of {ks : List Key} (ok : HOk P w H h) (e : H a = some (.tup (ks.map kV))) : (tupleKind (mixKind P w)).is h ks a := by
  obtain ⟨_, its, r, o, h1, h2, n, h3⟩ := (show ObjOk P w H h a (.tup (ks.map kV)) from ok a _ e)
  exact ⟨o, its.toArray, n, h1, h2, h3, by simpa using items_are r⟩
theorem dt_rd {kvs : List (List Key × V)} (ok : HOk P w H h) (e : Rd H a (.dT kvs)) : kvs.length ≤ sizeLine ∧ (a == sysModules) = false ∧
    ∃ xs, KT H kvs xs ∧ h.DictOfH (tupleKind (mixKind P w)) a xs := by
  obtain ⟨z, y, xs, r, o, es, ep, h1, h2, h3, h4, h5⟩ := (show ObjOk P w H h a (.dT kvs) from rd_of ok e)
  refine ⟨z, y, xs, r, o, es, ep, h1, h2, h3, h4, fun x hx => ?_, h5⟩
  have all : ∀ {l : List (List Key × V)} {m : List (List Key × Addr × Value)}, KT H l m → ∀ x ∈ m, (tupleKind (mixKind P w)).is h x.1 x.2.1 := by
    intro l m q
    induction q with
    | nil => intro x hx; exact nomatch hx
    | @cons p q ps qs hq t ih =>
      intro x hx
      rcases List.mem_cons.mp hx with e | hx
      · subst e
        exact key_of ok (by rw [← hq.1]; exact hq.2.1)
      · exact ih x hx
  exact all r x hx
end
def DGet (H : Hp) (a : Addr) (y : V) (r : Option V) : Prop :=
  (∃ kvs k, Rd H a (.dK kvs) ∧ y = kV k ∧ r = valV kvs k) ∨ ∃ kvs k b, Rd H a (.dT kvs) ∧ y = .ref b ∧ H b = some (.tup (k.map kV)) ∧ r = valV kvs k
section
variable {X : Cx} {pins : List (Addr × Obj)} {σ : St} {H : Hp} {s : Shared} {a : Addr} {y v : V} {u r : Value} {o : Option V} {A : Around} {E : Value → Shared → Prop}
theorem Inv.big (I : Inv X pins σ H s) : sysModules < s.heap.objs.size := by
  have h : mainGlobals < s.heap.objs.size := (I.mod.glob.keeps I.bk).lt
  exact Nat.lt_trans (by decide) h
theorem d_getItem {Q : Value → Shared → Prop} (hu : A.units + 1 < cLine) (I : Inv X pins σ H s) (g : DGet H a y (some v)) (ry : RelV y u) (h : ∀ w' s', Inv X pins σ H s' → RelV v w' → Q w' s') :
    wpAny (model X.prog X.w) A (getItem (.ref a) u) Q E s := by
  rcases g with ⟨kvs, k, e, ey, l⟩ | ⟨kvs, k, b, e, ey, eb, l⟩
  · subst ey
    obtain ⟨z, hd, vs, rel, dd⟩ := dk_rd I.hok e
    obtain ⟨w', hw, rw'⟩ := RelO.some_of (v := v) (o := valueAt vs k) (by rw [l]; exact rel.val k)
    exact wpAny_getItem_of (kV_is ry) dd.mapOf hw (h w' _ (I.tok _) rw')
  · subst ey
    cases (show u = Value.ref b from ry)
    obtain ⟨z, hd, xs, rel, dd⟩ := dt_rd I.hok e
    obtain ⟨w', hw, rw'⟩ := RelO.some_of (v := v) (o := (atKey xs k).map (·.2)) (by rw [l]; exact rel.val k)
    obtain ⟨p, hp, hp2⟩ := Option.map_eq_some_iff.mp hw
    refine wpAny_getItem_heap (tupleKind_room_in1 hu) (key_of I.hok eb) dd hp ?_
    rw [hp2]
    exact h w' _ (I.tok _) rw'
theorem d_notIn {Q : Value → Shared → Prop} (hu : A.units + 1 < cLine) (I : Inv X pins σ H s) (g : DGet H a y o) (ry : RelV y u) (h : ∀ s', Inv X pins σ H s' → Q (.bool (!o.isSome)) s') :
    wpAny (model X.prog X.w) A (compareOp .NotIn u (.ref a)) Q E s := by
  rcases g with ⟨kvs, k, e, ey, l⟩ | ⟨kvs, k, b, e, ey, eb, l⟩
  · subst ey
    obtain ⟨z, hd, vs, rel, dd⟩ := dk_rd I.hok e
    refine wpAny_notIn_of (kV_is ry) hd dd.mapOf ?_
    rw [← (rel.val k).isSome_eq, ← l]
    exact h _ (I.tok _)
  · subst ey
    cases (show u = Value.ref b from ry)
    obtain ⟨z, hd, xs, rel, dd⟩ := dt_rd I.hok e
    refine wpAny_notIn_heap (tupleKind_room_in1 hu) (key_of I.hok eb) hd dd ?_
    have q := (rel.val k).isSome_eq
    rw [Option.isSome_map] at q
    rw [← q, ← l]
    exact h _ (I.tok _)
theorem dk_new {P : Program} {w : World} {H' : Hp} {h' : Heap} {kvs : List (Key × V)} {vs : List (Key × Value)} (z : kvs.length ≤ sizeLine) (hd : (a == sysModules) = false) (rel : KV kvs vs) (dd : h'.DictOf (mixKind P w) a vs) :
    ObjOk P w H' h' a (.dK kvs) := ⟨z, hd, vs, rel, dd⟩
end
section
variable {X : Cx} {pins : List (Addr × Obj)} {σ : St} {H : Hp} {s : Shared} {a : Addr} {kvs : List (Key × V)} {k : Key} {u : Value} {A : Around} {E : Value → Shared → Prop}
theorem d_len {Q : Value → Shared → Prop} (I : Inv X pins σ H s) (e : Rd H a (.dK kvs)) (h : ∀ t s', Inv X pins σ H s' → Q (.int kvs.length t) s') : wpAny (model X.prog X.w) A (call (.builtin "len") [.ref a]) Q E s := by
  obtain ⟨z, hd, vs, rel, dd⟩ := dk_rd I.hok e
  refine call_len_dict hd dd (by rw [← rel.length]; rw [sizeLine_eq] at z; omega) ?_
  rw [← rel.length]
  exact h _ _ (I.tok _)
end
def NoSl (i : Expr) : Prop := ∀ ov iv, subscripted i false ov iv = operate [ov, iv] (getItem ov iv)
theorem subD_of {prog : Program} {w : World} {A : Around} {E : Value → Shared → Prop} {s : Shared} {env : Env} {value slice : Expr} {pos : Pos} {T id : String} {Q : Value → Shared → Prop}
    (hl : typeLookup (.type T) "__getitem__" = pure (some (.builtin id))) (hs : NoSl slice)
    (h : wpAny (model prog w) A (eval value env) (fun o s₁ => wpAny (model prog w) A (eval slice env) (fun i s₂ => s₂.TypeIs o T ∧ wpAny (model prog w) A (getItem o i) Q E s₂) E s₁) E s) :
    wpAny (model prog w) A (eval (.Subscript value slice pos) env) Q E s := by
  refine Subscript_ (wpAny_mono h (fun o s₁ h₁ => wpAny_mono h₁ (fun i s₂ h₂ => ?_) fun _ _ x => x) fun _ _ x => x)
  obtain ⟨hT, h₂⟩ := h₂
  unfold subscriptTail
  refine wpAny_bind ?_
  rw [getitemInPython_of_ne hT.not_modules]
  refine wpAny_bind (wpAny_specialOf hT hl ?_)
  have fin : wpAny (model prog w) A (subscripted slice false o i) (fun r s₃ => wpAny (model prog w) A (letTemporaryGo value o r >>= fun _ => pure r) Q E s₃) E s₂ := by
    rw [hs o i]
    exact wpAny_operating (wpAny_mono h₂ (fun r s₃ h₃ => wpAny_bind (wpAny_letTemporaryGo (wpAny_pure h₃))) fun _ _ x => x)
  first
    | exact wpAny_pure (wpAny_bind fin)
    | exact wpAny_bind (wpAny_pure (wpAny_bind fin))
    | exact wpAny_bind fin
theorem dict_typeIs {X : Cx} {pins : List (Addr × Obj)} {σ : St} {H : Hp} {s : Shared} {a : Addr} {y : V} {o : Option V} (I : Inv X pins σ H s) (g : DGet H a y o) : s.TypeIs (.ref a) "dict" := by
  rcases g with ⟨kvs, k, e, _, _⟩ | ⟨kvs, k, b, e, _, _, _⟩
  · obtain ⟨_, _, vs, _, dd⟩ := dk_rd I.hok e
    exact dd.typeIs
  · obtain ⟨_, _, xs, _, dd⟩ := dt_rd I.hok e
    exact dd.typeIs
def tDGet (td ty : TE) : TE := fun σ H Q => td σ H fun x H1 => ty σ H1 fun y H2 => ∃ a v, x = .ref a ∧ DGet H2 a y (some v) ∧ Q v H2
def tDNotIn (ty td : TE) : TE := fun σ H Q => ty σ H fun y H1 => td σ H1 fun x H2 => ∃ a o, x = .ref a ∧ DGet H2 a y o ∧ Q (.bl (!o.isSome)) H2
section
variable {X : Cx} {o i e value : Expr} {pos pos' tpos : Pos} {td ty tv : TE}
theorem pe_dget (hu : X.A.units + 1 < cLine) (ho : PE X o td) (hi : PE X i ty) (hs : NoSl i) : PE X (.Subscript o i pos) (tDGet td ty) := by
  intro pins s σ H Q I h
  refine subD_of PySem.F.slot_dict_getitem.lookup hs (thn (ho pins s σ H _ I h) fun u s1 hm0 => ?_)
  obtain ⟨x, H1, I1, rx, q1⟩ := hm0
  refine thn (hi pins s1 σ H1 _ I1 q1) fun iv s2 hm1 => ?_
  obtain ⟨y, H2, I2, ry, a, v, ex, g, q2⟩ := hm1
  subst ex
  obtain rfl : u = Value.ref a := rx
  exact ⟨dict_typeIs I2 g, d_getItem hu I2 g ry fun w' s3 I3 rw' => ⟨v, H2, I3, rw', q2⟩⟩
theorem pc_dnotin (hu : X.A.units + 1 < cLine) (hi : PE X i ty) (ho : PE X o td) : PC X .NotIn i o (tDNotIn ty td) := by
  intro pins s σ H Q I h
  refine thn (hi pins s σ H _ I h) fun iv s1 hm0 => ?_
  obtain ⟨y, H1, I1, ry, q1⟩ := hm0
  refine thn (ho pins s1 σ H1 _ I1 q1) fun u s2 hm1 => ?_
  obtain ⟨x, H2, I2, rx, a, ov, ex, g, q2⟩ := hm1
  subst ex
  obtain rfl : u = Value.ref a := rx
  exact d_notIn hu I2 g ry fun s3 I3 => ⟨.bl (!ov.isSome), H2, I3, rfl, q2⟩
end
section
variable {X : Cx} {pos : Pos}
end
section
variable {X : Cx} {pins : List (Addr × Obj)} {σ : St} {H : Hp} {s : Shared} {a : Addr} {y d : V} {u r : Value} {o : Option V} {A : Around} {E : Value → Shared → Prop}
end
section
variable {X : Cx} {o e f : Expr} {apos cpos : Pos} {td ty tx : TE}
end
section
variable {X : Cx} {pins : List (Addr × Obj)} {σ : St} {H : Hp} {s : Shared} {a : Addr} {kvs : List (Key × V)} {A : Around} {E : Value → Shared → Prop}
end
section
variable {X : Cx} {pins : List (Addr × Obj)} {σ : St} {H : Hp} {s : Shared} {a : Addr} {y : V} {u : Value} {A : Around} {E : Value → Shared → Prop}
end
end L2
namespace Att
open PySem PySem.W PySem.Calls PyProof.Rows
theorem ints_of_wellAll {P : Params} {h : Heap} : ∀ (ns : List Int) (vs : List Value), WellAll P h vs (ns.map WData.int) → IntsAre vs ns := by
  intro ns
  induction ns with
  | nil =>
    intro vs w
    rw [List.map_nil] at w
    cases w
    exact .nil
  | cons n ns ih =>
    intro vs w
    rw [List.map_cons] at w
    cases w with
    | cons a b =>
      cases a
      exact .cons _ _ (ih _ b)
theorem script_of {l : OpenLaw} {n : Nat} (hn : l.most = some n) {P : Params} {h : Heap} {args : List WData} {vals : List Value}
    (hpre : l.row.toRowW.claim.pre args = true) (hwl : WellAll P h vals args) :
    ∃ a vs ns, vals = [Value.ref a] ∧ args = [WData.list (ns.map WData.int)] ∧ h.get? a = some { cls := .type "list", data := .seq vs.toArray } ∧ IntsAre vs ns ∧ ns.length ≤ n := by
  have hsh : WShape.hasAll [] args [.list .int] = true := (pre_splitW hpre).1
  have hc : l.pre.holds [] { args := args } = true := (pre_splitW hpre).2
  obtain ⟨d, r, rfl, h1, h2⟩ := hasAllW_cons hsh
  obtain rfl := hasAllW_nil h2
  obtain ⟨xs, rfl, h3⟩ := hasW_list h1
  obtain ⟨ns, rfl⟩ := items_int h3
  have hlen : ns.length ≤ n := by
    unfold OpenLaw.pre at hc
    have h4 : (WTm.not (.lt (.lit (.int (n : Int))) (.len (.arg 0)))).holds [] { args := [.list (ns.map .int)] } = true := by
      have h4 := (holds_andW hc).1
      rw [hn] at h4
      exact h4
    have h5 := condW_of h4 (w_not (w_lt w_lit (w_len_list (w_arg rfl))))
    rw [List.length_map] at h5
    refine Nat.le_of_not_lt fun q => ?_
    have q' : (n : Int) < ((ns.length : Nat) : Int) := by omega
    first
      | (rw [decide_eq_true q'] at h5; exact absurd h5 (by decide))
      | (simp at h5; omega)
  cases hwl with
  | cons w1 w2 =>
    cases w2
    cases w1 with
    | list ho hall => exact ⟨_, _, ns, rfl, rfl, ho, ints_of_wellAll ns _ hall, hlen⟩
theorem post_true (l : OpenLaw) (args : List WData) : l.row.toRowW.claim.post args (.bool true) args = true :=
  postW_of (r := l.row.toRowW) (X := (true == true))
    (show WShape.has [] (.bool true) .bool = true by first | rfl | decide | simp [WShape.has, WShape.arms, WShape.armsAll])
    (show (WTm.eq .res (.lit (.bool true))).value [] { args := args, res := some (.bool true), after := args } = some (.bool (true == true)) from w_eq_bool (w_res rfl) w_lit) rfl
theorem attach_call {l : OpenLaw} {n : Nat} {q : Program} {loose : List Str} {XP : (Str → Option Value) → Heap → Prop} {YP : World → Heap → Prop} {d : DefRec}
    (hn : l.most = some n) (hdf : d.params.defaults = [])
    (call : ∀ (w : World) (s₀ s₁ : Shared) (mg mb : Str → Option Value) (fa : Addr) (o : Obj) (pm cd doc : Value) (a : Addr) (vs : List Value) (ns : List Int),
      Ground q loose [] XP w s₀ mg mb s₁.heap → YP w s₁.heap →
      s₁.heap.get? fa = some o → o.data = .func (docDef d.name d.params d.body d.scope pm cd doc) → s₁.heap.CodeRec cd d.name → mg d.name = some (.ref fa) →
      s₁.heap.get? a = some { cls := .type "list", data := .seq vs.toArray } → IntsAre vs ns → ns.length ≤ n → s₁.gens = #[] →
      codeAny (model l.prog w) callerA (.call (.ref fa) ⟨[.ref a], []⟩) (fun r s' => r = .ok (.ret (.bool true)) ∧ OldK s₁.heap s'.heap ∧ s'.os = s₁.os ∧ AllBare s'.gens) s₁) :
    WalkO q loose XP YP l.row.toRowW d [] (fun f vs => PySem.call f vs) := by
  intro w s₀ s₁ mg mb G Y fa o pm cd doc dV kV ho hd hcd hD hmg hg args vals as hpre hlay hrd hwl hlo
  obtain rfl : dV = .none := Dflts.none hD hdf
  obtain rfl : kV = .none := Dflts.noKw hD
  obtain ⟨a, vs, ns, rfl, rfl, hobj, hints, hlen⟩ := script_of hn hpre hwl
  refine enter_call (codeAny_mono (call w s₀ s₁ mg mb fa o pm cd doc a vs ns G Y ho (fd_plain hd) hcd hmg hobj hints hlen hg) fun r s' hq => ?_)
  obtain ⟨rfl, h2, h3, h4⟩ := hq
  exact ⟨.inl ⟨.bool true, .bool true, [], rfl, fun _ => rfl, .bool true, post_true l _, fun _ => ⟨List.Pairwise.nil, fun _ hm => (nomatch hm)⟩⟩, h2, h3, h4⟩
section
variable {prog : Program} {w : World} {A : Around} {E : Value → Shared → Prop} {s : Shared} {K : Frag}
end
end Att
namespace L2
open PySem PySem.Spec PyProof.Rows
theorem vals_ints : ∀ {vs : List Value} {ns : List Int}, IntsAre vs ns → Vals (ns.map V.int) vs
  | _, _, .nil => .nil
  | _, _, .cons n t h => .cons ⟨t, rfl⟩ (vals_ints h)
def Only (H : Hp) : Prop := ∀ b, H b = none ∨ ∃ o xs, H b = some (.frz o (.lst xs))
theorem law_call {P : Program} {w : World} {K : PySem.W.Frag} {mg mb : Str → Option Value} {CX : CXT} {k : Nat} {fa a : Addr} {fd : FuncData} {x : Str} {sp : Sp} {s₁ : Shared} {vs : List Value} {ns : List Int}
    (KX : K.In s₁.heap) (hns : s₁.heap.Ns mainGlobals mg) (hb : s₁.heap.Ns builtinsNs mb) (hbb : ∀ x : Str, x ≠ "__name__" → mb x = bootBuiltins x) (hlim : s₁.heap.NoLimit) (hg : s₁.gens = #[])
    (ha : s₁.heap.get? a = some { cls := .type "list", data := .seq vs.toArray }) (hi : IntsAre vs ns) (hl : ns.length ≤ sizeLine) (hr : Room k callerA)
    (F : ∀ base : Heap, K.In base → base.Ns mainGlobals mg → FnOk P w K mg base CX k fa fd [x] sp) (hbind : ∀ (s : Shared) (u : Value), BindsTo s fd ⟨[u], []⟩ [(x, u)])
    (hsp : ∀ H : Hp, Only H → SqL K H a (ns.map V.int) → sp [.ref a] H (fun v _ => v = .bl true) fun _ _ _ => False)
    (hCX : ∀ H e s', CX [] H s₁ (fun _ _ _ => False) e s' → False) :
    codeAny (model P w) callerA (.call (.ref fa) ⟨[.ref a], []⟩) (fun r s' => r = .ok (.ret (.bool true)) ∧ OldK s₁.heap s'.heap ∧ s'.os = s₁.os ∧ AllBare s'.gens) s₁ := by
  have rv := vals_ints hi
  have lenV := hi.length
  have core : ∀ H : Hp, Only H → SqL K H a (ns.map V.int) → HOk P w H s₁.heap → (∀ b, H b ≠ none → b = a) → (H a ≠ none → K.lookup a = none) →
      codeAny (model P w) callerA (.call (.ref fa) ⟨[.ref a], []⟩) (fun r s' => r = .ok (.ret (.bool true)) ∧ OldK s₁.heap s'.heap ∧ s'.os = s₁.os ∧ AllBare s'.gens) s₁ := by
    intro H hO hS hok hA hK
    have base_of : ∀ {b : Addr} {o : Obj}, s₁.heap.get? b = some o → H b = none → (hidT s₁.heap H).get? b = some o := fun e n => hidT_get e n
    have noA : ∀ {b : Addr} {o : Obj} {es : Array DictEntry} {ep : Nat}, s₁.heap.get? b = some o → o.data = .dict es ep → H b = none := fun {b o es ep} e d => by
      cases q : H b with
      | none => rfl
      | some u =>
        have e' : b = a := hA b (by rw [q]; simp)
        subst e'
        rw [ha] at e; cases e
        have d' : Data.seq vs.toArray _ = Data.dict es ep := d
        cases d'
    have nsK : ∀ {b : Addr} {m : Str → Option Value}, s₁.heap.Ns b m → (hidT s₁.heap H).Ns b m := fun {b m} ⟨o, es, ep, e, d, r⟩ => ⟨o, es, ep, base_of e (noA e d), d, r⟩
    have hKb : K.In (hidT s₁.heap H) := fun b o e => base_of (KX b o e) (by
      cases q : H b with
      | none => rfl
      | some u =>
        have e' : b = a := hA b (by rw [q]; simp)
        subst e'
        rw [hK (by rw [q]; simp)] at e; cases e)
    have hM : Mod K mg (hidT s₁.heap H) := ⟨hKb, nsK hns, ⟨mb, nsK hb, hbb⟩, let ⟨mc, h1, h2⟩ := hlim; ⟨mc, nsK h1, h2⟩⟩
    have e0 : Env0 P w K mg (hidT s₁.heap H) callerA [] s₁ H := ⟨rfl, hM, fun b o e => of_hidT e, Nat.le_of_eq (hidT_size _ _), trivial, fun b hb => absurd (show b ∈ ([] : List Addr) from hb) (by simp), hok, .of_eq hg⟩
    refine codeAny_mono ((F _ hKb (nsK hns)).run callerA [] s₁ H ⟨[.ref a], []⟩ [.ref a] [.ref a] _ _ hr e0 (hbind s₁ (.ref a)) (.cons rfl .nil) (hsp H hO hS)) fun r s' h => ?_
    cases r with
    | error e => exact (hCX H e s' h).elim
    | ok fl =>
      cases fl with
      | next => exact False.elim h
      | brk => exact False.elim h
      | cont => exact False.elim h
      | ret u =>
        obtain ⟨v, H', os, bare, un, hok', r', q⟩ := h
        have q' : v = .bl true := q
        subst q'
        obtain rfl : u = Value.bool true := r'
        refine ⟨rfl, OldK.of_keep fun b o e => ?_, os, bare⟩
        cases q : H b with
        | none => exact un.keep b o e q (by intro z; exact absurd (show b ∈ ([] : List Addr) from z) (by simp)) (by simp)
        | some u =>
          rcases hO b with z | ⟨ob, xs, z⟩
          · rw [q] at z; cases z
          · have z2 := un.frzs b ob _ z
            obtain ⟨e1, _⟩ := hok b _ z
            obtain ⟨e2, _⟩ := hok' b _ z2
            rw [e] at e1; cases e1
            exact e2
  cases hk : K.lookup a with
  | some o =>
    have e := KX a o hk
    rw [ha] at e
    cases e
    refine core (fun _ => none) (fun _ => .inl rfl) (.inr ⟨_, vs.toArray, _, hk, rfl, rfl, rfl, by rw [List.size_toArray, lenV]; exact hl, by simpa using rv⟩) (fun b u z => by have z' : (none : Option HO) = some u := z; cases z') (fun b z => absurd rfl z) fun z => absurd rfl z
  | none =>
    refine core (fun b => if b = a then some (.frz { cls := .type "list", data := .seq vs.toArray } (.lst (ns.map V.int))) else none) (fun b => ?_) (.inl (.inr ⟨{ cls := .type "list", data := .seq vs.toArray }, if_pos rfl⟩)) (fun b u z => ?_) (fun b z => ?_) fun _ => hk
    · by_cases hb : b = a
      · exact .inr ⟨_, _, if_pos hb⟩
      · exact .inl (if_neg hb)
    · by_cases hb : b = a
      · have z' := (if_pos hb).symm.trans z
        cases z'
        subst hb
        exact ⟨ha, by rw [List.length_map]; exact hl, vs, _, rv, ha⟩
      · have z' := (if_neg hb).symm.trans z
        cases z'
    · by_cases hb : b = a
      · exact hb
      · exact absurd (if_neg hb) z
end L2
namespace L2
open PySem PySem.Spec PyProof.Rows
end L2
/- THE LAST THEOREM (shape; LID, My.* are yours):
   My.Adr: a structure of the addresses that your layer names (classes, functions); My.Txt K t: a structure (Prop) of the equations over K;
   My.txt_mk : {K} {implicit addresses ..} (e1 : nsIn K mainGlobals "law" = some (some (.ref f))) (e2 : K.lookup f = some ⟨oc, od, .func (fnOf "law" "law" params body scope dV kV doc pm an cdv ct), sl⟩) (e3 : codeIn K cdv "law" = true) .. : ∃ t, My.Txt K t
set_option maxRecDepth 100000 in
set_option maxHeartbeats 0 in
theorem PySem.Challenge.cw_LID_holds : PySem.Challenge.rw_LID.Holds := by
  w_on; o_law; k_head; (case hw => w_witness2)
  k_fill
  refine L2.walk_of (l := PySem.Challenge.rw_LID) (n := 63) (k := 40) (x := "script") (CX := fun w => ..) (sp := fun _ => My.sp_law) rfl (by decide) rfl ⟨rfl, by decide, by decide⟩ (fun w h Y => PySem.W.kIn_of Y) ?F ?S ?C
  case F =>
    intro w mg fa h KX G hmg
    have T : ∃ t, My.Txt (L2.KOf KX) t := by
      dsimp only [L2.KOf]                          -- K must stand as «<heap const> w.params» for k_is
      refine' My.txt_mk ?e1 ?e2 ?e3 ..
      (case e1 => PySem.W.k_is)                    -- in the order: a name -> its address -> its object -> its parts
      (case e2 => PySem.W.k_is)
      ..
    obtain ⟨t, T⟩ := T
    have e0 := hmg.symm.trans (PySem.W.mg_of KX G T.law)
    cases e0                                       -- fa is the law's own address
    exact ⟨_, fun s u => .of_eq rfl, fun base kb nb => My.law_fn T kb nb⟩     -- if «.of_eq rfl» comes too early: refine' ⟨_, ?b, fun base kb nb => My.law_fn T kb nb⟩; exact fun s u => .of_eq rfl
  case S => exact fun w H a ns hl hO hS => ..
  case C => exact ..
(the tactic k_is has no namespace: write k_is) -/
namespace L2
open PySem PySem.Spec PyProof.Rows
def defArgs (s : Stmt) : Arguments := match s with
  | .FunctionDef _ a _ _ _ _ _ _ _ _ => a
  | _ => { posonlyargs := [], args := [], vararg := none, kwonlyargs := [], kw_defaults := [], kwarg := none, defaults := [] }
def defBody (s : Stmt) : List Stmt := match s with
  | .FunctionDef _ _ b _ _ _ _ _ _ _ => b
  | _ => []
def defScope (s : Stmt) : Scope := match s with
  | .FunctionDef _ _ _ _ _ _ sc _ _ _ => sc
  | _ => { kind := .function, names := [], isGenerator := false, isCoroutine := false }
abbrev CX0 : CXT := fun _ _ _ _ _ _ => False
abbrev E0 : XK := fun _ _ _ => False
theorem pass0 {X : Cx} : Passes CX0 X E0 := fun _ _ _ _ _ _ _ h => h.elim
structure Fun (K : PySem.W.Frag) (x qual : Str) (st : Stmt) (f : Addr) (fd : FuncData) : Prop where
  ex : ∃ (oc : Value) (od : Option Addr) (kV doc pm : Value) (an : Option Addr) (cdv ct : Value) (osl : Array (Option Value)),
    fd = PySem.W.fnOf x qual (defArgs st) (defBody st) (defScope st) .none kV doc pm an cdv ct ∧ K.lookup f = some ⟨oc, od, .func fd, osl⟩ ∧ PySem.W.codeIn K cdv qual = true
  kp : PySem.W.keepIn K (.ref f) = true
section
variable {P : Program} {w : World} {K : PySem.W.Frag} {mg : Str → Option Value} {base : Heap}
theorem Fun.ok {x qual : Str} {st : Stmt} {f : Addr} {fd : FuncData} {N ps : List Str} {k : Nat} {sp : Sp} (F : Fun K x qual st f fd) (S : FnScope N ps (defScope st)) (len : ∀ vs H Q E, sp vs H Q E → vs.length = ps.length)
    (hbody : ∀ (cdv : Value) (A : Around) (outer : List Env) (s : Shared) (H : Hp) (vs : List V) (Q : VK) (E : XK), Room k (A.deeper (envOfC qual (defScope st) s.heap.objs.size f cdv)) → sp vs H Q E →
      ∃ t, PSs (cxOf CX0 P w K mg base N qual (defScope st) f cdv A outer s H E).nox (defBody st) t ∧ t { nx := fun _ H' => Q .non H', rt := Q } (start N vs) H) : FnOk P w K mg base CX0 (k + 1) f fd ps sp := by
  obtain ⟨oc, od, kV, doc, pm, an, cdv, ct, osl, rfl, lk, hcd⟩ := F.ex
  refine fn_of lk hcd S len fun A outer s H vs Q E hr hsp => ?_
  obtain ⟨t, h, q⟩ := hbody cdv A outer s H vs Q E hr hsp
  exact ⟨t, h.nox, q⟩
theorem Fun.binds {x qual : Str} {st : Stmt} {f : Addr} {fd : FuncData} {ps : List Str} (F : Fun K x qual st f fd)
    (h : ∀ (kV doc pm : Value) (an : Option Addr) (cdv ct : Value) (us : List Value), us.length = ps.length → bindArgs (PySem.W.fnOf x qual (defArgs st) (defBody st) (defScope st) .none kV doc pm an cdv ct) ⟨us, []⟩ = pure (ps.zip us)) : Binds K fd ps [] := by
  obtain ⟨oc, od, kV, doc, pm, an, cdv, ct, osl, rfl, lk, hcd⟩ := F.ex
  exact .all (h kV doc pm an cdv ct)
theorem fun_mk {x qual : Str} {st : Stmt} {f : Addr} {oc : Value} {od an : Option Addr} {osl : Array (Option Value)} {kV doc pm cdv ct : Value} (l : K.lookup f = some ⟨oc, od, .func (PySem.W.fnOf x qual (defArgs st) (defBody st) (defScope st) .none kV doc pm an cdv ct), osl⟩)
    (c : PySem.W.codeIn K cdv qual = true) (k : PySem.W.keepIn K (.ref f) = true) : Fun K x qual st f (PySem.W.fnOf x qual (defArgs st) (defBody st) (defScope st) .none kV doc pm an cdv ct) := ⟨⟨oc, od, kV, doc, pm, an, cdv, ct, osl, rfl, l, c⟩, k⟩
end
section
variable {X : Cx}
theorem pv (i : Nat) {x : Str} {pos : Pos} (hN : X.N[i]? = some x := by rfl) (hv : Vis X.env.scope x := by first | exact Or.inl rfl | exact Or.inr (Or.inl rfl) | exact Or.inr (Or.inr rfl)) (hd : (x == ("__debug__" : Str)) = false := by decide)
    (hcd : (x == ("__classdict__" : Str)) = false := by decide) : PE X (.Name x pos) (tVar i) := pe_var hN hv hd hcd
theorem call_lenD : CallR X (.builtin "len") (fun xs H Q => ∃ a kvs, xs = [V.ref a] ∧ H a = some (.dK kvs) ∧ Q (.int kvs.length) H) := by
  intro pins s σ H xs us Q I r h
  obtain ⟨a, kvs, rfl, ha, q⟩ := h
  obtain ⟨u, rfl, ru⟩ := vals1 r
  cases ru
  exact d_len I (.inl ha) fun t s' I' => ⟨.int kvs.length, H, I', ⟨t, rfl⟩, q⟩
end
theorem iteF {A B : Prop} (h : B) : if false = true then A else B := by
  rw [if_neg Bool.false_ne_true]
  exact h
theorem iteT {A B : Prop} (h : A) : if true = true then A else B := by
  rw [if_pos rfl]
  exact h
theorem ite2 {c A B : Prop} [Decidable c] (h1 : c → A) (h2 : ¬ c → B) : if c then A else B := by
  by_cases h : c
  · rw [if_pos h]
    exact h1 h
  · rw [if_neg h]
    exact h2 h
def Same (H H' : Hp) : Prop := ∀ b o, H b = some o → H' b = some o
theorem Same.refl (H : Hp) : Same H H := fun _ _ h => h
theorem Same.trans {H H1 H2 : Hp} (a : Same H H1) (b : Same H1 H2) : Same H H2 := fun c o h => b c o (a c o h)
theorem Same.free {H H' : Hp} (e : Same H H') {l : Addr} (h : H' l = Option.none) : H l = Option.none := by
  cases q : H l with
  | none => rfl
  | some o =>
    rw [e l o q] at h
    cases h
theorem Same.seq {K : PySem.W.Frag} {H H' : Hp} {a : Addr} {xs : List V} (e : Same H H') (h : SqL K H a xs) : SqL K H' a xs := by
  rcases h with (h | ⟨o, h⟩) | h
  · exact .inl (.inl (e _ _ h))
  · exact .inl (.inr ⟨o, e _ _ h⟩)
  · exact .inr h
section
variable {κ : Type} [DecidableEq κ]
end
end L2
set_option Elab.async false
set_option linter.all false
set_option maxRecDepth 100000
set_option maxHeartbeats 4000000
namespace L2
open PySem PySem.Spec PyProof.Rows
theorem clos_aux {env : Env} : ∀ (names : List (Str × NameKind)) (cs : List (Str × Addr)), (∀ x ∈ names, x.2 = .free → ∃ c, env.cells.lookup x.1 = some c) → (∀ x c, cs.lookup x = some c → env.cells.lookup x = some c) →
    ∃ cl : List (Str × Addr), (forIn names cs fun x r => if (x.snd == NameKind.free) = true then (do let a ← cellOf env x.fst; pure (ForInStep.yield ((x.fst, a) :: r)) : Sem (ForInStep (List (Str × Addr)))) else pure (ForInStep.yield r)) = pure cl ∧
      (∀ x c, cl.lookup x = some c → env.cells.lookup x = some c) ∧ ∀ x, ((x, NameKind.free) ∈ names ∨ ∃ c, cs.lookup x = some c) → ∃ c, cl.lookup x = some c
  | [], cs, _, h2 => ⟨cs, rfl, h2, fun x hx => hx.elim (fun z => nomatch z) id⟩
  | (n, k) :: r, cs, h1, h2 => by
    rw [List.forIn_cons]
    by_cases hk : k = .free
    · subst hk
      obtain ⟨c, hc⟩ := h1 (n, .free) List.mem_cons_self rfl
      obtain ⟨cl, e, q1, q2⟩ := clos_aux r ((n, c) :: cs) (fun x hx => h1 x (List.mem_cons_of_mem _ hx)) (fun x d hd => by
        rw [List.lookup_cons] at hd
        split at hd
        · rename_i hx
          cases hd
          have : x = n := by simpa using hx
          subst this; exact hc
        · exact h2 x d hd)
      refine ⟨cl, ?_, q1, fun x hx => q2 x ?_⟩
      · simp only [beq_self_eq_true, if_true]
        rw [show cellOf env n = pure c by unfold cellOf; rw [hc]]
        simp only [pure_bind]
        exact e
      · rcases hx with hx | ⟨d, hd⟩
        · rcases List.mem_cons.mp hx with z | z
          · cases z
            exact .inr ⟨c, by rw [List.lookup_cons]; simp⟩
          · exact .inl z
        · refine .inr ?_
          rw [List.lookup_cons]
          split
          · exact ⟨_, rfl⟩
          · exact ⟨d, hd⟩
    · obtain ⟨cl, e, q1, q2⟩ := clos_aux r cs (fun x hx => h1 x (List.mem_cons_of_mem _ hx)) h2
      have hb : (k == NameKind.free) = false := by simpa using hk
      refine ⟨cl, ?_, q1, fun x hx => q2 x ?_⟩
      · simp only [hb, Bool.false_eq_true, if_false, pure_bind]
        exact e
      · rcases hx with hx | hx
        · rcases List.mem_cons.mp hx with z | z
          · cases z; exact absurd rfl hk
          · exact .inl z
        · exact .inr hx
theorem clos_of {env : Env} {scope : Scope} (h : ∀ x ∈ scope.names, x.2 = .free → ∃ c, env.cells.lookup x.1 = some c) :
    ∃ cl : List (Str × Addr), closureFor scope env = pure cl ∧ (∀ x c, cl.lookup x = some c → env.cells.lookup x = some c) ∧ ∀ x, (x, NameKind.free) ∈ scope.names → ∃ c, cl.lookup x = some c := by
  obtain ⟨cl, e, q1, q2⟩ := clos_aux scope.names [] h (fun x c z => by simp at z)
  refine ⟨cl, ?_, q1, fun x hx => q2 x (.inl hx)⟩
  simp only [closureFor]
  rw [e]
  rfl
theorem comp_loop {prog : Program} {w : World} {A : Around} {R : Result → Shared → Prop} {s : Shared} {elt target iter : Expr} {ifs : List Expr} {scope : Scope} {pos : Pos} {it acc : Value} {env : Env} (I : Nat → Shared → Prop)
    (turn : ∀ n s, I n s → wpAny (model prog w) A (pyNext it) (fun r s₁ => match r with
      | none => R (.ok .next) s₁
      | some v => wpAny (model prog w) A (letOwnedTupleGo target it v) (fun _ s₁' => wpAny (model prog w) A (assign target env v) (fun _ s₂ =>
          wpAny (model prog w) A (forIn ifs true fun c r => if r = true then do let ok ← isTrue c env (eval c env); pure (ForInStep.yield ok) else pure (ForInStep.yield r)) (fun ok s₃ =>
            if ok = true then wpAny (model prog w) A (eval elt env) (fun x s₄ =>
              wpAny (model prog w) A (call (.builtin "list.append") [acc, x]) (fun _ s₅ => ∃ m, m < n ∧ I m s₅) (fun _ _ => False) s₄) (fun _ _ => False) s₃
            else ∃ m, m < n ∧ I m s₃) (fun _ _ => False) s₂) (fun _ _ => False) s₁') (fun _ _ => False) s₁) (fun _ _ => False) s)
    (n : Nat) (h : I n s) :
    codeAny (model prog w) A (.compLoop (.ListComp elt [⟨target, iter, ifs, 0⟩] scope pos) 0 it acc env) R s := by
  refine codeAny_loop rfl I (fun n s hI => ?_) n h
  show wpAny _ A ((compTurn (.ListComp elt [⟨target, iter, ifs, 0⟩] scope pos) 0 it acc env).onRaise (fun x => do noteFrame x env; theTreesLotGoes x)) _ _ s
  refine wpAny_noted ?_
  rw [compTurn_list]
  refine wpAny_bind (wpAny_standAt (wpAny_bind (wpAny_mono (turn n s hI) (fun r s₁ h₁ => ?_) fun _ _ h' => h'.elim)))
  cases r with
  | none => exact wpAny_pure h₁
  | some v =>
    refine wpAny_bind (wpAny_mono h₁ (fun _ s₁' h₁' => ?_) fun _ _ h' => h'.elim)
    refine wpAny_bind (wpAny_mono h₁' (fun _ s₂ h₂ => wpAny_bind (wpAny_mono h₂ (fun ok s₃ h₃ => ?_) fun _ _ h' => h'.elim)) fun _ _ h' => h'.elim)
    cases ok with
    | false => exact wpAny_pure ⟨rfl, h₃⟩
    | true =>
      exact wpAny_bind (wpAny_bind (wpAny_mono h₃ (fun x s₄ h₄ => wpAny_bind (wpAny_mono h₄ (fun _ s₅ h₅ => wpAny_pure (wpAny_pure ⟨rfl, h₅⟩)) fun _ _ h' => h'.elim)) fun _ _ h' => h'.elim))
end L2
set_option maxRecDepth 100000
namespace L2
open PySem PySem.Spec PyProof.Rows
abbrev compCx (X : Cx) (scope : Scope) (N : List Str) (cl : List (Str × Addr)) (C : Addr) (s : Shared) (H : Hp) (ex : List Addr) (pn : List (Addr × Obj)) : Cx where
  prog := X.prog
  w := X.w
  K := X.K
  mg := X.mg
  base := X.base
  A := X.A
  N := N
  s₀ := s
  H₀ := H
  env := compEnvC scope cl C X.env
  outer := X.stack
  stack := X.stack
  ex := ex
  calm := X.calm
  fn := fun _ => false
  pn := pn
  xe := fun _ _ => False
def PTs (X : Cx) (ifs : List Expr) (t : TT) : Prop :=
  ∀ (pins : List (Addr × Obj)) (s : Shared) (σ : St) (H : Hp) (Q : Bool → Hp → Prop), Inv X pins σ H s → t σ H Q →
    wpAny (model X.prog X.w) X.A (forIn ifs true fun c r => if r = true then do let ok ← isTrue c X.env (eval c X.env); pure (ForInStep.yield ok) else pure (ForInStep.yield r)) (TP X pins σ Q) X.xe s
def tYes : TT := fun _ H Q => Q true H
theorem pts_nil {X : Cx} : PTs X [] tYes := fun _ _ _ H _ I h => wpAny_tests_nil ⟨H, I, h⟩
theorem pts_one {X : Cx} {c : Expr} {t : TT} (h : PT X c t) : PTs X [c] t := fun pins s σ H Q I hq => wpAny_tests_one (h pins s σ H Q I hq)
abbrev TTg := V → Hp → (List V → Prop) → Prop
def PTg (X : Cx) (k : Nat) (tg : Expr) (tt : TTg) : Prop :=
  ∀ (pins : List (Addr × Obj)) (s : Shared) (σ : St) (H : Hp) (v : V) (u : Value) (Q : List V → Prop), Inv X pins σ H s → k ≤ σ.length → RelV v u → tt v H Q →
    wpAny (model X.prog X.w) X.A (assign tg X.env u) (fun _ s' => ∃ ws, ws.length = k ∧ Q ws ∧ Inv X pins (ws.map some ++ σ.drop k) H s') X.xe s
def ttName : TTg := fun v _ Q => Q [v]
theorem ptg_name {X : Cx} {x : Str} {pos : Pos} (hN : X.N.Nodup) (hi : X.N[0]? = some x) (hx : X.env.scope.names.lookup x = some .local) : PTg X 1 (.Name x pos) ttName := by
  intro pins s σ H v u Q I hl r h
  refine wpAny_assign_Name (store_ok I hN hi (.inl hx) r (fun s' I' => ⟨[v], rfl, h, ?_⟩) (.inr hx))
  cases σ with
  | nil => simp at hl
  | cons a t => exact I'
end L2
set_option maxRecDepth 100000
set_option maxHeartbeats 400000
namespace L2
open PySem PySem.Spec PyProof.Rows
def ttTup (K : PySem.W.Frag) (n : Nat) : TTg := fun v H Q => ∃ a xs, v = .ref a ∧ SqT K H a xs ∧ xs.length = n ∧ Q xs
theorem set_two {α : Type} (a b : α) : ∀ (σ : List α), 2 ≤ σ.length → (σ.set 0 a).set 1 b = [a, b] ++ σ.drop 2
  | _ :: _ :: _, _ => rfl
theorem len_two {α : Type} : ∀ (xs : List α), xs.length = 2 → ∃ a b, xs = [a, b]
  | [a, b], _ => ⟨a, b, rfl⟩
theorem ptg_tup2 {X : Cx} {x y : Str} {p1 p2 pos : Pos} {k : Nat} (hc : X.calm = true) (hN : X.N.Nodup) (h0 : X.N[0]? = some x) (h1 : X.N[1]? = some y) (hx : X.env.scope.names.lookup x = some .local) (hy : X.env.scope.names.lookup y = some .local) :
    PTg X 2 (.Tuple [.Name x p1, .Name y p2] k pos) (ttTup X.K 2) := by
  have g : PG X (.Tuple [.Name x p1, .Name y p2] k pos) (gTup X.K 2 (gCons (gName 0) (gCons (gName 1) gNil))) := by
    have a1 : PG X (.Name x p1) (gName 0) := pg_name hN h0 (.inl hx) (.inr hx)
    have a2 : PG X (.Name y p2) (gName 1) := pg_name hN h1 (.inl hy) (.inr hy)
    have a3 : PGs X [.Name x p1, .Name y p2] (gCons (gName 0) (gCons (gName 1) gNil)) := pgs_cons a1 (pgs_cons a2 pgs_nil)
    exact pg_tup hc a3
  intro pins s σ H v u Q I hl r h
  obtain ⟨a, xs, rfl, hq, hlen, q⟩ := h
  obtain ⟨x0, x1, e⟩ := len_two xs hlen
  subst e
  have w : gTup X.K 2 (gCons (gName 0) (gCons (gName 1) gNil)) (.ref a) σ H (fun σ' H' => σ' = (σ.set 0 (some x0)).set 1 (some x1) ∧ H' = H) := ⟨a, [x0, x1], rfl, hq, rfl, x0, [x1], rfl, x1, [], rfl, rfl, rfl, rfl⟩
  refine thn (g pins s σ H _ _ _ I r w) ?_
  intro _ s' z
  obtain ⟨σ', H', I', e1, e2⟩ := z
  subst e2
  rw [set_two _ _ _ hl] at e1
  subst e1
  exact ⟨[x0, x1], rfl, q, I'⟩
end L2
set_option Elab.async false
set_option linter.all false
set_option maxRecDepth 100000
set_option maxHeartbeats 1000000
namespace L2
open PySem PySem.Spec PyProof.Rows
theorem HOk.adopt {P : Program} {w : World} {H : Hp} {h : Heap} {a : Addr} {o : HO} (x : HOk P w H h) (hn : H a = none) (new : ObjOk P w (upd H a o) h a o) : HOk P w (upd H a o) h := fun b u e => by
  by_cases hb : b = a
  · subst hb; rw [upd_same] at e; cases e; exact new
  · rw [upd_ne hb] at e
    exact (x b u e).stay (fun c v _ q => q) (fun c q => by rw [upd_ne (ne_of_none q hn)]; exact q) fun c xs q => by rw [upd_ne (ne_of_none q hn)]; exact q
theorem relabel_free {env : Env} {x : Str} : ∀ {names : List (Str × NameKind)}, names.lookup x = some .free →
    (names.map fun (n, k) => if (k == NameKind.free && env.scope.kind == .function && env.kindOf n == some .cell) then (n, NameKind.cell) else (n, k)).lookup x = some .cell ∨
    (names.map fun (n, k) => if (k == NameKind.free && env.scope.kind == .function && env.kindOf n == some .cell) then (n, NameKind.cell) else (n, k)).lookup x = some .free
  | [], h => by simp at h
  | (n, k) :: r, h => by
    have ih := @relabel_free env x r
    show (List.lookup x ((if (k == NameKind.free && env.scope.kind == .function && env.kindOf n == some .cell) = true then (n, NameKind.cell) else (n, k)) :: _) = _) ∨ (List.lookup x ((if (k == NameKind.free && env.scope.kind == .function && env.kindOf n == some .cell) = true then (n, NameKind.cell) else (n, k)) :: _) = _)
    cases hx : x == n with
    | true =>
      simp only [List.lookup_cons, hx] at h
      cases h
      split
      · left; simp [List.lookup_cons, hx]
      · right; simp [List.lookup_cons, hx]
    | false =>
      simp only [List.lookup_cons, hx] at h
      split
      · simp only [List.lookup_cons, hx]; exact ih h
      · simp only [List.lookup_cons, hx]; exact ih h
theorem relabel_back {env : Env} {x : Str} : ∀ {names : List (Str × NameKind)}, (∀ y ∈ names, y.2 ≠ .cell) →
    ((names.map fun (n, k) => if (k == NameKind.free && env.scope.kind == .function && env.kindOf n == some .cell) then (n, NameKind.cell) else (n, k)).lookup x = some .cell ∨
    (names.map fun (n, k) => if (k == NameKind.free && env.scope.kind == .function && env.kindOf n == some .cell) then (n, NameKind.cell) else (n, k)).lookup x = some .free) → (x, NameKind.free) ∈ names
  | [], _, h => by simp at h
  | (n, k) :: r, hc, h => by
    have ih := @relabel_back env x r (fun y hy => hc y (List.mem_cons_of_mem _ hy))
    have hk : k ≠ .cell := hc (n, k) List.mem_cons_self
    have h' : (List.lookup x ((if (k == NameKind.free && env.scope.kind == .function && env.kindOf n == some .cell) = true then (n, NameKind.cell) else (n, k)) :: _) = _) ∨ (List.lookup x ((if (k == NameKind.free && env.scope.kind == .function && env.kindOf n == some .cell) = true then (n, NameKind.cell) else (n, k)) :: _) = _) := h
    cases hx : x == n with
    | true =>
      have e : x = n := by simpa using hx
      subst e
      by_cases hc2 : (k == NameKind.free && env.scope.kind == .function && env.kindOf x == some .cell) = true
      · have : k = .free := by
          have := (Bool.and_eq_true_iff.mp (Bool.and_eq_true_iff.mp hc2).1).1
          simpa using this
        subst this; exact List.mem_cons_self
      · rw [if_neg hc2] at h'
        simp only [List.lookup_cons, hx] at h'
        rcases h' with h' | h'
        · exact absurd (Option.some.inj h') hk
        · cases h'; exact List.mem_cons_self
    | false =>
      refine List.mem_cons_of_mem _ (ih ?_)
      split at h' <;> (simp only [List.lookup_cons, hx] at h'; exact h')
structure CompOk (scope psc : Scope) (N PN : List Str) (k : Nat) (cap : List Nat) : Prop where
  kind : scope.kind = .function
  len : N.length = k + cap.length
  cell : ∀ y ∈ scope.names, y.2 ≠ .cell
  loc : ∀ y ∈ scope.names, y.2 = .local → scope.names.lookup y.1 = some .local
  free : ∀ y ∈ scope.names, y.2 = .free → psc.names.lookup y.1 = some .cell ∨ psc.names.lookup y.1 = some .free
  cap : ∀ j ∈ List.range cap.length, ∃ x i, N[k + j]? = some x ∧ cap[j]? = some i ∧ PN[i]? = some x ∧ scope.names.lookup x = some .free
  free2 : ∀ y ∈ scope.names, y.2 = .free → scope.names.lookup y.1 = some .free
def capS (σ : St) (cap : List Nat) : St := cap.map fun j => (σ[j]?).join
def tComp (wi : TI) (tt : TTg) (tc : TT) (te : TE) (cap : List Nat) : TE := fun σ H Q => wi σ H fun J H1 =>
  ∃ W : Nat → Nat → List V → Hp → Prop, (∃ m, W 0 m [] H1) ∧ ∀ i m ys H2, W i m ys H2 →
    (J.stop i H2 ∧ ys.length ≤ sizeLine ∧ ∀ p, H2 p = none → Q (.ref p) (upd H2 p (.lst ys))) ∨
    (J.go i H2 ∧ ∃ N : List V → Hp → Prop, (∀ ys' H', N ys' H' → ys'.length ≤ sizeLine ∧ ∃ m', m' < m ∧ W (i + 1) m' ys' H') ∧
      ∀ x H3, J.yld i H2 x H3 → tt x H3 fun ws => tc (ws.map some ++ capS σ cap) H3 fun b H4 =>
        if b = true then te (ws.map some ++ capS σ cap) H4 fun y H5 => N (ys ++ [y]) H5 else N ys H4)
structure Blk (X : Cx) (pins : List (Addr × Obj)) (H : Hp) (s : Shared) (C : Addr) : Prop where
  ns : ∃ m, s.heap.Ns C m
  un : H C = none
  ne : C ≠ X.env.locals
  new : X.s₀.heap.objs.size ≤ C
  cells : ∀ x c, X.env.cells.lookup x = some c → c ≠ C
  pins : ∀ p ∈ X.pn ++ pins, p.1 ≠ C
theorem Blk.turn {X : Cx} {pins : List (Addr × Obj)} {H : Hp} {σ : St} {s : Shared} {C : Addr} {h' : Heap} (B : Blk X pins H s C) (I : Inv X pins σ H s) (hs : Heap.SameBut C s.heap h') : Inv X pins σ H { s with heap := h' } :=
  I.turned (t' := s.toks) (fun b o hb e => hs.extBut b o hb e) B.un B.ne (.inr B.new) B.cells B.pins
theorem comp_start {X : Cx} {pins : List (Addr × Obj)} {σ : St} {H : Hp} {s : Shared} {scope : Scope} {N : List Str} {k : Nat} {cap : List Nat} {cl : List (Str × Addr)} {h₁ : Heap} {fp : List Addr} {tk : Nat} (I : Inv X pins σ H s) (S : CompOk scope X.env.scope N X.N k cap)
    (hcl1 : ∀ x c, cl.lookup x = some c → X.env.cells.lookup x = some c) (hcl2 : ∀ x, (x, NameKind.free) ∈ scope.names → ∃ c, cl.lookup x = some c)
    (hf : ∀ b ∈ fp, FpOk X pins H b) (ho : ∀ b ∈ fp, ∃ o, s.heap.get? b = some o)
    {m : Str → Option Value} (hns : h₁.Ns (s.heap.objs.size + 1) m)
    (hsb : ∀ b o, (s.heap.push { cls := .type "list", data := .seq #[] }).get? b = some o → h₁.get? b = some o) :
    Inv (compCx X scope N cl (s.heap.objs.size + 1) { s with heap := s.heap.push { cls := .type "list", data := .seq #[] } } H (s.heap.objs.size :: fp) (X.pn ++ pins))
      [(s.heap.objs.size, { cls := .type "list", data := .seq #[] })] (List.replicate k none ++ capS σ cap) H { s with heap := h₁, toks := tk } := by
  have Ik : Inv X pins σ H { s with heap := s.heap.push { cls := .type "list", data := .seq #[] } } := I.kept (t' := s.toks) fun b o e => Heap.get?_push_of_some _ e
  have hold : ∀ b o, s.heap.get? b = some o → h₁.get? b = some o := fun b o e => hsb b o (Heap.get?_push_of_some _ e)
  have ltD : ∀ {b o}, s.heap.get? b = some o → b < s.heap.objs.size := fun e => Heap.lt_size e
  have sizeP : (s.heap.push { cls := .type "list", data := .seq #[] }).objs.size = s.heap.objs.size + 1 := Heap.size_push ..
  have nD : H s.heap.objs.size = none := I.fresh
  have nC : H (s.heap.objs.size + 1) = none := I.hok.fresh (Nat.le_succ _)
  have cellLt : ∀ x c, X.env.cells.lookup x = some c → c < s.heap.objs.size := fun x c e => by
    obtain ⟨v, q⟩ := I.cell x c e
    exact q.lt
  have stkNe : ∀ b, b ≠ X.env.locals → b ∉ X.fs → b ∉ frs X.stack := fun b h1 h2 hb => (List.mem_cons.mp (I.stkSub b hb)).elim h1 h2
  have fpLt : ∀ b ∈ fp, b < s.heap.objs.size := fun b hb => by obtain ⟨o, e⟩ := ho b hb; exact Heap.lt_size e
  have hfn : ∀ {x : Str}, scope.names.lookup x = some .free → (x, NameKind.free) ∈ scope.names := fun e => PySem.mem_of_lookup e
  refine ⟨⟨I.ok.mod, S.kind, I.ok.glob, I.ok.blt, ?_, fun x y c h1 h2 => I.ok.inj x y c (hcl1 x c h1) (hcl1 y c h2), fun x hx => hcl2 x (relabel_back S.cell hx), fun x c z => (by cases z), I.ok.hd, I.ok.frames, .inl rfl, ?_, ?_, ?_, ?_, ?_, Ik.stack, I.stkFree⟩,
    rfl, I.bare, Un.kept hsb, ?_, ?_, nC, fun x c e => I.freeC x c (hcl1 x c e), ?_, I.hok.kept hold, ?_⟩
  · exact Nat.le_of_eq sizeP
  · intro b hb
    rcases List.mem_cons.mp hb with rfl | hb
    · exact ⟨Nat.ne_of_lt (Nat.lt_succ_self _), fun x c e => Nat.ne_of_lt (cellLt x c (hcl1 x c e))⟩
    · exact ⟨Nat.ne_of_lt (Nat.lt_succ_of_lt (fpLt b hb)), fun x c e => (hf b hb).2.2.2.2.1 x c (hcl1 x c e)⟩
  · intro b o e
    obtain ⟨e1, e2⟩ := I.bs b o e
    exact ⟨Heap.get?_push_of_some _ e1, e2⟩
  · show X.base.objs.size ≤ (s.heap.push _).objs.size
    rw [sizeP]
    exact Nat.le_succ_of_le (Nat.le_trans I.ok.bsz I.sz)
  · intro b o e hb
    obtain ⟨e1, e2⟩ := I.bs b o e
    rcases List.mem_cons.mp hb with rfl | hb
    · exact absurd (ltD e1) (Nat.lt_irrefl _)
    · rcases (hf b hb).2.2.2.1 with z | z
      · exact I.ok.noex b o e z
      · exact absurd (Nat.lt_of_lt_of_le (Heap.lt_size (I.ok.bs b o e).1) z) (Nat.lt_irrefl _)
  · intro b hb
    rcases List.mem_cons.mp hb with rfl | hb
    · exact stkNe _ (Nat.ne_of_gt I.lt) (I.nofs (Nat.le_refl _))
    · exact stkNe b (hf b hb).2.1 (hf b hb).2.2.1
  · refine ⟨m, hns, fun i x v h1 h2 h3 => ?_⟩
    have hik : k ≤ i := by
      refine Nat.le_of_not_lt fun hlt => ?_
      rw [List.getElem?_append_left (by simpa using hlt), List.getElem?_replicate] at h2
      split at h2 <;> cases h2
    obtain ⟨j, rfl⟩ := Nat.exists_eq_add_of_le hik
    rw [List.getElem?_append_right (by simp), List.length_replicate, Nat.add_sub_cancel_left] at h2
    have hj : j < cap.length := by
      have := (List.getElem?_eq_some_iff.mp h2).1
      simpa [capS] using this
    obtain ⟨x', i, e1, e2, e3, e4⟩ := S.cap j (List.mem_range.mpr hj)
    rw [show N[k + j]? = some x from h1] at e1
    cases e1
    have h2' : σ[i]? = some (some v) := by
      unfold capS at h2
      rw [List.getElem?_map, e2] at h2
      have h2' : (σ[i]?).join = some v := Option.some.inj h2
      cases q : σ[i]? with
      | none => rw [q] at h2'; cases h2'
      | some z => rw [q] at h2'; exact congrArg some h2'
    have hfm := hfn e4
    have pk := S.free _ hfm rfl
    obtain ⟨m0, _, hl⟩ := I.loc
    obtain ⟨u, r, lk⟩ := hl i x v e3 h2' (pk.elim (fun z => .inr (.inl z)) fun z => .inr (.inr z))
    refine ⟨u, r, ?_⟩
    rcases lk with ⟨kl, _⟩ | ⟨_, c, e, ic⟩
    · rcases pk with z | z
      · have : X.env.scope.names.lookup x = some .local := kl
        rw [z] at this; cases this
      · have : X.env.scope.names.lookup x = some .local := kl
        rw [z] at this; cases this
    · obtain ⟨c', ec⟩ := hcl2 x hfm
      have := hcl1 x c' ec
      rw [e] at this; cases this
      refine .inr ⟨?_, c, ec, ?_⟩
      · exact relabel_free e4
      · obtain ⟨ob, h3, h4⟩ := ic
        exact ⟨ob, hold _ _ h3, h4⟩
  · intro x c e
    obtain ⟨v, ob, h3, h4⟩ := I.cell x c (hcl1 x c e)
    exact ⟨v, ob, hold _ _ h3, h4⟩
  · intro p hp
    rcases List.mem_append.mp hp with hp | hp
    · obtain ⟨e, n, ne, nf, d⟩ := I.pin p hp
      exact ⟨hold _ _ e, n, Nat.ne_of_lt (Nat.lt_succ_of_lt (ltD e)), stkNe _ ne nf, d⟩
    · have : p = (s.heap.objs.size, { cls := .type "list", data := .seq #[] }) := by simpa using hp
      subst this
      refine ⟨hsb _ _ (Heap.get?_push_size _ rfl), nD, Nat.ne_of_lt (Nat.lt_succ_self _), stkNe _ (Nat.ne_of_gt I.lt) (I.nofs (Nat.le_refl _)), fun v z => by cases z⟩
  · show _ = N.length
    rw [S.len]
    simp [capS]
end L2
set_option Elab.async false
set_option linter.all false
set_option maxRecDepth 100000
set_option maxHeartbeats 1000000
namespace L2
open PySem PySem.Spec PyProof.Rows
theorem comp_core {X : Cx} {elt tg iter : Expr} {ifs : List Expr} {scope : Scope} {pos : Pos} {N : List Str} {k : Nat} {cap : List Nat} {wi : TI} {tt : TTg} {tc : TT} {te : TE} {cl : List (Str × Addr)}
    (hc : X.calm = true) (hi : PI X tg iter wi) (hg : ∀ cl C s H ex pn, PTg (compCx X scope N cl C s H ex pn) k tg tt) (ht : ∀ cl C s H ex pn, PTs (compCx X scope N cl C s H ex pn) ifs tc)
    (he : ∀ cl C s H ex pn, PE (compCx X scope N cl C s H ex pn) elt te) (S : CompOk scope X.env.scope N X.N k cap)
    (hcl1 : ∀ x c, cl.lookup x = some c → X.env.cells.lookup x = some c) (hcl2 : ∀ x, (x, NameKind.free) ∈ scope.names → ∃ c, cl.lookup x = some c)
    {pins : List (Addr × Obj)} {s : Shared} {σ : St} {H : Hp} {Q : VK} (I : Inv X pins σ H s) (h : tComp wi tt tc te cap σ H Q) {RR : Value → Addr → Result → Shared → Prop}
    (hRR : ∀ D C s1 H', Inv X pins σ H' s1 → Blk X pins H' s1 C → Q (.ref D) H' → RR (.ref D) C (.ok .next) s1) :
    wpAny (model X.prog X.w) X.A (eval iter X.env) (fun x s₁ => wpAny (model X.prog X.w) X.A (pyIter x) (fun it s₂ => wpAny (model X.prog X.w) X.A (newList []) (fun acc s₃ =>
      wpAny (model X.prog X.w) X.A (newFunctionEnv scope X.env.globals cl [] X.env.qual none .none (some X.env)) (fun cenv s₄ =>
        codeAny (model X.prog X.w) X.A (.compStart (.ListComp elt [⟨tg, iter, ifs, 0⟩] scope pos) 0 it acc { cenv with scope := relabel scope X.env }) (RR acc cenv.locals) s₄) X.xe s₃) X.xe s₂) X.xe s₁) X.xe s := by
  refine thn (hi pins s σ H _ I h) fun v s1 h1 => thn h1 fun itv s2 h2 => ?_
  obtain ⟨it, fp, tn, J, H2, e, I2, T, st2, f2, W, ⟨m0, w0⟩, turn⟩ := h2
  subst e
  refine wpAny_newObj_type (wpAny_newFunctionEnv S.cell (by intro y hy; simp at hy) (fun h₁ hns₁ hsb₁ => ?_) S.kind)
  dsimp only at hns₁ hsb₁ ⊢
  have hP : s2.heap.push { cls := .type "list", dict := none, data := .seq ([] : List Value).toArray } = s2.heap.push { cls := .type "list", data := .seq #[] } := rfl
  rw [hP] at hns₁ hsb₁ ⊢
  have hC : (s2.heap.push { cls := .type "list", data := .seq #[] }).objs.size = s2.heap.objs.size + 1 := Heap.size_push ..
  rw [hC] at hns₁ hsb₁ ⊢
  have hsb : ∀ b o, (s2.heap.push { cls := .type "list", data := .seq #[] }).get? b = some o → h₁.get? b = some o := fun b o e =>
    hsb₁.extBut b o (by have := Heap.lt_size e; rw [hC] at this; exact Nat.ne_of_lt this) (Heap.get?_push_of_some _ e)
  have hob : ∀ b ∈ fp, ∃ o, s2.heap.get? b = some o := fun b hb => by obtain ⟨o, e, _⟩ := T.obj _ _ st2 b hb; exact ⟨o, e⟩
  have IY := comp_start (N := N) (k := k) (cap := cap) (tk := s2.toks + ([] : List (Str × Value)).length) I2 S hcl1 hcl2 f2 hob hns₁ hsb
  generalize hY : compCx X scope N cl (s2.heap.objs.size + 1) { s2 with heap := s2.heap.push { cls := .type "list", data := .seq #[] } } H2 (s2.heap.objs.size :: fp) (X.pn ++ pins) = Y at IY
  have yp : Y.prog = X.prog := by rw [← hY]
  have yw : Y.w = X.w := by rw [← hY]
  have yK : Y.K = X.K := by rw [← hY]
  have yA : Y.A = X.A := by rw [← hY]
  have yc : Y.calm = true := by rw [← hY]; exact hc
  have yl : Y.env.locals = s2.heap.objs.size + 1 := by rw [← hY]; rfl
  have yenv : Y.env = compEnvC scope cl (s2.heap.objs.size + 1) X.env := by rw [← hY]
  have yex : Y.ex = s2.heap.objs.size :: fp := by rw [← hY]
  have yfs : Y.fs = frs X.stack := by rw [← hY]
  have ypn : Y.pn = X.pn ++ pins := by rw [← hY]
  have ycl : Y.env.cells = cl := by rw [← hY]; rfl
  have yxe : Y.xe = fun _ _ => False := by rw [← hY]
  have gT : PTg Y k tg tt := by rw [← hY]; exact hg _ _ _ _ _ _
  have gC : PTs Y ifs tc := by rw [← hY]; exact ht _ _ _ _ _ _
  have gE : PE Y elt te := by rw [← hY]; exact he _ _ _ _ _ _
  have yH : Y.H₀ = H2 := by rw [← hY]
  have ys0 : Y.s₀ = { s2 with heap := s2.heap.push { cls := .type "list", data := .seq #[] } } := by rw [← hY]
  have fpLt : ∀ b ∈ fp, b < s2.heap.objs.size := fun b hb => by obtain ⟨o, e⟩ := hob b hb; exact Heap.lt_size e
  have pinLt : ∀ p ∈ X.pn ++ pins, p.1 < s2.heap.objs.size := fun p hp => Heap.lt_size (I2.pin p hp).1
  have cellLt : ∀ x c, X.env.cells.lookup x = some c → c < s2.heap.objs.size := fun x c e => by
    obtain ⟨v, q⟩ := I2.cell x c e
    exact q.lt
  have stkNe : ∀ b, b ≠ X.env.locals → b ∉ X.fs → b ∉ frs X.stack := fun b h1 h2 hb => (List.mem_cons.mp (I2.stkSub b hb)).elim h1 h2
  have fpY : ∀ {H' : Hp} {pl : List (Addr × Obj)}, (∀ b ∈ fp, H' b = none) → (∀ p ∈ pl, p.1 = s2.heap.objs.size) → ∀ b ∈ fp, FpOk Y pl H' b := fun {H' pl} hn hpl b hb => by
    refine ⟨hn b hb, ?_, ?_, .inl ?_, fun x c e => ?_, fun p hp => ?_⟩
    · rw [yl]; exact Nat.ne_of_lt (Nat.lt_succ_of_lt (fpLt b hb))
    · rw [yfs]; exact stkNe b (f2 b hb).2.1 (f2 b hb).2.2.1
    · rw [yex]; exact List.mem_cons_of_mem _ hb
    · rw [ycl] at e; exact (f2 b hb).2.2.2.2.1 x c (hcl1 x c e)
    · rcases List.mem_append.mp hp with hp | hp
      · rw [ypn] at hp; exact (f2 b hb).2.2.2.2.2 p hp
      · rw [hpl p hp]; exact Nat.ne_of_gt (fpLt b hb)
  have loop : ∀ s₃ : Shared, s₃ = { s2 with heap := h₁, toks := s2.toks + ([] : List (Str × Value)).length } →
      codeAny (model X.prog X.w) X.A (.compLoop (.ListComp elt [⟨tg, iter, ifs, 0⟩] scope pos) 0 (.ref it) (.ref s2.heap.objs.size) (compEnvC scope cl (s2.heap.objs.size + 1) X.env)) (RR (.ref s2.heap.objs.size) (s2.heap.objs.size + 1)) s₃ := by
    rintro s₃ rfl
    refine comp_loop (fun n s' => ∃ i ys its H' c, Inv Y [(s2.heap.objs.size, { cls := .type "list", data := .seq (List.toArray its) c })] (List.replicate k none ++ capS σ cap) H' s' ∧ tn i s'.heap ∧ (∀ b ∈ fp, H' b = none) ∧ Vals ys its ∧ W i n ys H') ?_ m0
      ⟨0, [], [], H2, _, IY, T.keep _ _ _ st2 fun b hb o e => hsb b o (Heap.get?_push_of_some _ e), fun b hb => (f2 b hb).1, .nil, w0⟩
    rintro n s3 ⟨i, ys, its, H3, c3, I3, st3, fr3, rv3, w3⟩
    have onlyD : ∀ p ∈ [(s2.heap.objs.size, ({ cls := .type "list", data := .seq its.toArray c3 } : Obj))], p.1 = s2.heap.objs.size := fun p hp => by
      have : p = (s2.heap.objs.size, { cls := .type "list", data := .seq its.toArray c3 }) := by simpa using hp
      rw [this]
    have pinD : ∀ {pl : List (Addr × Obj)} {σ' : St} {H' : Hp} {s' : Shared}, Inv Y ([(s2.heap.objs.size, ({ cls := .type "list", data := .seq its.toArray c3 } : Obj))] ++ pl) σ' H' s' → s'.heap.get? s2.heap.objs.size = some { cls := .type "list", data := .seq its.toArray c3 } ∧ H' s2.heap.objs.size = none := fun I' => by
      obtain ⟨e, n, _⟩ := I'.pin (s2.heap.objs.size, { cls := .type "list", data := .seq its.toArray c3 }) (List.mem_append_right _ (List.mem_append_left _ (by simp)))
      exact ⟨e, n⟩
    rcases turn i n ys H3 w3 with ⟨stop, hz, qn⟩ | ⟨go, Nx, hNx, step⟩
    · have hd := T.done Y yp yw yK yc i _ s3 _ H3 (fun _ _ => False) I3 (fpY fr3 onlyD) st3 stop
      rw [yA] at hd
      refine thn hd fun r s4 hm0 => ?_
      obtain ⟨hr, I4⟩ := hm0
      subst hr
      obtain ⟨eD, nD⟩ := pinD (pl := []) (by simpa using I4)
      have nC : H3 (s2.heap.objs.size + 1) = none := by have := I4.free; rw [yl] at this; exact this
      obtain ⟨mC, nsC, _⟩ := I4.loc
      rw [yl] at nsC
      have U := I4.base
      rw [yfs, yex, yH, ys0] at U
      have old : ∀ {b o}, s2.heap.get? b = some o → b < s2.heap.objs.size := fun e => Heap.lt_size e
      have Un2 : Un (frs X.stack) (s2.heap.objs.size :: fp) H2 (upd H3 s2.heap.objs.size (.lst ys)) s2.heap s4.heap :=
        ⟨fun b o e n hb hx => U.keep b o (Heap.get?_push_of_some _ e) n hb hx, fun b o e n hb hx => U.slot b o (Heap.get?_push_of_some _ e) n hb hx,
          fun b o e n hx => by rw [upd_ne (Nat.ne_of_lt (old e))]; exact U.free b o (Heap.get?_push_of_some _ e) n hx, fun b o e hx => U.there b o (Heap.get?_push_of_some _ e) hx,
          fun b xs e => by have q := U.tups b xs e; rw [upd_ne (ne_of_none q nD)]; exact q, fun b o u e => by have q := U.frzs b o u e; rw [upd_ne (ne_of_none q nD)]; exact q,
          fun b ps e => by obtain ⟨mo, q⟩ := U.tbls b ps e; exact ⟨mo, by rw [upd_ne (ne_of_none q nD)]; exact q⟩⟩
      have hok4 := I4.hok
      rw [yp, yw] at hok4
      have IX : Inv X pins σ (upd H3 s2.heap.objs.size (.lst ys)) s4 := by
        refine I2.call' (ch := s2.heap.objs.size :: fp) ?_ Un2 (hok4.adopt nD ⟨hz, its, c3, rv3, eD⟩) I4.bare fun b hb => ?_
        · have := I4.os; rw [ys0] at this; exact this
        · rcases List.mem_cons.mp hb with rfl | hb
          · exact ⟨.inr I2.sz, Nat.ne_of_gt I2.lt, fun x c e => Nat.ne_of_lt (cellLt x c e), fun p hp => Nat.ne_of_lt (pinLt p hp)⟩
          · exact ⟨(f2 b hb).2.2.2.1, (f2 b hb).2.1, (f2 b hb).2.2.2.2.1, (f2 b hb).2.2.2.2.2⟩
      refine hRR _ _ s4 _ IX ⟨⟨mC, nsC⟩, ?_, ?_, Nat.le_succ_of_le I2.sz, fun x c e => Nat.ne_of_lt (Nat.lt_succ_of_lt (cellLt x c e)), fun p hp => Nat.ne_of_lt (Nat.lt_succ_of_lt (pinLt p hp))⟩ (qn _ nD)
      · rw [upd_ne (Nat.succ_ne_self _)]; exact nC
      · exact Nat.ne_of_gt (Nat.lt_succ_of_lt I2.lt)
    · have hd := T.item Y yp yw yK yc i _ s3 _ H3 (fun _ _ => False) I3 (fpY fr3 onlyD) st3 go
      rw [yA] at hd
      refine thn hd fun r s4 hm0 => ?_
      obtain ⟨u, hr, h4⟩ := hm0
      subst hr
      refine thn h4 fun _ s5 hm0 => ?_
      obtain ⟨x, H5, I5, r5, y5, st5, fr5⟩ := hm0
      have I5' := I5.pinned (fpY fr5 onlyD) (T.obj _ _ st5)
      have a5 := gT _ s5 _ H5 x u _ I5' (by simp) r5 (step x H5 y5)
      rw [yp, yw, yA, yxe, yenv] at a5
      refine thn a5 fun _ s6 hm0 => ?_
      obtain ⟨ws, hlw, q6, I6⟩ := hm0
      have dr : (List.replicate k (none : Option V) ++ capS σ cap).drop k = capS σ cap := by
        rw [List.drop_append_of_le_length (by simp)]; simp
      rw [dr] at I6
      have a6 := gC _ s6 _ H5 _ I6 q6
      rw [yp, yw, yA, yxe, yenv] at a6
      refine thn a6 fun ok s7 hm0 => ?_
      obtain ⟨H7, I7, q7⟩ := hm0
      have wk : ∀ (j : Nat) v, (List.replicate k (none : Option V) ++ capS σ cap)[j]? = some (some v) → (ws.map some ++ capS σ cap)[j]? = some (some v) := fun j v e => by
        have hik : k ≤ j := by
          refine Nat.le_of_not_lt fun hlt => ?_
          rw [List.getElem?_append_left (by simpa using hlt), List.getElem?_replicate] at e
          split at e <;> cases e
        rw [List.getElem?_append_right (by simpa using hik), List.length_replicate] at e
        rw [List.getElem?_append_right (by simpa [hlw] using hik), List.length_map, hlw]
        exact e
      have wl : (List.replicate k (none : Option V) ++ capS σ cap).length = (ws.map some ++ capS σ cap).length := by simp [hlw]
      have stn : ∀ {H' : Hp} {s' : Shared}, Inv Y ([(s2.heap.objs.size, ({ cls := .type "list", data := .seq its.toArray c3 } : Obj))] ++ pinsAt fp s5.heap) (ws.map some ++ capS σ cap) H' s' → tn (i + 1) s'.heap ∧ ∀ b ∈ fp, H' b = none := fun {H' s'} I' => by
        refine ⟨T.keep _ _ _ st5 fun b hb o e => (I'.pin (b, o) (List.mem_append_right _ (List.mem_append_right _ (mem_pinsAt hb e)))).1, fun b hb => ?_⟩
        obtain ⟨o, e, d⟩ := T.obj _ _ st5 b hb
        exact (I'.pin (b, o) (List.mem_append_right _ (List.mem_append_right _ (mem_pinsAt hb e)))).2.1
      cases ok with
      | false =>
        obtain ⟨_, m', hm, w'⟩ := hNx _ _ q7
        obtain ⟨t7, f7⟩ := stn I7
        exact ⟨m', hm, i + 1, ys, its, H7, c3, (I7.weak wl wk).unpinned, t7, f7, rv3, w'⟩
      | true =>
        have a7 := gE _ s7 _ H7 _ I7 q7
        rw [yp, yw, yA, yxe, yenv] at a7
        rw [if_pos rfl]
        refine thn a7 fun yv s8 hm0 => ?_
        obtain ⟨y, H8, I8, r8, q8⟩ := hm0
        obtain ⟨hz8, m', hm, w'⟩ := hNx _ _ q8
        rw [List.length_append, List.length_singleton] at hz8
        obtain ⟨eD, nD⟩ := pinD I8
        obtain ⟨t8, f8⟩ := stn I8
        refine wpAny_list_append_plain (hsz := by rw [List.size_toArray, ← rv3.length]; omega) ⟨c3, eD⟩ fun h9 pl9 sb9 => ?_
        obtain ⟨c9, e9⟩ := pl9
        have I8' : Inv Y [] (List.replicate k none ++ capS σ cap) H8 s8 := (I8.weak wl wk).pins_of fun p hp => by cases hp
        have I9 : Inv Y [] (List.replicate k none ++ capS σ cap) H8 { s8 with heap := h9 } :=
          I8'.turned (t' := s8.toks) (it := s2.heap.objs.size) (fun b o hb e => sb9.extBut b o hb e) nD (by rw [yl]; exact Nat.ne_of_lt (Nat.lt_succ_self _)) (.inl (by rw [yex]; exact List.mem_cons_self)) (fun x c e => by rw [ycl] at e; exact Nat.ne_of_lt (cellLt x c (hcl1 x c e)))
            fun p hp => by
              rw [List.append_nil, ypn] at hp
              exact Nat.ne_of_lt (pinLt p hp)
        have e9' : h9.get? s2.heap.objs.size = some { cls := .type "list", data := .seq (its ++ [yv]).toArray c9 } := by rw [e9]; simp
        refine ⟨m', hm, i + 1, ys ++ [y], its ++ [yv], H8, c9, I9.pins_of fun p hp => ?_, T.keep _ _ _ t8 fun b hb o e => sb9.extBut b o (Nat.ne_of_lt (fpLt b hb)) e, f8, rv3.append (.cons r8 .nil), w'⟩
        have : p = (s2.heap.objs.size, { cls := .type "list", data := .seq (its ++ [yv]).toArray c9 }) := by simpa using hp
        subst this
        refine ⟨e9', nD, ?_, ?_, fun v z => by cases z⟩
        · rw [yl]; exact Nat.ne_of_lt (Nat.lt_succ_self _)
        · rw [yfs]; exact stkNe _ (Nat.ne_of_gt I2.lt) (I2.nofs (Nat.le_refl _))
  exact codeAny_compStart_list (loop _ rfl) (T.self _ 0 _ _ _ (T.keep _ _ _ st2 fun b hb o e => hsb b o (Heap.get?_push_of_some _ e)) (loop _ rfl))
section
variable {X : Cx} {elt tg iter : Expr} {ifs : List Expr} {scope : Scope} {pos : Pos} {N : List Str} {k : Nat} {cap : List Nat} {wi : TI} {tt : TTg} {tc : TT} {te : TE}
theorem pe_comp (hc : X.calm = true) (S : CompOk scope X.env.scope N X.N k cap) (hi : PI X tg iter wi) (hg : ∀ cl C s H ex pn, PTg (compCx X scope N cl C s H ex pn) k tg tt) (ht : ∀ cl C s H ex pn, PTs (compCx X scope N cl C s H ex pn) ifs tc)
    (he : ∀ cl C s H ex pn, PE (compCx X scope N cl C s H ex pn) elt te) (hs : ∀ x, foldedSetIterable iter X.env x = pure x := by intro _; rfl) :
    PE X (.ListComp elt [⟨tg, iter, ifs, 0⟩] scope pos) (tComp wi tt tc te cap) := by
  intro pins s σ H Q I h
  obtain ⟨cl, hclos, hcl1, hcl2⟩ := clos_of (scope := scope) (env := X.env) fun y hy hf => I.ok.has y.1 (S.free y hy hf)
  rw [eval_ListComp]
  refine wpAny_comprehension_free (use := none) rfl hs hclos S.kind S.loc ?_
  refine comp_core hc hi hg ht he S hcl1 hcl2 I h fun D C s1 H' I1 B q => ?_
  obtain ⟨m, hm⟩ := B.ns
  exact ⟨m, hm, fun h' sb => ⟨.ref D, H', B.turn I1 sb, rfl, q⟩⟩
theorem ps_setC {i : Nat} {y : Str} {py spos : Pos} (hc : X.calm = true) (S : CompOk scope X.env.scope N X.N k cap) (hN : X.N.Nodup) (hiy : X.N[i]? = some y) (hy : X.env.scope.names.lookup y = some .local) (hi : PI X tg iter wi)
    (hg : ∀ cl C s H ex pn, PTg (compCx X scope N cl C s H ex pn) k tg tt) (ht : ∀ cl C s H ex pn, PTs (compCx X scope N cl C s H ex pn) ifs tc)
    (he : ∀ cl C s H ex pn, PE (compCx X scope N cl C s H ex pn) elt te)
    (hsw : swapsWith (.ListComp elt [⟨tg, iter, ifs, 0⟩] scope pos) (some (.Name y py)) spos.line X.env = pure true := by rfl) (hs : ∀ x, foldedSetIterable iter X.env x = pure x := by intro _; rfl) :
    PS X (.Assign [.Name y py] (.ListComp elt [⟨tg, iter, ifs, 0⟩] scope pos) spos) (tAsg (tComp wi tt tc te cap) (gName i)) := by
  intro pins s σ H D I h
  obtain ⟨cl, hclos, hcl1, hcl2⟩ := clos_of (scope := scope) (env := X.env) fun y hy hf => I.ok.has y.1 (S.free y hy hf)
  rw [exec_Assign_Name_used _ _ _ _ hsw]
  refine wpAny_bind (wpAny_standAt (wpAny_bind ?_))
  show wpAny _ X.A (do let _ ← comprehension (.ListComp elt [⟨tg, iter, ifs, 0⟩] scope pos) scope X.env _ (newList []) false (eval iter X.env) (some (assign (.Name y py) X.env))) _ _ s
  refine wpAny_bind (wpAny_mono (wpAny_comprehension_free (use := some (assign (.Name y py) X.env)) (Q := fun _ s' => SP X pins D .next s') rfl hs hclos S.kind S.loc ?_) (fun _ s' hq => wpAny_pure (wpAny_pure hq)) fun _ _ e => e)
  refine comp_core hc hi hg ht he S hcl1 hcl2 I h fun Da C s1 H' I1 B q => ?_
  show wpAny _ X.A (assign (.Name y py) X.env (.ref Da)) _ _ _
  refine wpAny_assign_Name (store_ok2 (v := .ref Da) I1 hN hiy (.inl hy) rfl (fun s' I' z => ?_) (.inr hy))
  obtain ⟨a, hsb, ha⟩ := z
  have hCa : C ≠ a := by
    rcases ha with rfl | ha
    · exact B.ne
    · exact fun e => B.cells _ _ ha e.symm
  obtain ⟨m, hm⟩ := B.ns
  refine ⟨m, hm.sameBut hsb hCa, fun h' sb => ?_⟩
  exact ⟨_, H', I'.turned (t' := s'.toks) (fun b o hb e => sb.extBut b o hb e) B.un B.ne (.inr B.new) B.cells B.pins, q⟩
end
end L2
set_option Elab.async false
set_option linter.all false
set_option maxRecDepth 100000
set_option maxHeartbeats 1000000
namespace L2
open PySem PySem.Spec PyProof.Rows
abbrev Rel (α : Type) := Hp → α → V → Prop
def rInt : Rel Int := fun _ i v => v = .int i
def rBool : Rel Bool := fun _ b v => v = .bl b
def rLst {α : Type} (R : Rel α) : Rel (List α) := fun H xs v => ∃ a vs, v = .ref a ∧ H a = some (.lst vs) ∧ Paired (R H) xs vs
def rT2 {α β : Type} (R : Rel α) (S : Rel β) : Rel (α × β) := fun H p v => ∃ a x y, v = .ref a ∧ H a = some (.tup [x, y]) ∧ R H p.1 x ∧ S H p.2 y
structure MonoR {α : Type} (R : Rel α) : Prop where
  go : ∀ (H H' : Hp) (x : α) (v : V), Same H H' → R H x v → R H' x v
theorem MonoR.up {α : Type} {R : Rel α} (m : MonoR R) {H H' : Hp} {x : α} {v : V} (s : Same H H') (h : R H x v) : R H' x v := m.go H H' x v s h
theorem mono_int : MonoR rInt := ⟨fun _ _ _ _ _ h => h⟩
theorem paired_mono {α : Type} {R : Rel α} (m : MonoR R) {H H' : Hp} (s : Same H H') {xs : List α} {vs : List V} (p : Paired (R H) xs vs) : Paired (R H') xs vs := Paired.mapP p fun _ _ q => m.up s q
theorem mono_lst {α : Type} {R : Rel α} (m : MonoR R) : MonoR (rLst R) := ⟨fun H H' x v s h => by
  obtain ⟨a, vs, e, h1, p⟩ := h
  exact ⟨a, vs, e, s _ _ h1, paired_mono m s p⟩⟩
theorem mono_t2 {α β : Type} {R : Rel α} {S : Rel β} (m : MonoR R) (n : MonoR S) : MonoR (rT2 R S) := ⟨fun H H' x v s h => by
  obtain ⟨a, x, y, e, h1, p, q⟩ := h
  exact ⟨a, x, y, e, s _ _ h1, m.up s p, n.up s q⟩⟩
theorem paired_map {α β : Type} {F : α → β → Prop} {f : α → β} (h : ∀ a, F a (f a)) : ∀ xs : List α, Paired F xs (xs.map f)
  | [] => .nil
  | a :: r => .cons (h a) (paired_map h r)
theorem Paired.at {α β : Type} {F : α → β → Prop} : ∀ {xs : List α} {ys : List β} {i : Nat} {x : α}, Paired F xs ys → xs[i]? = some x → ∃ y, ys[i]? = some y ∧ F x y
  | _, _, _, _, .nil, e => by simp at e
  | _, _, 0, _, .cons r _, e => by simp at e; subst e; exact ⟨_, rfl, r⟩
  | _, _, i + 1, x, .cons _ t, e => by
    obtain ⟨u, h1, h2⟩ := Paired.at (i := i) (x := x) t (by simpa using e)
    exact ⟨u, by simpa using h1, h2⟩
theorem Paired.ta {α β : Type} {F : α → β → Prop} : ∀ {xs : List α} {ys : List β} {i : Nat} {y : β}, Paired F xs ys → ys[i]? = some y → ∃ x, xs[i]? = some x ∧ F x y
  | _, _, _, _, .nil, e => by simp at e
  | _, _, 0, _, .cons r _, e => by simp at e; subst e; exact ⟨_, rfl, r⟩
  | _, _, i + 1, x, .cons _ t, e => by
    obtain ⟨u, h1, h2⟩ := Paired.ta (i := i) (y := x) t (by simpa using e)
    exact ⟨u, by simpa using h1, h2⟩
theorem Paired.app {α β : Type} {F : α → β → Prop} : ∀ {xs xs' : List α} {ys ys' : List β}, Paired F xs ys → Paired F xs' ys' → Paired F (xs ++ xs') (ys ++ ys')
  | _, _, _, _, .nil, s => s
  | _, _, _, _, .cons r t, s => .cons r (Paired.app t s)
structure EqOk {α : Type} (n : Nat) (R : Rel α) : Prop where
  go : ∀ (X : Cx) (pins : List (Addr × Obj)) (σ : St) (H : Hp) (s : Shared) (A : Around) (x : α) (v w : V) (u1 u2 : Value),
    Inv X pins σ H s → A.units + n < cLine → R H x v → R H x w → RelV v u1 → RelV w u2 → SeqAt.EqAt A s u1 u2 true
theorem EqOk.at {α : Type} {n : Nat} {R : Rel α} (h : EqOk n R) {X : Cx} {pins : List (Addr × Obj)} {σ : St} {H : Hp} {s : Shared} {A : Around} {x : α} {v w : V} {u1 u2 : Value} (I : Inv X pins σ H s) (hu : A.units + n < cLine) (h1 : R H x v) (h2 : R H x w) (r1 : RelV v u1) (r2 : RelV w u2) : SeqAt.EqAt A s u1 u2 true :=
  h.go X pins σ H s A x v w u1 u2 I hu h1 h2 r1 r2
structure RcOk {α : Type} (n : Nat) (R : Rel α) : Prop where
  go : ∀ (X : Cx) (pins : List (Addr × Obj)) (σ : St) (H : Hp) (s : Shared) (A : Around) (x : α) (v w : V) (u1 u2 : Value),
    Inv X pins σ H s → A.units + n < cLine → R H x v → R H x w → RelV v u1 → RelV w u2 → SeqAt.RcAt A s u1 u2 true ∧ SeqAt.RcNeAt A s u1 u2 false
theorem RcOk.at {α : Type} {n : Nat} {R : Rel α} (h : RcOk n R) {X : Cx} {pins : List (Addr × Obj)} {σ : St} {H : Hp} {s : Shared} {A : Around} {x : α} {v w : V} {u1 u2 : Value} (I : Inv X pins σ H s) (hu : A.units + n < cLine) (h1 : R H x v) (h2 : R H x w) (r1 : RelV v u1) (r2 : RelV w u2) : SeqAt.RcAt A s u1 u2 true ∧ SeqAt.RcNeAt A s u1 u2 false :=
  h.go X pins σ H s A x v w u1 u2 I hu h1 h2 r1 r2
theorem eqok_bool : EqOk 0 rBool := by
  refine ⟨fun X pins σ H s A x v w u1 u2 I hu h1 h2 r1 r2 => ?_⟩
  have e1 : v = .bl x := h1
  have e2 : w = .bl x := h2
  subst e1; subst e2
  have := eqAt_V (A := A) (s := s) r1 r2 rfl rfl
  simpa [eqV] using this
theorem all_true (n : Nat) : (List.range n).all (fun _ => true) = true := by simp
theorem vals_two {α : Type} {R : Rel α} {H : Hp} {xs : List α} {vs ws : List V} {us1 us2 : List Value} (p1 : Paired (R H) xs vs) (p2 : Paired (R H) xs ws) (r1 : Vals vs us1) (r2 : Vals ws us2) :
    us1.length = us2.length ∧ ∀ (j : Nat) (a b : Value), us1[j]? = some a → us2[j]? = some b → ∃ x v w, R H x v ∧ R H x w ∧ RelV v a ∧ RelV w b := by
  induction p1 generalizing ws us1 us2 with
  | nil =>
    cases p2
    cases r1; cases r2
    exact ⟨rfl, fun j a b e => by simp at e⟩
  | cons h t ih =>
    cases p2 with
    | cons h' t' =>
      cases r1 with
      | cons q1 s1 =>
        cases r2 with
        | cons q2 s2 =>
          obtain ⟨e, f⟩ := ih t' s1 s2
          refine ⟨by simp [e], fun j a b ea eb => ?_⟩
          cases j with
          | zero => simp at ea eb; subst ea; subst eb; exact ⟨_, _, _, h, h', q1, q2⟩
          | succ j => exact f j a b (by simpa using ea) (by simpa using eb)
theorem rcok_lst {α : Type} {n : Nat} {R : Rel α} (h : EqOk n R) : RcOk (n + 1) (rLst R) := by
  refine ⟨fun X pins σ H s A xs v w u1 u2 I hu h1 h2 r1 r2 => ?_⟩
  obtain ⟨a, vs, e1, ha, p1⟩ := h1
  obtain ⟨b, ws, e2, hb, p2⟩ := h2
  subst e1; subst e2
  cases r1; cases r2
  obtain ⟨its, n1, rv1, o1, z1⟩ := I.lst ha
  obtain ⟨its2, n2, rv2, o2, z2⟩ := I.lst hb
  obtain ⟨el, f⟩ := vals_two p1 p2 rv1 rv2
  have hl1 : s.heap.IsList a its.toArray := ⟨_, o1, rfl, n1, rfl⟩
  have hl2 : s.heap.IsList b its2.toArray := ⟨_, o2, rfl, n2, rfl⟩
  have he : ∀ j (h1 : j < its.toArray.size) (h2 : j < its2.toArray.size), SeqAt.EqAt A.in1 s its.toArray[j] its2.toArray[j] ((fun _ => true) j) := fun j h1 h2 => by
    obtain ⟨x, v, w, q1, q2, q3, q4⟩ := f j (its.toArray[j]) (its2.toArray[j]) (by simp) (by simp)
    exact h.at I (by show A.units + 1 + n < cLine; omega) q1 q2 q3 q4
  have A1 := SeqAt.RcAt.lists hl1 hl2 (by simpa using el) (by omega) he
  have A2 := SeqAt.RcNeAt.lists hl1 hl2 (by simpa using el) (by omega) he
  rw [all_true] at A1 A2
  exact ⟨A1, A2⟩
section
variable {X : Cx}
theorem op_neR {α : Type} {n : Nat} {R : Rel α} (ok : RcOk n R) (hu : X.A.units + n < cLine) : OpR X (compareOp .NotEq) (fun v w H Q => ∃ x, R H x v ∧ R H x w ∧ Q (.bl false) H) := by
  intro pins s σ H v w u1 u2 Q I r1 r2 h
  obtain ⟨x, h1, h2, q⟩ := h
  exact (ok.at I hu h1 h2 r1 r2).2 _ _ _ _ ⟨.bl false, H, I, rfl, q⟩
def kindV (H : Hp) : V → String → Prop
  | .non, T => T = "NoneType"
  | .bl _, T => T = "bool"
  | .int _, T => T = "int"
  | .str _, T => T = "str"
  | .ref a, T => (T = "list" ∧ ((∃ xs, H a = some (.lst xs)) ∨ ∃ o xs, H a = some (.frz o (.lst xs)))) ∨ (T = "tuple" ∧ ∃ xs, H a = some (.tup xs)) ∨ (T = "dict" ∧ ∃ kvs, H a = some (.dK kvs))
  | _, _ => False
theorem kindV.ty {K : PySem.W.Frag} {H : Hp} {x : V} {T : String} (h : kindV H x T) : TyOf K H x (.type T) := by
  cases x with
  | non => cases (show T = "NoneType" from h); exact .non
  | bl b => cases (show T = "bool" from h); exact .bl b
  | int i => cases (show T = "int" from h); exact .int i
  | str z => cases (show T = "str" from h); exact .str z
  | ref a =>
    rcases h with ⟨rfl, ⟨xs, e⟩ | ⟨o, xs, e⟩⟩ | ⟨rfl, xs, e⟩ | ⟨rfl, kvs, e⟩
    · exact .lst e
    · exact .frz e
    · exact .tup e
    · exact .dK e
  | _ => exact False.elim h
theorem call_isi {T : String} : CallR X (.builtin "isinstance") (fun xs H Q => ∃ x S b, xs = [x, .ty T] ∧ kindV H x S ∧ PySem.W.kitOne X.K (.type S) (.type T) = some b ∧ Q (.bl b) H) := by
  intro pins s σ H xs us Q I r h
  obtain ⟨x, S, b, rfl, hk, e, q⟩ := h
  obtain ⟨u, c, rfl, ru, rc⟩ := r.two
  cases (show c = Value.type T from rc)
  exact isinst_ok I ru hk.ty e fun tk => ⟨.bl b, H, I.tok _, rfl, q⟩
theorem isi_same {K : PySem.W.Frag} (T : String) : PySem.W.kitOne K (.type T) (.type T) = some true := by
  unfold PySem.W.kitOne
  rw [if_pos (by simp)]
theorem isi_int_bool {K : PySem.W.Frag} : PySem.W.kitOne K (.type "int") (.type "bool") = some false := rfl
end
end L2
set_option Elab.async false
set_option linter.all false
set_option maxRecDepth 100000
set_option maxHeartbeats 1000000
namespace L2
open PySem PySem.Spec PyProof.Rows
def compOkB (scope psc : Scope) (N PN : List Str) (k : Nat) (cap : List Nat) : Bool :=
  (scope.kind == .function) && (N.length == k + cap.length) &&
  (scope.names.all fun y => (y.2 != .cell) && (y.2 != .local || scope.names.lookup y.1 == some .local) &&
    (y.2 != .free || (scope.names.lookup y.1 == some .free && (psc.names.lookup y.1 == some .cell || psc.names.lookup y.1 == some .free)))) &&
  ((List.range cap.length).all fun j => match N[k + j]?, cap[j]? with
    | some x, some i => PN[i]? == some x && scope.names.lookup x == some .free
    | _, _ => false)
theorem compOk_of {scope psc : Scope} {N PN : List Str} {k : Nat} {cap : List Nat} (h : compOkB scope psc N PN k cap = true) : CompOk scope psc N PN k cap := by
  unfold compOkB at h
  simp only [Bool.and_eq_true] at h
  obtain ⟨⟨⟨h1, h2⟩, h3⟩, h4⟩ := h
  rw [List.all_eq_true] at h3 h4
  have q : ∀ y ∈ scope.names, y.2 ≠ .cell ∧ (y.2 = .local → scope.names.lookup y.1 = some .local) ∧ (y.2 = .free → scope.names.lookup y.1 = some .free ∧ (psc.names.lookup y.1 = some .cell ∨ psc.names.lookup y.1 = some .free)) := fun y hy => by
    have := h3 y hy
    simp only [Bool.and_eq_true, Bool.or_eq_true, bne_iff_ne, beq_iff_eq] at this
    obtain ⟨⟨a, b⟩, c⟩ := this
    exact ⟨a, fun e => b.elim (fun z => absurd e z) id, fun e => c.elim (fun z => absurd e z) id⟩
  refine ⟨by simpa using h1, by simpa using h2, fun y hy => (q y hy).1, fun y hy => (q y hy).2.1, fun y hy e => ((q y hy).2.2 e).2, fun j hj => ?_, fun y hy e => ((q y hy).2.2 e).1⟩
  have := h4 j hj
  split at this
  · rename_i x i e1 e2
    simp only [Bool.and_eq_true, beq_iff_eq] at this
    exact ⟨x, i, e1, e2, this.1, this.2⟩
  · cases this
section
variable {X : Cx} {elt tg iter : Expr} {ifs : List Expr} {scope : Scope} {pos : Pos} {wi : TI} {tt : TTg} {tc : TT} {te : TE}
theorem pe_lc (psc : Scope) (PN N : List Str) (k : Nat) (cap : List Nat) (hi : PI X tg iter wi) (hg : ∀ cl C s H ex pn, PTg (compCx X scope N cl C s H ex pn) k tg tt) (ht : ∀ cl C s H ex pn, PTs (compCx X scope N cl C s H ex pn) ifs tc)
    (he : ∀ cl C s H ex pn, PE (compCx X scope N cl C s H ex pn) elt te) (hc : X.calm = true := by rfl) (h1 : X.env.scope = psc := by rfl) (h2 : X.N = PN := by rfl) (S : compOkB scope psc N PN k cap = true := by decide +kernel)
    (hs : ∀ x, foldedSetIterable iter X.env x = pure x := by intro _; rfl) :
    PE X (.ListComp elt [⟨tg, iter, ifs, 0⟩] scope pos) (tComp wi tt tc te cap) := pe_comp hc (by rw [h1, h2]; exact compOk_of S) hi hg ht he hs
theorem ps_lc {i : Nat} {y : Str} {py spos : Pos} (psc : Scope) (PN N : List Str) (k : Nat) (cap : List Nat) (hN : X.N.Nodup) (hiy : X.N[i]? = some y) (hy : X.env.scope.names.lookup y = some .local) (hi : PI X tg iter wi)
    (hg : ∀ cl C s H ex pn, PTg (compCx X scope N cl C s H ex pn) k tg tt) (ht : ∀ cl C s H ex pn, PTs (compCx X scope N cl C s H ex pn) ifs tc)
    (he : ∀ cl C s H ex pn, PE (compCx X scope N cl C s H ex pn) elt te) (hc : X.calm = true := by rfl) (h1 : X.env.scope = psc := by rfl) (h2 : X.N = PN := by rfl) (S : compOkB scope psc N PN k cap = true := by decide +kernel)
    (hsw : swapsWith (.ListComp elt [⟨tg, iter, ifs, 0⟩] scope pos) (some (.Name y py)) spos.line X.env = pure true := by rfl) (hs : ∀ x, foldedSetIterable iter X.env x = pure x := by intro _; rfl) :
    PS X (.Assign [.Name y py] (.ListComp elt [⟨tg, iter, ifs, 0⟩] scope pos) spos) (tAsg (tComp wi tt tc te cap) (gName i)) := ps_setC hc (by rw [h1, h2]; exact compOk_of S) hN hiy hy hi hg ht he hsw hs
end
structure Dn (P : Program) (w : World) (K : PySem.W.Frag) (mg : Str → Option Value) (base : Heap) (x : Str) (n : Nat) (ps : List Str) (sp : Sp) : Prop where
  ex : ∃ f fd, FnOk P w K mg base CX0 n f fd ps sp ∧ mg x = some (.ref f) ∧ PySem.W.keepIn K (.ref f) = true ∧ Binds K fd ps []
structure DefAt (K : PySem.W.Frag) (mg : Str → Option Value) (x : Str) (st : Stmt) (ps : List Str) : Prop where
  ex : ∃ f fd, Fun K x x st f fd ∧ mg x = some (.ref f) ∧ Binds K fd ps []
section
variable {P : Program} {w : World} {K : PySem.W.Frag} {mg : Str → Option Value} {base : Heap}
theorem DefAt.ok {x : Str} {st : Stmt} {N ps : List Str} {k : Nat} {sp : Sp} (F : DefAt K mg x st ps) (S : FnScope N ps (defScope st)) (len : ∀ vs H Q E, sp vs H Q E → vs.length = ps.length)
    (hbody : ∀ (f : Addr) (cdv : Value) (A : Around) (outer : List Env) (s : Shared) (H : Hp) (vs : List V) (Q : VK) (E : XK), Room k (A.deeper (envOfC x (defScope st) s.heap.objs.size f cdv)) → sp vs H Q E →
      ∃ t, PSs (cxOf CX0 P w K mg base N x (defScope st) f cdv A outer s H E).nox (defBody st) t ∧ t { nx := fun _ H' => Q .non H', rt := Q } (start N vs) H) : Dn P w K mg base x (k + 1) ps sp := by
  obtain ⟨f, fd, F, hm, hb⟩ := F.ex
  exact ⟨f, fd, F.ok S len fun cdv A outer s H vs Q E => hbody f cdv A outer s H vs Q E, hm, F.kp, hb⟩
end
theorem pe_dn {X : Cx} {x : Str} {n k : Nat} {ps : List Str} {sp : Sp} {e : Expr} {es : List Expr} {t : TA} {p pos : Pos} (D : Dn X.prog X.w X.K X.mg X.base x n ps sp) (hr : Room k X.A) (ha : PA X (e :: es) t) (hk : n ≤ k := by decide) (hg : Gl X x := by rfl)
    (hdb : (x == ("__debug__" : Str)) = false := by decide) (he : starEach (e :: es) X.env = (false, eval e X.env) :: starEach es X.env := by rfl) (hpl : (backTo pos (starEach es X.env)).any (·.1) = false := by rfl) :
    PE X (.Call (.Name x p) (e :: es) [] pos) (tCall sp [] E0 t) := by
  obtain ⟨f, fd, F, hm, kp, hb⟩ := D.ex
  exact pe_call F (hr.mono hk) hg hm kp hb .nil pass0 ha hdb he hpl
theorem hu_n {A : Around} {k : Nat} (hr : Room k A) (n : Nat) (h : n ≤ 64 := by decide) : A.units + n < cLine := Nat.lt_of_le_of_lt (Nat.add_le_add_left h _) hr.units
def tSeqM (t u : TS) : TS := fun D σ H => ∃ M : St → Hp → Prop, t { D with nx := M } σ H ∧ ∀ σ' H', M σ' H' → u D σ' H'
theorem pss_cut {X : Cx} {st : Stmt} {rest : List Stmt} {t u : TS} (h1 : PS X st t) (h2 : PSs X rest u) : PSs X (st :: rest) (tSeqM t u) := by
  intro pins s σ H D I h
  obtain ⟨M, h, k⟩ := h
  refine wpAny_execs_cons (thn (h1 pins s σ H { D with nx := M } I h) fun f s1 q => ?_)
  cases f with
  | next =>
    obtain ⟨σ', H', I', q⟩ := q
    exact h2 pins s1 σ' H' D I' (k σ' H' q)
  | ret v => exact q
  | brk => exact q
  | cont => exact q
def newp (H H' : Hp) : Hp := fun b => match H b with
  | none => H' b
  | some _ => none
theorem newp_same (H H' : Hp) : Same (newp H H') H' := fun b o e => by
  unfold newp at e
  cases q : H b with
  | none => rw [q] at e; exact e
  | some u => rw [q] at e; cases e
theorem newp_none {H H' : Hp} {b : Addr} {o : HO} (h : H b = some o) : newp H H' b = none := by unfold newp; rw [h]
theorem newp_at {H H' : Hp} {b : Addr} (h : H b = none) : newp H H' b = H' b := by unfold newp; rw [h]
theorem newp_mono {H H1 H' H2 : Hp} (a : Same H H1) (b : Same H' H2) : Same (newp H1 H') (newp H H2) := fun c o e => by
  cases q : H1 c with
  | some u => rw [newp_none q] at e; cases e
  | none =>
    rw [newp_at q] at e
    rw [newp_at (a.free q)]
    exact b c o e
theorem same_upd {H : Hp} {p : Addr} (h : H p = none) (o : HO) : Same H (upd H p o) := fun b u q => by rw [upd_ne (ne_of_none q h)]; exact q
theorem Same.put {Hs H : Hp} {p : Addr} (s : Same Hs H) (h : Hs p = none) (o : HO) : Same Hs (upd H p o) := fun b u q => by
  rw [upd_ne (ne_of_none q h)]; exact s b u q
theorem small {n m : Nat} (h : n ≤ m) (hm : m ≤ 1000000 := by decide) : n ≤ sizeLine := Nat.le_trans h (Nat.le_trans hm (by decide))
theorem atI_ints {ns : List Int} {k : Int} (h0 : 0 ≤ k) (h1 : k < ns.length) : atI (ns.map V.int) k = some (.int (ns.getD k.toNat 0)) := by
  have hk : k.toNat < ns.length := by omega
  have ek : k = ((k.toNat : Nat) : Int) := by omega
  rw [ek]
  refine (atI_nat (v := V.int (ns.getD k.toNat 0)) ?_)
  simp [hk]
theorem comp_yes {x : V} {H : Hp} {f : List V → St} {A B : List V → Hp → Prop} (h : A [x] H) : ttName x H fun ws => tYes (f ws) H fun b H4 => if b = true then A ws H4 else B ws H4 := by
  show if true = true then A [x] H else B [x] H
  rw [if_pos rfl]; exact h
theorem comp_yesT {K : PySem.W.Frag} {n : Nat} {a : Addr} {xs : List V} {H : Hp} {f : List V → St} {A B : List V → Hp → Prop} (hq : SqT K H a xs) (hn : xs.length = n) (h : A xs H) : ttTup K n (.ref a) H fun ws => tYes (f ws) H fun b H4 => if b = true then A ws H4 else B ws H4 := by
  refine ⟨a, xs, rfl, hq, hn, ?_⟩
  show if true = true then A xs H else B xs H
  rw [if_pos rfl]; exact h
end L2
set_option Elab.async false
set_option linter.all false
set_option maxRecDepth 100000
set_option maxHeartbeats 1000000
namespace L2
open PySem PySem.Spec PyProof.Rows
section
variable {prog : Program} {w : World} {A : Around} {E : Value → Shared → Prop} {s : Shared} {T : String} {r d : Addr} {n : Nat} {P : Nat → Value → Prop} {OK : Heap → Prop} {Q : Value → Shared → Prop}
end
section
variable {X : Cx}
end
end L2
set_option Elab.async false
set_option linter.all false
set_option maxRecDepth 100000
set_option maxHeartbeats 1000000
namespace L2
open PySem PySem.Spec PyProof.Rows
def Ris (xs : List Nat) : Prop := xs.Pairwise (· < ·)
theorem Ris.lt {xs : List Nat} (h : Ris xs) {i j a b : Nat} (hij : i < j) (ha : xs[i]? = some a) (hb : xs[j]? = some b) : a < b := by
  obtain ⟨h1, e1⟩ := List.getElem?_eq_some_iff.mp ha
  obtain ⟨h2, e2⟩ := List.getElem?_eq_some_iff.mp hb
  have := List.pairwise_iff_getElem.mp h i j h1 h2 hij
  rw [e1, e2] at this; exact this
theorem below_go (xs : Array Nat) (hr : Ris xs.toList) (j : Nat) : ∀ (fuel lo hi : Nat), hi - lo ≤ fuel → lo ≤ hi → hi ≤ xs.size → (∀ (i v : Nat), i < lo → xs.toList[i]? = some v → v < j) → (∀ (i v : Nat), hi ≤ i → xs.toList[i]? = some v → j ≤ v) →
    SetTable.below.go xs j fuel lo hi ≤ xs.size ∧ (∀ (i v : Nat), i < SetTable.below.go xs j fuel lo hi → xs.toList[i]? = some v → v < j) ∧ ∀ (i v : Nat), SetTable.below.go xs j fuel lo hi ≤ i → xs.toList[i]? = some v → j ≤ v
  | 0, lo, hi, h1, h2, h3, h4, h5 => by
    have e : lo = hi := by omega
    subst e
    exact ⟨h3, h4, h5⟩
  | fuel + 1, lo, hi, h1, h2, h3, h4, h5 => by
    rw [SetTable.below.go]
    by_cases hl : lo < hi
    · rw [if_pos hl]
      have hm : (lo + hi) / 2 < xs.size := by (clear h1 h2 h4 h5; omega)
      have hg : xs.toList[(lo + hi) / 2]? = some (xs.getD ((lo + hi) / 2) j) := by
        rw [Array.getElem?_toList, Array.getElem?_eq_getElem hm]
        simp [Array.getD, hm]
      dsimp only
      by_cases hc : xs.getD ((lo + hi) / 2) j < j
      · rw [if_pos hc]
        refine below_go xs hr j fuel _ _ (by (clear h5 hl hm hc h3 h4 h2; omega)) (by (clear h1 h2 h3 h4 hm hc h5; omega)) h3 (fun i v hi' hv => ?_) h5
        by_cases e : i = (lo + hi) / 2
        · subst e; rw [hg] at hv; cases hv; exact hc
        · exact Nat.lt_trans (hr.lt (by (clear h1 h2 h3 h4 h5 hl hm hc; omega)) hv hg) hc
      · rw [if_neg hc]
        refine below_go xs hr j fuel _ _ (by (clear h5 hl hm hc h3 h4 h2; omega)) (by (clear h1 h2 h3 h4 hm hc h5; omega)) (by (clear h1 h2 h3 h4 h5 hl hc; omega)) h4 (fun i v hi' hv => ?_)
        by_cases e : i = (lo + hi) / 2
        · subst e; rw [hg] at hv; cases hv; (clear h1 h2 h3 h4 h5 hi' hl hm; omega)
        · have := hr.lt (by (clear h1 h2 h3 h4 h5 hl hm hc; omega) : (lo + hi) / 2 < i) hg hv; (clear h1 h2 h3 h4 h5 hl hi' e hm; omega)
    · rw [if_neg hl]
      have e : lo = hi := by (clear h3 h4 h1 h5; omega)
      subst e
      exact ⟨h3, h4, h5⟩
theorem below_spec (xs : Array Nat) (hr : Ris xs.toList) (j : Nat) : SetTable.below xs j ≤ xs.size ∧ (∀ (i v : Nat), i < SetTable.below xs j → xs.toList[i]? = some v → v < j) ∧ ∀ (i v : Nat), SetTable.below xs j ≤ i → xs.toList[i]? = some v → j ≤ v :=
  below_go xs hr j xs.size 0 xs.size (by omega) (Nat.zero_le _) (Nat.le_refl _) (fun i v h => by omega) (fun i v h e => by
    have := (List.getElem?_eq_some_iff.mp e).1
    rw [Array.length_toList] at this; omega)
theorem ris_insert {xs : Array Nat} (hr : Ris xs.toList) {j : Nat} (hn : xs[SetTable.below xs j]? ≠ some j) : Ris (SetTable.insertAt xs (SetTable.below xs j) j).toList := by
  obtain ⟨h1, h2, h3⟩ := below_spec xs hr j
  rw [SetTable.toList_insertAt]
  have hlt : ∀ a ∈ xs.toList.take (SetTable.below xs j), a < j := fun a ha => by
    obtain ⟨i, hi⟩ := List.getElem?_of_mem ha
    have hi' : i < SetTable.below xs j := by
      have := (List.getElem?_eq_some_iff.mp hi).1
      rw [List.length_take] at this; omega
    rw [List.getElem?_take_of_lt hi'] at hi
    exact h2 i a hi' hi
  have hgt : ∀ b ∈ xs.toList.drop (SetTable.below xs j), j < b := fun b hb => by
    obtain ⟨i, hi⟩ := List.getElem?_of_mem hb
    rw [List.getElem?_drop] at hi
    have hle := h3 _ b (Nat.le_add_right _ i) hi
    rcases Nat.lt_or_eq_of_le hle with z | z
    · exact z
    · subst z
      exfalso
      cases i with
      | zero => rw [Nat.add_zero, Array.getElem?_toList] at hi; exact hn hi
      | succ i =>
        obtain ⟨u, hu⟩ : ∃ u, xs.toList[SetTable.below xs j]? = some u := by
          have hs := (List.getElem?_eq_some_iff.mp hi).1
          have : SetTable.below xs j < xs.toList.length := by (clear hn h1 h2 h3 hlt hle; omega)
          exact ⟨xs.toList[SetTable.below xs j], by simp⟩
        have a := h3 _ u (Nat.le_refl _) hu
        have b := hr.lt (by omega : SetTable.below xs j < SetTable.below xs j + (i + 1)) hu hi
        omega
  refine List.pairwise_append.mpr ⟨hr.sublist (List.take_sublist _ _), List.pairwise_cons.mpr ⟨hgt, hr.sublist (List.drop_sublist _ _)⟩, fun a ha b hb => ?_⟩
  rcases List.mem_cons.mp hb with rfl | hb
  · exact hlt a ha
  · exact Nat.lt_trans (hlt a ha) (hgt b hb)
structure Tab (led : Bool) (t : SetTable) : Prop where
  led : t.led = led
  dum : t.dummies = #[]
  ris : Ris t.place.toList
theorem Tab.standIn {led : Bool} {t : SetTable} (h : Tab led t) (n : Nat) : Tab led (t.standIn n) := ⟨h.led, rfl, by
  show Ris (Array.range n).toList
  rw [Array.toList_range]
  exact List.pairwise_lt_range⟩
theorem has_nil (j : Nat) : SetTable.has #[] j = false := by
  unfold SetTable.has
  simp
theorem slot_eq (t : SetTable) (j : Nat) : t.slot j = if (t.place[SetTable.below t.place j]? == some j) = true then .live (SetTable.below t.place j) else if SetTable.has t.dummies j = true then .dummy else .empty := rfl
theorem probe_free {t : SetTable} (hd : t.dummies = #[]) (f : Nat → Int) (h : Int) : ∀ (fuel : Nat) (p : SetTable.Probe) (j : Nat) (d : Option Nat), p.dummy = none → SetTable.probe.go t f h fuel p = some (.empty j d) → d = none ∧ t.place[SetTable.below t.place j]? ≠ some j
  | 0, p, j, d, _, e => by rw [SetTable.probe.go] at e; cases e
  | fuel + 1, p, j, d, hp, e => by
    rw [SetTable.probe.go] at e
    have hadv : (t.advance p).dummy = none := by
      unfold SetTable.advance
      split
      · exact hp
      · exact hp
    split at e
    · rename_i hs
      cases e
      refine ⟨hp, fun hc => ?_⟩
      rw [slot_eq, hc] at hs
      simp at hs
    · rename_i hs
      rw [slot_eq, hd, has_nil] at hs
      exfalso
      by_cases hb : (t.place[SetTable.below t.place p.j]? == some p.j) = true
      · rw [if_pos hb] at hs; cases hs
      · rw [if_neg hb] at hs; simp at hs
    · split at e
      · cases e
      · exact probe_free hd f h fuel _ j d hadv e
theorem Tab.layNew {led : Bool} {t : SetTable} (T : Tab led t) (es : Array (Int × Value)) (h : Int) (x : Value) : Tab led (layNew t es h x).2.1 := by
  unfold PySem.layNew
  cases e : t.freeSlot h with
  | none => exact T.standIn _
  | some sw =>
    obtain ⟨slot, wd⟩ := sw
    dsimp only
    have key : Tab led (t.put slot).1 := by
      have hne : t.place[SetTable.below t.place slot]? ≠ some slot := by
        unfold SetTable.freeSlot at e
        split at e
        · rename_i j d hp
          cases e
          unfold SetTable.probe at hp
          obtain ⟨e1, e2⟩ := probe_free T.dum _ _ _ _ _ _ rfl hp
          subst e1
          exact e2
        · cases e
      refine ⟨T.led, ?_, ris_insert T.ris hne⟩
      show (if SetTable.has t.dummies slot then _ else t.dummies) = #[]
      rw [T.dum, has_nil]; rfl
    unfold SetTable.orStandIn
    split
    · exact key
    · exact key.standIn _
theorem filterMap_range_ris (f : Nat → Option Nat) (n : Nat) : Ris (((List.range n).filterMap fun j => (f j).map fun k => (j, k)).map (·.1)) := by
  have : Ris (((List.range n).filterMap fun j => (f j).map fun k => (j, k)).map (·.1)) := by
    have e : ((List.range n).filterMap fun j => (f j).map fun k => (j, k)).map (·.1) = (List.range n).filter fun j => (f j).isSome := by
      induction (List.range n) with
      | nil => rfl
      | cons a r ih =>
        cases h : f a with
        | none => simp [List.filterMap_cons, h, ih]
        | some k => simp [List.filterMap_cons, h, ih]
    rw [e]
    exact List.pairwise_lt_range.sublist List.filter_sublist
  exact this
theorem Tab.relay {led : Bool} {t : SetTable} (T : Tab led t) (es : Array (Int × Value)) (wanted : Nat) : Tab led (relayAll t es wanted).2.1 := by
  unfold relayAll
  cases e : t.relaid (es.map (·.1)) wanted with
  | none => exact T.standIn _
  | some q =>
    obtain ⟨t', order⟩ := q
    dsimp only
    split
    · unfold SetTable.relaid SetTable.laid at e
      cases e2 : SetTable.layClean (SetTable.sizeAbove wanted - 1) (es.map (·.1)) with
      | none => rw [e2] at e; cases e
      | some owner =>
        rw [e2] at e
        cases e
        refine ⟨T.led, rfl, ?_⟩
        have := filterMap_range_ris (fun j => owner.getD j none) (SetTable.sizeAbove wanted - 1 + 1)
        simpa using this
    · exact T.standIn _
end L2
set_option Elab.async false
set_option linter.all false
set_option maxRecDepth 100000
set_option maxHeartbeats 2000000
namespace L2
open PySem PySem.Spec PyProof.Rows
def SetI (P : Program) (w : World) (h : Heap) (a : Addr) (led : Bool) (ks : List Int) : Prop :=
  ∃ (o : Obj) (es : Array (Int × Value)) (ep : Nat) (t : SetTable) (ns : List Int), h.get? a = some o ∧ o.ExactSet ∧ o.data = .set es ep t ∧ ElemsOf (intKind P w) es.toList ∧ IntsAre (es.toList.map (·.2)) ns ∧ ns.Nodup ∧ (∀ k, k ∈ ns ↔ k ∈ ks) ∧
    es.size < scanBound ∧ t.fits es.size = true ∧ Tab led t
theorem SetI.keep {P : Program} {w : World} {h h' : Heap} {a : Addr} {led : Bool} {ks : List Int} (S : SetI P w h a led ks) (k : ∀ o, h.get? a = some o → h'.get? a = some o) : SetI P w h' a led ks := by
  obtain ⟨o, es, ep, t, ns, e, r⟩ := S
  exact ⟨o, es, ep, t, ns, k o e, r⟩
theorem ints_perm : ∀ {l l' : List Value} {ns : List Int}, l'.Perm l → IntsAre l ns → ∃ ns', IntsAre l' ns' ∧ ns'.Perm ns := by
  intro l l' ns hp
  induction hp generalizing ns with
  | nil => intro h; exact ⟨ns, h, .refl _⟩
  | cons x _ ih =>
    intro h
    cases h with
    | cons n t r =>
      obtain ⟨ns', h1, h2⟩ := ih r
      exact ⟨n :: ns', .cons n t h1, h2.cons n⟩
  | swap x y l =>
    intro h
    cases h with
    | cons n t r =>
      cases r with
      | cons m u r => exact ⟨m :: n :: _, .cons m u (.cons n t r), .swap n m _⟩
  | trans _ _ ih1 ih2 =>
    intro h
    obtain ⟨n1, a1, a2⟩ := ih2 h
    obtain ⟨n2, b1, b2⟩ := ih1 a1
    exact ⟨n2, b1, b2.trans a2⟩
theorem ints_map_perm {l l' : List (Int × Value)} {ns : List Int} (hp : l'.Perm l) (h : IntsAre (l.map (·.2)) ns) : ∃ ns', IntsAre (l'.map (·.2)) ns' ∧ ns'.Perm ns := ints_perm (hp.map _) h
theorem nodup_sub : ∀ (l1 l2 : List Int), l1.Nodup → (∀ x ∈ l1, x ∈ l2) → l1.length ≤ l2.length
  | [], _, _, _ => Nat.zero_le _
  | x :: l1, l2, hn, hs => by
    have hx : x ∈ l2 := hs x List.mem_cons_self
    have hxn := (List.nodup_cons.mp hn).1
    have := nodup_sub l1 (l2.erase x) (List.nodup_cons.mp hn).2 fun y hy => (List.mem_erase_of_ne (fun e => by subst e; exact hxn hy)).mpr (hs y (List.mem_cons_of_mem _ hy))
    rw [List.length_erase_of_mem hx] at this
    have hp : 0 < l2.length := List.length_pos_of_mem hx
    rw [List.length_cons]; omega
theorem ints_snoc {k : Int} {t : Tok} : ∀ {vs : List Value} {ns : List Int}, IntsAre vs ns → IntsAre (vs ++ [.int k t]) (ns ++ [k])
  | _, _, .nil => .cons k t .nil
  | _, _, .cons n u r => .cons n u (ints_snoc r)
theorem isInt_mem {P : Program} {w : World} {k : Int} : ∀ {l : List (Int × Value)} {ns : List Int}, IntsAre (l.map (·.2)) ns → ((∃ e ∈ l, (intKind P w).is k e.2 = true) ↔ k ∈ ns)
  | [], _, h => by cases h; simp
  | (hh, v) :: l, _, h => by
    cases h with
    | cons n t r =>
      have ih := isInt_mem (P := P) (w := w) (k := k) r
      rw [List.mem_cons, ← ih]
      constructor
      · rintro ⟨e, he, q⟩
        rcases List.mem_cons.mp he with rfl | he
        · obtain ⟨u, z⟩ := Value.isInt_shape (k := k) (v := Value.int n t) q
          injection z with z _
          exact .inl z.symm
        · exact .inr ⟨e, he, q⟩
      · rintro (rfl | ⟨e, he, q⟩)
        · exact ⟨_, List.mem_cons_self, by simp [intKind, Value.isInt]⟩
        · exact ⟨e, List.mem_cons_of_mem _ he, q⟩
theorem stored {h : Heap} {a : Addr} {ob : Obj} {es : Array (Int × Value)} {ep : Nat} {t : SetTable} (ho : h.get? a = some ob) (hd : ob.data = .set es ep t) (es2 : Array (Int × Value)) (t2 : SetTable) :
    (h.update a (Obj.putSet es2 t2)).get? a = some { ob with data := .set es2 (ep + 1) t2 } := by
  have z := Heap.get?_update_self (Obj.putSet es2 t2) ho (by rw [putSet_of es2 t2 hd]; rfl)
  rwa [putSet_of es2 t2 hd] at z
section
variable {P : Program} {w : World} {A : Around} {E : Value → Shared → Prop}
theorem add_tail {s : Shared} {g : Bool → Sem Unit} (hg : ∀ (b : Bool) (s1 : Shared) (Q1 : Unit → Shared → Prop), Q1 () s1 → wpAny (model P w) A (g b) Q1 E s1) {a : Addr} {ob : Obj} {es : Array (Int × Value)} {ep : Nat} {t : SetTable}
    (ho : s.heap.get? a = some ob) (hex : ob.ExactSet) (hd : ob.data = .set es ep t) {led : Bool} {ks : List Int} {es1 : Array (Int × Value)} {t2 : SetTable} {ns : List Int} (hel : ElemsOf (intKind P w) es1.toList)
    (hi : IntsAre (es1.toList.map (·.2)) ns) (nd : ns.Nodup) (hm : ∀ k, k ∈ ns ↔ k ∈ ks) (hb : es1.size < scanBound) (hf : t2.fits es1.size = true) (hT : Tab led t2) {wd : Bool} {R : Option Bool → Shared → Prop}
    (h : ∀ h', Heap.SameBut a s.heap h' → SetI P w h' a led ks → R (some true) { s with heap := h' }) :
    wpAny (model P w) A (storeSet a es1 t2 >>= fun _ => if (!wd && t2.tooFull) = true then (g (relayAll t2 es1 (SetTable.grown es1.size)).2.2 >>= fun _ =>
      storeSet a (relayAll t2 es1 (SetTable.grown es1.size)).1 (relayAll t2 es1 (SetTable.grown es1.size)).2.1 >>= fun _ => pure (some true)) else pure (some true)) R E s := by
  refine wpAny_bind (wpAny_storeSet_of ho hd ?_ (fits_of_scanBound hb))
  have g1 := stored ho hd es1 t2
  have sb := Heap.SameBut.update s.heap a (Obj.putSet es1 t2)
  have S1 : SetI P w (s.heap.update a (Obj.putSet es1 t2)) a led ks := ⟨_, es1, ep + 1, t2, ns, g1, hex, rfl, hel, hi, nd, hm, hb, hf, hT⟩
  by_cases hc : (!wd && t2.tooFull) = true
  · rw [if_pos hc]
    have pm := relayAll_perm t2 es1 (SetTable.grown es1.size)
    have ft := relayAll_fits t2 es1 (SetTable.grown es1.size)
    have T3 := hT.relay es1 (SetTable.grown es1.size)
    generalize relayAll t2 es1 (SetTable.grown es1.size) = q at pm ft T3 ⊢
    obtain ⟨es2, t3, gv⟩ := q
    dsimp only at pm ft T3 ⊢
    obtain ⟨ns2, i2, p2⟩ := ints_map_perm pm hi
    have sz : es2.size = es1.size := by rw [← Array.length_toList, pm.length_eq, Array.length_toList]
    have hb2 : es2.size < scanBound := by omega
    refine wpAny_bind (hg _ _ _ (wpAny_bind (wpAny_storeSet_of g1 rfl ?_ (fits_of_scanBound hb2))))
    have g2 := stored g1 rfl es2 t3
    refine wpAny_pure (h _ (sb.trans (Heap.SameBut.update _ a _)) ⟨_, es2, ep + 1 + 1, t3, ns2, g2, hex, rfl, hel.perm pm, i2, p2.symm.nodup nd, fun k => (p2.mem_iff).trans (hm k), hb2, ft, T3⟩)
  · rw [if_neg hc]
    exact wpAny_pure (h _ sb S1)
theorem set_add {s : Shared} {a : Addr} {led : Bool} {ks : List Int} {k : Int} {tk : Tok} {Q : Bool → Shared → Prop} (S : SetI P w s.heap a led ks) (hroom : ks.length + 1 < scanBound)
    (h : ∀ b h', Heap.SameBut a s.heap h' → SetI P w h' a led (ks ++ [k]) → Q b { s with heap := h' }) :
    wpAny (model P w) A (setAddHashed a (.int k tk) ((intKind P w).hash k)) Q E s := by
  obtain ⟨ob, es, ep, t, ns, ho, hex, hd, hel, hi, nd, hm, hb, hf, hT⟩ := S
  have hkey : (intKind P w).is k (.int k tk) = true := intKind_is _ _ _ _
  have hsc : (Value.int k tk).scannable = true := rfl
  have hsub : ns.length ≤ ks.length := nodup_sub ns ks nd fun x hx => (hm x).mp hx
  have hes : es.size = ns.length := by
    have := hi.length
    rw [List.length_map, Array.length_toList] at this; exact this
  unfold setAddHashed setAddHashedIn
  refine wpAny_holding (wpAny_bind (wpAny_setState_of ho hd hf ?_))
  dsimp only
  rw [byScan_of hsc hb hel]
  simp only [↓reduceIte]
  unfold setAddByScan
  refine wpAny_bind (wpAny_bind (wpAny_rule (wpAny_bind (wpAny_setScan_of hkey ho hd hf hel ?_))))
  cases hr : List.findIdx? (fun e => (intKind P w).is k e.2) es.toList with
  | some j =>
    dsimp only
    obtain ⟨hj, hpj, _⟩ := List.findIdx?_eq_some_iff_getElem.mp hr
    have hin : k ∈ ns := (isInt_mem (P := P) (w := w) hi).mp ⟨es.toList[j], List.getElem_mem hj, hpj⟩
    refine wpAny_pure (wpAny_pure ?_)
    have z := h false s.heap (Heap.SameBut.refl a s.heap) ⟨ob, es, ep, t, ns, ho, hex, hd, hel, hi, nd, fun x => ?_, hb, hf, hT⟩
    · exact z
    · rw [List.mem_append, List.mem_singleton, hm x]
      exact ⟨.inl, fun q => q.elim id fun e => by subst e; exact (hm _).mp hin⟩
  | none =>
    dsimp only
    have hnin : k ∉ ns := fun hk => by
      obtain ⟨e, he, q⟩ := (isInt_mem (P := P) (w := w) hi).mpr hk
      have := List.findIdx?_eq_none_iff.mp hr e he
      rw [q] at this; cases this
    have hgw : ∀ (b : Bool) (s1 : Shared) (Q1 : Unit → Shared → Prop), Q1 () s1 → wpAny (model P w) A (match b with | true => rule "set.scan.the-table-gave-way" | false => pure ()) Q1 E s1 := fun b s1 Q1 hq => by
      cases b
      · exact wpAny_pure hq
      · exact wpAny_rule hq
    have pm := layNew_perm t es ((intKind P w).hash k) (.int k tk)
    have ft := layNew_fits t es ((intKind P w).hash k) (.int k tk)
    have T1 := hT.layNew es ((intKind P w).hash k) (.int k tk)
    generalize layNew t es ((intKind P w).hash k) (.int k tk) = q at pm ft T1 ⊢
    obtain ⟨es1, t1, wd, gv⟩ := q
    dsimp only at pm ft T1 ⊢
    rw [Array.toList_push] at pm
    have hel1 : ElemsOf (intKind P w) es1.toList := (hel.push hkey hsc).perm pm
    obtain ⟨ns1, i1, p1⟩ := ints_map_perm pm (ns := ns ++ [k]) (by rw [List.map_append]; exact ints_snoc hi)
    have nd1 : ns1.Nodup := p1.symm.nodup (List.nodup_append.mpr ⟨nd, by simp, fun x hx y hy => by
      have : y = k := by simpa using hy
      subst this
      exact fun e => hnin (e ▸ hx)⟩)
    have hm1 : ∀ x, x ∈ ns1 ↔ x ∈ ks ++ [k] := fun x => by rw [p1.mem_iff, List.mem_append, List.mem_append, hm x]
    have sz1 : es1.size = es.size + 1 := by rw [← Array.length_toList, pm.length_eq, List.length_append, Array.length_toList]; rfl
    have hb1 : es1.size < scanBound := by omega
    refine wpAny_bind (hgw _ _ _ ?_)
    have fin : ∀ h', Heap.SameBut a s.heap h' → SetI P w h' a led (ks ++ [k]) → Q true { s with heap := h' } := fun h' sb S' => h true h' sb S'
    split
    · refine wpAny_bind ?_
      rw [hashByValue_scannable 8 hsc]
      refine wpAny_pure ?_
      have e1 : plainKind (Value.int k tk) = true := rfl
      rw [e1]
      refine add_tail (g := fun b => match b with | true => rule "set.scan.the-table-gave-way" | false => pure ()) hgw ho hex hd hel1 i1 nd1 hm1 hb1 ft T1 fun h' sb S' => ?_
      exact wpAny_pure (fin h' sb S')
    · refine wpAny_bind (wpAny_pure ?_)
      refine add_tail (g := fun b => match b with | true => rule "set.scan.the-table-gave-way" | false => pure ()) hgw ho hex hd hel1 i1 nd1 hm1 hb1 ft T1 fun h' sb S' => ?_
      exact wpAny_pure (fin h' sb S')
end
end L2
set_option Elab.async false
set_option linter.all false
set_option maxRecDepth 100000
set_option maxHeartbeats 4000000
namespace PySem
section
variable {prog : Program} {w : World} {A : Around} {E : Value → Shared → Prop} {s : Shared}
theorem own_set_new (v : Value) {Qn : Value → Shared → Prop}
    (h : Qn (.ref s.heap.objs.size) { s with heap := s.heap.push { cls := .type "set", dict := none, data := .set #[] 0 (.fresh 0 0 (!w.params.followText "set-order")) } }) :
    codeAny (model prog w) A (.call (.builtin "set.__new__") ⟨[.type "set", v], []⟩) (wants Qn E) s := by
  refine codeAny_of_tree ?_
  show wpAny _ A.in1 (checkBuiltinCall "set.__new__" ⟨[.type "set", v], []⟩ >>= fun _ => again (.builtin "set.__new__" ⟨[.type "set", v], []⟩)) _ _ s
  refine wpAny_bind (wpAny_of_eq (F.newCall_set_1 v) (wpAny_pure ⟨plainId_quiet F.plain_set_new _, codeAny_builtin F.entry_set_new ?_⟩))
  rw [Around.under_plainId F.plain_set_new _]
  unfold Builtin.«set.__new__» Builtin.Frozenset.newClass
  have hsub := sub_set_self
  obtain ⟨hp, g, d, tk, os⟩ := s
  dsimp only
  wp_walk
  refine wpAny_askSetting (wpAny_pure ?_)
  dsimp only
  simp only [newObj]
  refine wpAny_bind (wpAny_alloc (wpAny_pure ?_))
  exact wpAny_pure h
end
end PySem
namespace L2
open PySem PySem.Spec PyProof.Rows
section
variable {P : Program} {w : World} {A : Around} {R : Result → Shared → Prop} {I : Addr} {fp wr : List Addr} {G : Array GenState → Array GenState → Prop} {n : Nat} {Pv : Nat → Value → Prop} {St : Nat → Shared → Prop}
theorem set_fill (W : WalksS P w A.in1 I fp wr G n Pv St) (a : Addr) (hSf : a ∉ fp) (led : Bool) (val : Nat → Int) (hval : ∀ i v, Pv i v → ∃ t, v = .int (val i) t) (hb : n + 1 < scanBound) :
    ∀ (k i : Nat) (s : Shared), n - i = k → i ≤ n → St i s → SetI P w s.heap a led ((List.range i).map val) →
      (∀ s', Moved (a :: wr) G s s' → SetI P w s'.heap a led ((List.range n).map val) → R (.ok (.ret .none)) s') →
      codeAny (model P w) A (.builtin "set.update.loop" ⟨[.ref a, .ref I], []⟩) R s := by
  have hSw : a ∉ wr := fun h => hSf (W.sub _ h)
  have hsub : ∀ b ∈ wr, b ∈ a :: wr := fun b hb => List.mem_cons_of_mem _ hb
  intro k
  induction k with
  | zero =>
    intro i s hk hi hst hS hR
    obtain rfl : i = n := by omega
    refine codeAny_builtin F.entry_set_update_loop ?_
    rw [Around.under_plainId F.plain_set_update_loop _]
    show wpAny _ A.in1 (pyNext (.ref I) >>= _) _ _ s
    refine wpAny_bind (W.done s _ _ hst fun s' hm => ?_)
    show wpAny _ A.in1 (ret Value.none) _ _ s'
    exact wpAny_pure (hR s' (hm.mono hsub) (hS.keep fun o e => hm.heap a o hSw e))
  | succ k ih =>
    intro i s hk hi hst hS hR
    have hlt : i < n := by omega
    refine codeAny_builtin F.entry_set_update_loop ?_
    rw [Around.under_plainId F.plain_set_update_loop _]
    show wpAny _ A.in1 (pyNext (.ref I) >>= _) _ _ s
    refine wpAny_bind (W.item i s _ _ hlt hst fun v s1 hP hst1 hm => ?_)
    obtain ⟨t, rfl⟩ := hval i v hP
    have S1 : SetI P w s1.heap a led ((List.range i).map val) := hS.keep fun o e => hm.heap a o hSw e
    show wpAny _ A.in1 (holding [Value.int (val i) t] (setAdd a (.int (val i) t)) >>= _) _ _ s1
    refine wpAny_bind (wpAny_holding ?_)
    unfold setAdd
    refine wpAny_holding (wpAny_bind ((intKind P w).pyHash (k := val i) (intKind_is _ _ _ _) ?_))
    refine set_add (s := { s1 with toks := s1.toks + 1 }) S1 (by rw [List.length_map, List.length_range]; omega) fun b h2 sb S2 => ?_
    have S3 : SetI P w h2 a led ((List.range (i + 1)).map val) := by
      rw [List.range_succ, List.map_append]; exact S2
    refine wpAny_pure ⟨plainId_quiet F.plain_set_update_loop _, ih (i + 1) _ (by omega) hlt (W.frame _ s1 _ _ hst1 (Nat.le_succ _) fun c hc o e => ?_) S3 fun s2 hm2 S4 => ?_⟩
    · rw [sb.2 c (fun z : c = a => hSf (by rw [← z]; exact hc))]; exact e
    · refine hR s2 (Moved.trans W.gtrans ((hm.mono hsub).then_heap (Nat.le_succ _) fun c o hc e => ?_) hm2) S4
      rw [sb.2 c (fun z : c = a => hc (by rw [z]; exact List.mem_cons_self))]; exact e
end
theorem setI_new {P : Program} {w : World} {h : Heap} {a : Addr} {led : Bool} (e : h.get? a = some { cls := .type "set", dict := none, data := .set #[] 0 (.fresh 0 0 led) }) : SetI P w h a led [] :=
  ⟨_, #[], 0, .fresh 0 0 led, [], e, ⟨rfl, rfl, rfl⟩, rfl, fun e he => by simp at he, .nil, List.nodup_nil, fun k => Iff.rfl, by decide, rfl, ⟨rfl, rfl, List.Pairwise.nil⟩⟩
end L2
namespace PySem
open L2
section
variable {prog : Program} {w : World} {A : Around} {E : Value → Shared → Prop} {s : Shared}
theorem own_set_list {l : Addr} {items : Array Value} {ns : List Int} {Q : Value → Shared → Prop} (hh : A.handled = none) (hl : s.heap.IsList l items) (hi : PyProof.Rows.IntsAre items.toList ns) (hb : items.size + 1 < scanBound)
    (h : ∀ (h' : Heap) (tk : Nat), SetI prog w h' s.heap.objs.size (!w.params.followText "set-order") ((List.range items.size).map fun i => ns.getD i 0) → (∀ b o, s.heap.get? b = some o → h'.get? b = some o) → Q (.ref s.heap.objs.size) { s with heap := h', toks := tk }) :
    wpAny (model prog w) A (call (.type "set") [.ref l]) Q E s := by
  obtain ⟨cc, tl, hmro⟩ := F.called_set.mro
  have hmade := F.called_set.made
  have hsub := F.called_set.sub
  refine wpAny_call (codeAny_of_tree ?_)
  show wpAny _ _ (callAny (.type "set") _) _ _ _
  refine wpAny_pure ⟨Code.quiet_builtin _ (by decide +kernel), codeAny_builtin F.entry_type_call ?_⟩
  rw [Around.under_plain (weight_type_call_type "set" [.ref l] []) rfl]
  have hnt := F.called_set.notType
  have hcc := F.called_set.canCreate
  have hct := F.typeCall_set_1 (.ref l)
  repeat (any_goals (first | assumption | wp_step))
  refine codeAny_mono (own_set_new (.ref l) (E := E) (Qn := fun ob s1 => ob = .ref s.heap.objs.size ∧ s1 = { s with heap := s.heap.push { cls := .type "set", dict := none, data := .set #[] 0 (.fresh 0 0 (!w.params.followText "set-order")) } }) ⟨rfl, rfl⟩) fun r s1 hr => ?_
  generalize hled : (!w.params.followText "set-order") = led at hr h
  cases r with
  | error e => exact hr
  | ok fl =>
    cases fl with
    | ret ob =>
      obtain ⟨rfl, rfl⟩ := hr
      have hS : (s.heap.push { cls := .type "set", dict := none, data := .set #[] 0 (.fresh 0 0 led) }).get? s.heap.objs.size = some { cls := .type "set", dict := none, data := .set #[] 0 (.fresh 0 0 led) } := Heap.get?_push_size _ rfl
      have hT : Shared.TypeIs { s with heap := s.heap.push { cls := .type "set", dict := none, data := .set #[] 0 (.fresh 0 0 led) } } (.ref s.heap.objs.size) "set" := ⟨_, hS, rfl⟩
      have hli := F.called_set.init.lookup
      have hbi := F.called_set.init.bind (.ref s.heap.objs.size)
      repeat (any_goals (first | assumption | wp_step))
      refine codeAny_mono (codeAny_call_builtin (R := wants (fun r s2 => r = .none ∧ ∃ h' tk, s2 = { s with heap := h', toks := tk } ∧ SetI prog w h' s.heap.objs.size led ((List.range items.size).map fun i => ns.getD i 0) ∧
          (∀ b o, s.heap.get? b = some o → h'.get? b = some o)) E) F.called_set.init.plain F.entry_set_init (check_set_init_1 hT ?_)) fun r2 s2 hr2 => ?_
      · obtain ⟨ol, hol, hcl, nl, hdl⟩ := hl
        obtain ⟨ocls, odict, odata, oslots⟩ := ol
        simp only at hcl hdl
        subst hcl; subst hdl
        have hol' : (s.heap.push { cls := .type "set", dict := none, data := .set #[] 0 (.fresh 0 0 led) }).get? l = some { cls := .type "list", dict := odict, data := .seq items nl, slots := oslots } := Heap.get?_push_of_some _ hol
        have hsls := F.sub_list_set
        have hslf := F.sub_list_frozenset
        have hnd : (Value.type "list" == Value.type "dict") = false := by decide
        have hl1 : (s.heap.push { cls := .type "set", dict := none, data := .set #[] 0 (.fresh 0 0 led) }).IsList l items := ⟨_, hol', rfl, nl, rfl⟩
        unfold Builtin.«set.__init__» noKeywords Builtin.Frozenset.updateFrom
        generalize hPI : pyIter = PI
        wp_walk
        subst hPI
        refine wpAny_pyIter_list hl1 ?_
        refine wpAny_bind (wpAny_runValue ?_)
        have hlS : l < s.heap.objs.size := Heap.lt_size hol
        have hh3 : A.in1.in1.in1.handled = none := by simp [hh]
        have hsz : (s.heap.push { cls := .type "set", dict := none, data := .set #[] 0 (.fresh 0 0 led) }).objs.size = s.heap.objs.size + 1 := Heap.size_push ..
        have hneI : l ≠ (s.heap.push { cls := .type "set", dict := none, data := .set #[] 0 (.fresh 0 0 led) }).objs.size := by rw [hsz]; exact Nat.ne_of_lt (Nat.lt_succ_of_lt hlS)
        have hSf : s.heap.objs.size ∉ [(s.heap.push { cls := .type "set", dict := none, data := .set #[] 0 (.fresh 0 0 led) }).objs.size, l] := by
          rw [hsz]
          intro z
          rcases List.mem_cons.mp z with z | z
          · exact absurd z (Nat.ne_of_lt (Nat.lt_succ_self _))
          · exact absurd (List.mem_singleton.mp z) (Nat.ne_of_gt hlS)
        have hval : ∀ (i : Nat) (v : Value), items[i]? = some v → ∃ t, v = .int ((fun i => ns.getD i 0) i) t := fun i v hv => PyProof.Rows.IntsAre.int_at hi i v (by rw [Array.getElem?_toList]; exact hv)
        refine set_fill ((Walks.list hh3 _ l hneI items).toS) s.heap.objs.size hSf led (fun i => ns.getD i 0) hval hb (items.size - 0) 0 _ (by omega) (Nat.zero_le _) ⟨⟨_, Heap.get?_push_size _ rfl, rfl, rfl⟩, hl1.push _⟩ ?hS0 ?hR
        case hS0 => exact setI_new (Heap.get?_push_of_some _ hS)
        case hR =>
          intro s' hm hS'
          obtain ⟨h', g', d', tk', os'⟩ := s'
          have eg : g' = s.gens := hm.gens
          have ed : d' = s.drawn := hm.drawn
          have eo : os' = s.os := hm.os
          subst eg; subst ed; subst eo
          show wpAny _ _ _ _ _ _
          refine wpAny_pure ?_
          show wpAny _ _ (ret Value.none) _ _ _
          refine wpAny_pure ⟨rfl, h', tk', rfl, hS', fun b o e => hm.heap b o (fun z => ?_) (Heap.get?_push_of_some _ (Heap.get?_push_of_some _ e))⟩
          have hlt := Heap.lt_size e
          rcases List.mem_cons.mp z with z | z
          · exact absurd z (Nat.ne_of_lt hlt)
          · have z' := List.mem_singleton.mp z
            rw [hsz] at z'
            exact absurd z' (Nat.ne_of_lt (Nat.lt_succ_of_lt hlt))
      · cases r2 with
        | error e => exact hr2
        | ok fl2 =>
          cases fl2 with
          | ret r =>
            obtain ⟨rfl, h', tk, rfl, hS', hk'⟩ := hr2
            repeat (any_goals (first | assumption | wp_step))
            exact h _ _ hS' hk'
          | _ => exact hr2.elim
    | _ => exact hr.elim
end
end PySem
set_option Elab.async false
set_option linter.all false
set_option maxRecDepth 100000
set_option maxHeartbeats 4000000
namespace PySem.F
end PySem.F
namespace L2
open PySem PySem.Spec PyProof.Rows
section
variable {P : Program} {w : World} {A : Around} {E : Value → Shared → Prop} {s : Shared}
end
end L2
set_option Elab.async false
set_option linter.all false
set_option maxRecDepth 100000
set_option maxHeartbeats 4000000
namespace L2
open PySem PySem.Spec PyProof.Rows
section
variable {P : Program} {w : World} {A : Around} {E : Value → Shared → Prop} {s : Shared}
end
end L2
set_option Elab.async false
set_option linter.all false
set_option maxRecDepth 100000
set_option maxHeartbeats 4000000
namespace L2
open PySem PySem.Spec PyProof.Rows
section
variable {P : Program} {w : World} {A : Around} {E : Value → Shared → Prop} {s : Shared}
theorem map_getD {α : Type} (d : α) (L : List α) : (List.range L.length).map (fun p => L.getD p d) = L := by
  refine List.ext_getElem? fun i => ?_
  by_cases h : i < L.length
  · simp [List.getD, h]
  · rw [List.getElem?_eq_none (by simp; omega), List.getElem?_eq_none (by omega)]
end
end L2
set_option Elab.async false
set_option linter.all false
set_option maxRecDepth 100000
set_option maxHeartbeats 4000000
namespace L2
open PySem PySem.Spec PyProof.Rows
section
variable {P : Program} {w : World} {A : Around} {E : Value → Shared → Prop} {s : Shared}
end
end L2
set_option Elab.async false
set_option linter.all false
set_option maxRecDepth 100000
set_option maxHeartbeats 1000000
namespace L2
open PySem PySem.Spec PyProof.Rows
theorem inV_ints (x : Int) (ns : List Int) : inV (.int x) (ns.map V.int) = decide (x ∈ ns) := by
  unfold inV
  rw [List.any_map, Bool.eq_iff_iff, decide_eq_true_iff, List.any_eq_true]
  constructor
  · rintro ⟨y, hy, e⟩
    have : y = x := by simpa [eqV] using e
    exact this ▸ hy
  · intro h
    exact ⟨x, h, by simp [eqV]⟩
theorem int_of_at {ns : List Int} {i : Nat} {x : V} (h : (ns.map V.int)[i]? = some x) : ∃ z, ns[i]? = some z ∧ x = .int z := by
  rw [List.getElem?_map] at h
  cases e : ns[i]? with
  | none => rw [e] at h; cases h
  | some z => rw [e] at h; exact ⟨z, rfl, (Option.some.inj h).symm⟩
theorem smlt {n m : Nat} (h : n ≤ m) (hm : m + 1 ≤ 1000000 := by decide) : n < sizeLine := small (n := n + 1) (m := m + 1) (Nat.succ_le_succ h) hm
theorem mem_take_snoc {xs : List Int} {i : Nat} {z : Int} (h : xs[i]? = some z) {x : Int} : x ∈ xs.take (i + 1) ↔ x ∈ xs.take i ∨ x = z := by
  rw [List.take_add_one, h]; simp
def del (H : Hp) (g : Addr) : Hp := fun b => if b = g then none else H b
theorem del_at {H : Hp} {g b : Addr} (h : b ≠ g) : del H g b = H b := if_neg h
theorem del_upd {H : Hp} {g : Addr} {o : HO} : del (upd H g o) g = del H g := by
  funext b
  by_cases e : b = g
  · unfold del; rw [if_pos e, if_pos e]
  · rw [del_at e, del_at e, upd_ne e]
theorem del_same (H : Hp) (g : Addr) : Same (del H g) H := fun b o e => by
  by_cases q : b = g
  · unfold del at e; rw [if_pos q] at e; cases e
  · rw [del_at q] at e; exact e
theorem del_mono {H H' : Hp} (s : Same H H') (g : Addr) : Same (del H g) (del H' g) := fun b o e => by
  by_cases q : b = g
  · unfold del at e; rw [if_pos q] at e; cases e
  · rw [del_at q] at e; rw [del_at q]; exact s b o e
def home (H H2 : Hp) (g : Addr) : Hp := newp H (del H2 g)
structure Bld {α : Type} (R : Rel α) (H H2 : Hp) (g : Addr) (xs : List α) : Prop where
  g0 : H g = none
  s : Same H H2
  ex : ∃ vs, H2 g = some (.lst vs) ∧ Paired (R (home H H2 g)) xs vs
section
variable {α : Type} {R : Rel α} {H H1 H2 H3 : Hp} {g : Addr} {xs : List α}
theorem Bld.start (s : Same H H1) (h : H1 g = none) : Bld R H (upd H1 g (.lst [])) g [] := ⟨s.free h, s.trans (same_upd h _), [], upd_same, .nil⟩
theorem Bld.go (m : MonoR R) (b : Bld R H H2 g xs) (s : Same H2 H3) : Bld R H H3 g xs := by
  obtain ⟨g0, s0, vs, h, p⟩ := b
  exact ⟨g0, s0.trans s, vs, s _ _ h, paired_mono m (newp_mono (Same.refl _) (del_mono s g)) p⟩
theorem Bld.push (m : MonoR R) (b : Bld R H H2 g xs) (s : Same H2 H3) {x : α} {v : V} (r : R (newp H2 H3) x v) : ∃ vs, H3 g = some (.lst vs) ∧ vs.length = xs.length ∧ Bld R H (upd H3 g (.lst (vs ++ [v]))) g (xs ++ [x]) := by
  have b3 := b.go m s
  obtain ⟨g0, s0, vs, h, p⟩ := b3
  refine ⟨vs, h, p.length.symm, g0, s0.put g0 _, vs ++ [v], upd_same, ?_⟩
  have e : home H (upd H3 g (.lst (vs ++ [v]))) g = home H H3 g := by unfold home; rw [del_upd]
  rw [e]
  refine Paired.app p (.cons (m.up (fun c o q => ?_) r) .nil)
  have hc2 : H2 c = none := by
    cases z : H2 c with
    | none => rfl
    | some u => rw [newp_none z] at q; cases q
  rw [newp_at hc2] at q
  have hcg : c ≠ g := fun z => by subst z; rw [b.ex.choose_spec.1] at hc2; cases hc2
  unfold home
  rw [newp_at (b.s.free hc2), del_at hcg]; exact q
theorem Bld.done (m : MonoR R) (b : Bld R H H2 g xs) : rLst R (newp H H2) xs (.ref g) := by
  obtain ⟨g0, s0, vs, h, p⟩ := b
  exact ⟨g, vs, rfl, by rw [newp_at g0]; exact h, paired_mono m (newp_mono (Same.refl _) (del_same _ _)) p⟩
theorem Bld.sq (b : Bld R H H2 g xs) : ∃ vs, H2 g = some (.lst vs) ∧ vs.length = xs.length := by
  obtain ⟨vs, h, p⟩ := b.ex
  exact ⟨vs, h, p.length.symm⟩
end
theorem newp_in {H H1 H2 : Hp} (s : Same H1 H2) : Same (newp H H1) (newp H H2) := newp_mono (Same.refl _) s
theorem atI_i {vs : List V} {z : Int} {v : V} (h0 : 0 ≤ z) (h : vs[z.toNat]? = some v) : atI vs z = some v := by
  have := atI_nat h
  rwa [Int.toNat_of_nonneg h0] at this
section
variable {X : Cx} {K : PySem.W.Frag} (hK : X.K = K)
include hK
theorem ixL : IxR X (rIxL K) := by subst hK; exact ix_list
theorem ixT : IxR X (rIxT K) := by subst hK; exact ix_tup
theorem slL : SlR X (rSlL K) := by subst hK; exact sl_list
theorem notInS : OpR X (compareOp .NotIn) (rIn K true) := by subst hK; exact op_notIn_seq
theorem clLen : CallR X (.builtin "len") (fun xs H Q => ∃ p ys, xs = [.ref p] ∧ (SqL K H p ys ∨ SqT K H p ys) ∧ Q (.int ys.length) H) := by subst hK; exact call_len_seq
theorem clIsi {T : String} : CallR X (.builtin "isinstance") (fun xs H Q => ∃ x S b, xs = [x, .ty T] ∧ kindV H x S ∧ PySem.W.kitOne K (.type S) (.type T) = some b ∧ Q (.bl b) H) := by subst hK; exact call_isi
theorem ptg2 {x y : Str} {p1 p2 pos : Pos} {k : Nat} (hc : X.calm = true) (hN : X.N.Nodup) (h0 : X.N[0]? = some x) (h1 : X.N[1]? = some y) (hx : X.env.scope.names.lookup x = some .local) (hy : X.env.scope.names.lookup y = some .local) :
    PTg X 2 (.Tuple [.Name x p1, .Name y p2] k pos) (ttTup K 2) := by subst hK; exact ptg_tup2 hc hN h0 h1 hx hy
end
theorem comp_listD {K : PySem.W.Frag} {a : Addr} {xs : List V} {tt : TTg} {tc : TT} {te : TE} {cap : List Nat} {σ : St} {H : Hp} {D : Addr → List V → Hp → Prop} (Pv : Nat → List V → Hp → Prop) (h0 : Pv 0 [] H) (hz : xs.length ≤ sizeLine) (hl : ∀ i ys H, i ≤ xs.length → Pv i ys H → SqL K H a xs ∧ ys.length ≤ i)
    (hs : ∀ i x ys H, xs[i]? = some x → Pv i ys H → tt x H fun ws => tc (ws.map some ++ capS σ cap) H fun b H4 => if b = true then te (ws.map some ++ capS σ cap) H4 fun y H5 => Pv (i + 1) (ys ++ [y]) H5 else Pv (i + 1) ys H4)
    (hd : ∀ ys H, Pv xs.length ys H → ∀ p, H p = none → D p ys H) :
    ∃ W : Nat → Nat → List V → Hp → Prop, (∃ m, W 0 m [] H) ∧ ∀ i m ys H2, W i m ys H2 →
    ((Itl K a).stop i H2 ∧ ys.length ≤ sizeLine ∧ ∀ p, H2 p = none → D p ys H2) ∨
    ((Itl K a).go i H2 ∧ ∃ N : List V → Hp → Prop, (∀ ys' H', N ys' H' → ys'.length ≤ sizeLine ∧ ∃ m', m' < m ∧ W (i + 1) m' ys' H') ∧
      ∀ x H3, (Itl K a).yld i H2 x H3 → tt x H3 fun ws => tc (ws.map some ++ capS σ cap) H3 fun b H4 =>
        if b = true then te (ws.map some ++ capS σ cap) H4 fun y H5 => N (ys ++ [y]) H5 else N ys H4) := by
  refine ⟨fun i m ys H => m = xs.length - i ∧ i ≤ xs.length ∧ Pv i ys H, ⟨xs.length, by simp, Nat.zero_le _, h0⟩, ?_⟩
  rintro i m ys H2 ⟨rfl, hi, p⟩
  obtain ⟨q, hy⟩ := hl i ys H2 hi p
  by_cases hlt : i < xs.length
  · refine .inr ⟨⟨xs, xs[i], q, by simp [hlt]⟩, Pv (i + 1), fun ys' H' r => ?_, fun x H3 y => ?_⟩
    · obtain ⟨_, h2⟩ := hl (i + 1) ys' H' hlt r
      exact ⟨by omega, xs.length - (i + 1), by omega, rfl, hlt, r⟩
    · obtain ⟨e, y⟩ := y
      subst e
      exact hs i x ys _ (y xs q) p
  · have e : i = xs.length := by omega
    subst e
    exact .inl ⟨⟨xs, q, Nat.le_refl _⟩, by omega, hd ys H2 p⟩
end L2
set_option Elab.async false
set_option linter.all false
set_option maxRecDepth 100000
set_option maxHeartbeats 1000000
namespace L2
open PySem PySem.Spec PyProof.Rows
theorem Inv.turnedL {X : Cx} {pins : List (Addr × Obj)} {σ : St} {H : Hp} {s : Shared} {h' : Heap} {t' : Nat} {ch : List Addr} (I : Inv X pins σ H s) (hf : ∀ b ∈ ch, FpOk X pins H b) (k : ∀ b o, b ∉ ch → s.heap.get? b = some o → h'.get? b = some o) :
    Inv X pins σ H { s with heap := h', toks := t' } := by
  have nit : ∀ b u, H b = some u → b ∉ ch := fun b u e z => by rw [(hf b z).1] at e; cases e
  refine I.step (g' := s.gens) (d' := s.drawn) (ch := ch) (fun b hb => ?_) (fun b o _ _ hc e _ => k b o hc e) (fun b o _ _ hc e _ => ⟨o.slots, k b o hc e⟩) (fun _ _ _ _ n => n)
    (fun b o hc e => ⟨o, k b o hc e⟩) (fun _ _ e => e) (fun _ _ _ e => e) (fun b ps e => ⟨#[], by rw [e]; simp⟩) (fun m hm => ?_) (fun b u e => ?_) I.bare
  · obtain ⟨_, h1, _, h3, h4, h5⟩ := hf b hb
    exact ⟨h3, h1, h4, h5⟩
  · obtain ⟨o, es, ep, ho, r⟩ := hm
    exact ⟨o, es, ep, k _ o (fun z => (hf _ z).2.1 rfl) ho, r⟩
  · refine (I.hok b u e).stay (fun c v hc q => k c v ?_ q) (fun _ q => q) fun _ _ q => q
    rcases hc with z | z
    · rw [z]; exact nit b u e
    · exact nit c _ z
theorem Inv.adopt {X : Cx} {pins : List (Addr × Obj)} {σ : St} {H : Hp} {s : Shared} {T : Addr} {o : HO} (I : Inv X pins σ H s) (hf : FpOk X pins H T) (new : ObjOk X.prog X.w (upd H T o) s.heap T o) : Inv X pins σ (upd H T o) s := by
  obtain ⟨h0, h1, h2, h3, h4, h5⟩ := hf
  refine I.step (h' := s.heap) (g' := s.gens) (d' := s.drawn) (t' := s.toks) (ch := [T]) (fun b hb => ?_) (fun b u _ _ _ e _ => e) (fun b u _ _ _ e _ => ⟨u.slots, e⟩) (fun b u hc e n => ?_)
    (fun b u _ e => ⟨u, e⟩) (fun b xs e => ?_) (fun b u v e => ?_) (fun b ps e => ⟨#[], ?_⟩) (fun m hm => hm) (I.hok.adopt h0 new) I.bare
  · have e : b = T := by simpa using hb
    subst e
    exact ⟨h3, h1, h4, h5⟩
  · rw [upd_ne (fun z => hc (by simp [z]))]; exact n
  · rw [upd_ne (ne_of_none e h0)]; exact e
  · rw [upd_ne (ne_of_none e h0)]; exact e
  · rw [upd_ne (ne_of_none e h0), e]; simp
def Ite (K : PySem.W.Frag) (a : Addr) : It :=
  ⟨fun i H => ∃ xs x, SqL K H a xs ∧ xs[i]? = some x, fun i H v H' => ∃ T x, v = .ref T ∧ H T = none ∧ (∀ xs, SqL K H a xs → xs[i]? = some x) ∧ H' = upd H T (.tup [.int (i : Nat), x]), fun i H => ∃ xs, SqL K H a xs ∧ xs.length ≤ i⟩
theorem turn_enum {P : Program} {w : World} {K : PySem.W.Frag} {elts : List Expr} {k : Nat} {pos : Pos} (a e it : Addr) (hne : e ≠ it) : Turn P w K (.Tuple elts k pos) (Ite K a) [e, it] e (fun i h => (∃ old, IsEnum h e it (i : Nat) old) ∧ h.IsListIter it a i) where
  mem := by simp
  obj := fun i h st b hb => by
    obtain ⟨⟨old, s1⟩, o, e1, c, d⟩ := st
    rcases List.mem_cons.mp hb with z | z
    · subst z
      exact ⟨_, s1, fun v z => by cases z⟩
    · have z : b = it := by simpa using z
      subst z
      exact ⟨o, e1, fun v z => by rw [d] at z; cases z⟩
  keep := fun i h h' st k => ⟨by obtain ⟨⟨old, s1⟩, _⟩ := st; exact ⟨old, k e (by simp) _ s1⟩, st.2.at fun o q => k it (by simp) o q⟩
  item := by
    intro X hP hw hK hc i pins s σ H E I hf st hg
    subst hP hw hK
    obtain ⟨xs, x, hq, hx⟩ := hg
    obtain ⟨its, rv, p, hz⟩ := I.list hq
    obtain ⟨u, hu, ru⟩ := rv.get hx
    obtain ⟨⟨old, s1⟩, s2⟩ := st
    have le : e < s.heap.objs.size := Heap.lt_size s1
    refine wpAny_pyNext_enum_item s1 s2 p.isList (x := u) (by simpa using hu) hne fun h' ho hi' ht hsz kp => ?_
    refine ⟨_, rfl, wpAny_letOwnedTupleGo_enum ho fun h2 he2 sb => ?_⟩
    have I1 : Inv X pins σ H { s with heap := h2, toks := s.toks + 1 } := I.turnedL (t' := s.toks + 1) (ch := [e, it]) hf fun b o hb q => by
      have hbe : b ≠ e := fun z => hb (by simp [z])
      have hbi : b ≠ it := fun z => hb (by simp [z])
      exact (sb.2 b hbe).trans (kp b o hbe hbi q)
    have hT : h2.get? s.heap.objs.size = some { cls := .type "tuple", data := .seq #[Value.int (i : Nat) s.toks, u] } := (sb.2 _ (Nat.ne_of_gt le)).trans ht
    have hfr : H s.heap.objs.size = none := I.hok.fresh (Nat.le_refl _)
    have vs2 : Vals [V.int (i : Nat), x] [Value.int (i : Nat) s.toks, u] := .cons ⟨s.toks, rfl⟩ (.cons ru .nil)
    have I2 := I1.adopt (o := .tup [.int (i : Nat), x]) (I.fpOk (Nat.le_refl _) hfr) ⟨(by show 2 ≤ sizeLine; decide), [Value.int (i : Nat) s.toks, u], vs2, ⟨_, hT, rfl, _, rfl⟩⟩
    have en : IsEnum h2 e it ((i + 1 : Nat) : Int) u := by
      have e1 : ((i + 1 : Nat) : Int) = ((i : Nat) : Int) + 1 := by omega
      rw [e1]; exact he2
    refine ⟨.ref s.heap.objs.size, _, I2, rfl, ⟨_, x, rfl, hfr, fun ys hy => by rw [I.list_inj hy hq]; exact hx, rfl⟩, ⟨⟨u, en⟩, hi'.at fun o q => (sb.2 it (Ne.symm hne)).trans q⟩, fun b hb => ?_⟩
    rw [upd_ne (fun z => ?_)]
    · exact (hf b hb).1
    · subst z
      rcases List.mem_cons.mp hb with z | z
      · exact absurd z (Nat.ne_of_gt le)
      · have z : s.heap.objs.size = it := by simpa using z
        obtain ⟨o, q, _⟩ := s2
        exact absurd z (Nat.ne_of_gt (Heap.lt_size q))
  done := by
    intro X hP hw hK hc i pins s σ H E I hf st hg
    subst hP hw hK
    obtain ⟨xs, hq, hx⟩ := hg
    obtain ⟨its, rv, p, hz⟩ := I.list hq
    obtain ⟨⟨old, s1⟩, s2⟩ := st
    have hl := rv.length
    refine wpAny_pyNext_enum_end (I.ok.hd hc) s1 s2 p.isList (by simp; omega) fun h' eb => ⟨rfl, ?_⟩
    exact I.turnedL (t' := s.toks) (ch := [it]) (fun b hb => hf b (List.mem_cons_of_mem _ hb)) fun b o hb q => eb b o (fun z => hb (by simp [z])) q
  self := fun _ _ _ _ _ st h => wpAny_pyIter_enum st.1.choose_spec h
def iEnum (K : PySem.W.Frag) (ta : TA) : TI := fun σ H R => ta σ H fun vs H1 => ∃ a, vs = [.ref a] ∧ (∃ xs, SqL K H1 a xs) ∧ R (Ite K a) H1
theorem pi_enum {X : Cx} {K : PySem.W.Frag} {elts : List Expr} {k : Nat} {tpos : Pos} {l : Expr} {ta : TA} {p pos : Pos} (hK : X.K = K) (hg : Gl X "enumerate") (hm : X.mg "enumerate" = none) (ha : PA X [l] ta) (hs : starEach [l] X.env = [(false, eval l X.env)] := by rfl) :
    PI X (.Tuple elts k tpos) (.Call (.Name "enumerate" p) [l] [] pos) (iEnum K ta) := by
  subst hK
  intro pins s σ H R I h
  refine Call_ (ld_blt I hg hm PyProof.Rows.boot_enumerate (PyProof.Rows.callWith_type1 (thn (ha pos pins s σ H _ I h) fun us s1 hm0 => ?_) hs rfl))
  obtain ⟨vs, H1, I1, r1, q1⟩ := hm0
  obtain ⟨a, rfl, ⟨xs, hq⟩, q⟩ := q1
  obtain ⟨u, rfl, ru⟩ := vals1 r1
  cases ru
  obtain ⟨its, rv, p, hz⟩ := I1.list hq
  refine call_enumerate_list p.isList fun h' he hi hsz kp => ?_
  refine wpAny_pyIter_enum he ?_
  refine ⟨s1.heap.objs.size + 1, [s1.heap.objs.size + 1, s1.heap.objs.size], _, _, H1, rfl, I1.kept (t' := s1.toks) kp, turn_enum a _ _ (Nat.succ_ne_self _), ⟨⟨_, he⟩, hi⟩, fun b hb => ?_, q⟩
  have hb' : s1.heap.objs.size ≤ b := by
    rcases List.mem_cons.mp hb with z | z
    · rw [z]; exact Nat.le_succ _
    · have z : b = s1.heap.objs.size := by simpa using z
      rw [z]; exact Nat.le_refl _
  exact I1.fpOk hb' (I1.hok.fresh hb')
end L2
set_option Elab.async false
set_option linter.all false
set_option maxRecDepth 100000
set_option maxHeartbeats 1000000
namespace L2
open PySem
section
variable {H H' : Hp} {r : Addr} {as : List Addr} {Ls : List (List Int)}
end
end L2
set_option Elab.async false
set_option linter.all false
set_option maxRecDepth 100000
set_option maxHeartbeats 1000000
namespace L2
open PySem PySem.Spec PyProof.Rows
section
variable {X : Cx}
theorem pe_gint {x : Str} {n : Int} {pos : Pos} (hm : ∃ t, X.mg x = some (.int n t)) (hg : Gl X x := by rfl) (hd : (x == ("__debug__" : Str)) = false := by decide) : PE X (.Name x pos) (tC (.int n)) := by
  obtain ⟨t, hm⟩ := hm
  exact pe_glob hg hm ⟨t, rfl⟩ hd
end
end L2
set_option Elab.async false
set_option linter.all false
set_option maxRecDepth 100000
set_option maxHeartbeats 1000000
namespace L2
open PySem PySem.Spec PyProof.Rows
section
variable {X : Cx}
end
end L2
set_option Elab.async false
set_option linter.all false
set_option maxRecDepth 100000
set_option maxHeartbeats 1000000
namespace L2
open PySem PySem.Spec PyProof.Rows
section
variable {X : Cx}
end
end L2
set_option Elab.async false
set_option linter.all false
set_option maxRecDepth 100000
set_option maxHeartbeats 4000000
namespace L2
open PySem PySem.Spec PyProof.Rows
section
variable {P : Program} {w : World} {A : Around} {E : Value → Shared → Prop} {s : Shared}
end
end L2
set_option Elab.async false
set_option linter.all false
set_option maxRecDepth 100000
set_option maxHeartbeats 1000000
namespace L2
open PySem PySem.Spec PySem.W PyProof.Rows PySem.Builtin PySem.Builtin.ObjectAttr PySem.Builtin.Getset_descriptor
structure XcK (K : Frag) (C : Addr) : Prop where
  ga : findIn K (.ref C) "__getattribute__" = some (some (.builtin "BaseException.__getattribute__"))
  gn : findIn K (.ref C) "__getattr__" = some none
  cl : findIn K (.ref C) "__class__" = some (some (.builtin "object.__class__"))
  sp : specialIn K (.builtin "object.__class__") "__get__" = some (some (.builtin "getset_descriptor.__get__"))
  tk : takesIn K (.builtin "object.__class__") = some true
  mo : mroIn K C (.type "object") = some true
  me : mroIn K C (.type "BaseException") = some true
  ci : (clsIn K C).isSome = true
def XObj (e C : Addr) (h : Heap) : Prop := ∃ (o : Obj) (vs : Array Value), h.get? e = some o ∧ o.cls = .ref C ∧ o.data = .fields vs
theorem XObj.ty {e C : Addr} {h : Heap} {M : Model} (x : XObj e C h) : Looks M h (typeOf (.ref e)) (.ref C) := by
  obtain ⟨o, vs, h1, h2, _⟩ := x
  rw [← h2]
  exact (Looks.ld h1).andThen .now
theorem XObj.keeps {e C : Addr} {h h' : Heap} (x : XObj e C h) (k : ∀ o, h.get? e = some o → h'.get? e = some o) : XObj e C h' := let ⟨o, vs, h1, h2⟩ := x; ⟨o, vs, k o h1, h2⟩
section
variable {prog : Program} {w : World} {A : Around} {E : Value → Shared → Prop} {s : Shared} {K : Frag} {x C : Addr}
theorem xc_find {M : Model} {h : Heap} (Z : XcK K C) (X : K.In h) : Looks M h (Builtin.ObjectAttr.find (.ref x) (.ref C) "__class__") (.bind (.builtin "getset_descriptor.__get__") (.builtin "object.__class__")) := by
  have L3 := looks_takesIn (M := M) X Z.tk
  have L4 : Looks M h (Builtin.ObjectAttr.dataDescriptor? (some (.builtin "object.__class__")) (some (.builtin "getset_descriptor.__get__"))) (some (.builtin "getset_descriptor.__get__", .builtin "object.__class__")) := L3.andThen .now
  have L2 : Looks M h (Builtin.ObjectAttr.getOf (some (.builtin "object.__class__"))) (some (.builtin "getset_descriptor.__get__")) := looks_specialIn X Z.sp
  exact (looks_findIn X Z.cl).andThen (L2.andThen (L4.andThen (Looks.tag .now)))
theorem xc_get {tp : Value} {R : Result → Shared → Prop} (Z : XcK K C) (X : K.In s.heap) (I : XObj x C s.heap) (h : R (.ok (.ret (.ref C))) s) :
    codeAny (model prog w) A (.call (.builtin "getset_descriptor.__get__") ⟨[.builtin "object.__class__", .ref x, tp], []⟩) R s := by
  obtain ⟨hp, gs, dr, tk, os⟩ := s
  have T0 := I.ty (M := model prog w)
  have T1 := looks_mroIn (M := model prog w) X Z.mo
  refine codeAny_call_builtin KF.slot_gs.plain KF.entry_gs ?_
  refine KF.slot_gs.check _ _ _ _ _ _ _ _ KF.type_class (KF.args_gs _ _ _) ?_
  unfold Builtin.«getset_descriptor.__get__»
  unfold descrGet
  rw [dga_obj]
  apply wpAny_bind
  apply wpAny_pure
  unfold descrGetter descrCheckInstance
  unfold descrNameAndClass isInstance
  simp only [KF.owner_class]
  repeat lk
  constructor
  · exact Code.quiet_builtin _ (by decide +kernel)
  · apply codeAny_builtin KF.entry_class
    unfold Builtin.«object.__class__»
    unfold shownTypeOf
    repeat lk
    exact h
theorem xc_check {nv : Value} {M : Model} {Q : Unit → Shared → Prop} (Z : XcK K C) (X : K.In s.heap) (I : XObj x C s.heap) (h : Q () s) : wpAny M A (checkBuiltinCall "BaseException.__getattribute__" ⟨[.ref x, nv], []⟩) Q E s := by
  obtain ⟨hh, g, d, t, os⟩ := s
  have L0 := I.ty (M := M)
  have L1 := looks_mroIn (M := M) X Z.me
  have k1 : builtinKind "BaseException.__getattribute__" = some .slot := by decide +kernel
  have k2 : splitId "BaseException.__getattribute__" = some ("BaseException", "__getattribute__") := by decide +kernel
  have k3 := F.args_bexc_ga (.ref x) nv
  simp only [checkBuiltinCall, k1, k2]
  refine wpAny_bind ?_
  unfold isInstance
  repeat (first | with_reducible refine L0.at ?_ | with_reducible refine L1.at ?_ | wp_step)
  exact h
theorem xc_call {tk : Tok} {R : Result → Shared → Prop} (Z : XcK K C) (X : K.In s.heap) (I : XObj x C s.heap) (h : R (.ok (.ret (.ref C))) s) :
    codeAny (model prog w) A (.call (.builtin "BaseException.__getattribute__") ⟨[.ref x, .str "__class__" tk], []⟩) R s := by
  refine codeAny_call_builtin F.excAttr_ValueError.ga.plain F.entry_bexc_ga (xc_check Z X I ?_)
  obtain ⟨hh, g, d, t, os⟩ := s
  have L0 := I.ty (M := model prog w)
  have L3 := xc_find (M := model prog w) (x := x) Z X
  unfold Builtin.«object.__getattribute__»
  repeat (any_goals (first | assumption | with_reducible refine L0.at ?_ | with_reducible refine L3.at ?_ | wp_step))
  refine xc_get Z X I ?_
  repeat (any_goals (first | assumption | wp_step))
theorem xc_class {Q : Option Value → Shared → Prop} (Z : XcK K C) (X : K.In s.heap) (I : XObj x C s.heap) (h : Q (some (.ref C)) { s with toks := s.toks + 1 }) : wpAny (model prog w) A (getAttr? (.ref x) "__class__") Q E s := by
  obtain ⟨hh, g, d, t, os⟩ := s
  have L0 := I.ty (M := model prog w)
  have L1 := looks_findIn (M := model prog w) X Z.ga
  have L2 := looks_findIn (M := model prog w) X Z.gn
  have L3 := xc_find (M := model prog w) (x := x) Z X
  unfold getAttr? getAttrBy? getAttrBy
  refine wpAny_bind (wpAny_mkText (wpAny_bind (wpAny_attempt (wpAny_holding (wpAny_bind (L0.at (wpAny_bind (L1.at ?_))))))))
  have f3 := F.excAttr_ValueError.ga.bind (.ref x)
  have e0 : (false && onTheHeap (Value.builtin "BaseException.__getattribute__")) = false := rfl
  have e2 : (Value.builtin "BaseException.__getattribute__" == Value.builtin "object.__getattribute__") = false := by decide +kernel
  have e1 : (onTheHeap (Value.ref C) && Value.builtin "BaseException.__getattribute__" == Value.builtin "object.__getattribute__") = false := by rw [e2]; rfl
  repeat (any_goals (first | assumption | with_reducible refine L0.at ?_ | with_reducible refine L1.at ?_ | with_reducible refine L2.at ?_ | wp_step))
  refine xc_call Z X I ?_
  repeat (any_goals (first | assumption | wp_step))
end
theorem cls_at {K : Frag} {C : Addr} {h : Heap} (X : K.In h) (z : (clsIn K C).isSome = true) : ∃ (o : Obj) (cd : ClassData), h.get? C = some o ∧ o.data = .cls cd := by
  obtain ⟨cd, hc⟩ := Option.isSome_iff_exists.mp z
  unfold clsIn at hc
  split at hc
  · rename_i ho
    exact ⟨_, _, X _ _ ho, rfl⟩
  · cases hc
theorem kitx_exc {K : Frag} {e C : Addr} (Z : XcK K C) : KitX K (.ref e) (.ref C) (XObj e C) where
  ty := fun _ _ _ p => p.ty
  it := fun M h X _ => by
    obtain ⟨o, cd, ho, hd⟩ := cls_at X Z.ci
    intro A' Q' E' s' k q
    unfold isType loadHead
    refine wpAny_bind (wpAny_loadPart (k _ _ ho) ?_)
    rw [hd]
    exact wpAny_pure q
  ne := fun h tp dd its n sl X htp => by
    obtain ⟨o, cd, ho, hd⟩ := cls_at X Z.ci
    refine Bool.eq_false_iff.mpr fun q => ?_
    have e' : C = tp := Value.ref.inj (beq_iff_eq.mp q)
    subst e'
    rw [ho] at htp
    cases htp
    cases hd
  ca := fun X p k => xc_class Z X p k
end L2
set_option Elab.async false
set_option linter.all false
set_option maxRecDepth 100000
set_option maxHeartbeats 1000000
namespace L2
open PySem PySem.Spec PyProof.Rows
theorem ObjOk.got {P : Program} {w : World} {H : Hp} {h : Heap} {a : Addr} {o : HO} (x : ObjOk P w H h a o) : ∃ ob, h.get? a = some ob := by
  cases o with
  | lst xs => obtain ⟨_, _, _, _, e⟩ := x; exact ⟨_, e⟩
  | tup xs => obtain ⟨_, _, _, _, e, _⟩ := x; exact ⟨_, e⟩
  | dK kvs => obtain ⟨_, _, _, _, _, _, _, e, _⟩ := x; exact ⟨_, e⟩
  | dT kvs => obtain ⟨_, _, _, _, _, _, _, e, _⟩ := x; exact ⟨_, e⟩
  | set S n => obtain ⟨_, _, _, _, e, _⟩ := x; exact ⟨_, e⟩
  | ins C dx fs => obtain ⟨_, _, _, e, _⟩ := x; exact ⟨_, e⟩
  | own y => exact x
  | xd fs => obtain ⟨_, ⟨_, _, _, e, _⟩, _⟩ := x; exact ⟨_, e⟩
  | rng lo hi => obtain ⟨_, _, _, e⟩ := x; exact ⟨_, e⟩
  | frz ob u => exact ⟨_, x.1⟩
  | tbl ps => exact ⟨_, x⟩
  | met f y => exact ⟨_, x⟩
  | ext φ => exact x.2.1
theorem HOk.by {P : Program} {w : World} {H : Hp} {h h' B : Heap} (x : HOk P w H h) (hB : ∀ b u, H b = some u → ∃ o, B.get? b = some o) (k1 : ∀ b o, B.get? b = some o → h.get? b = some o) (k2 : ∀ b o, B.get? b = some o → h'.get? b = some o) : HOk P w H h' := fun a o e =>
  (x a o e).stay (fun b u hb q => by
    have ht : ∃ v, H b = some v := by
      rcases hb with rfl | hb
      · exact ⟨_, e⟩
      · exact ⟨_, hb⟩
    obtain ⟨v, hv⟩ := ht
    obtain ⟨ob, ho⟩ := hB b v hv
    have := k1 b ob ho
    rw [q] at this
    cases this
    exact k2 b _ ho) (fun _ q => q) fun _ _ q => q
def CXR (P : Program) (w : World) : CXT := fun outer H s E e s' => ∃ (ea C t : Addr) (H' : Hp) (B : Heap), e = .ref ea ∧ s'.os = s.os ∧ AllBare s'.gens ∧ Un (frs outer) [] H H' s.heap s'.heap ∧ HOk P w H' s'.heap ∧
  Heap.FlyingW B outer ea (.ref C) (.ref t) s'.heap ∧ (∀ b o, s.heap.get? b = some o → b ∉ frs outer → ∃ o', B.get? b = some o') ∧ (∀ b u, H' b = some u → ∃ o, B.get? b = some o) ∧ E (.ref C) none H'
theorem passX0 {P : Program} {w : World} {X : Cx} : Passes (CXR P w) X E0 := fun _ _ _ _ _ _ _ ⟨_, _, _, _, _, _, _, _, _, _, _, _, _, h⟩ => h.elim
section
variable {X : Cx} {pins : List (Addr × Obj)} {σ : St} {H : Hp} {s : Shared}
theorem Inv.notStk (I : Inv X pins σ H s) {b : Addr} {o : Obj} (e : X.s₀.heap.get? b = some o) (h : b ∉ X.fs) : b ∉ frs X.stack := fun z => by
  rcases List.mem_cons.mp (I.stkSub b z) with q | q
  · exact absurd q (Nat.ne_of_lt (Nat.lt_of_lt_of_le (Heap.lt_size e) I.ok.above))
  · exact h q
theorem Inv.stkSup (I : Inv X pins σ H s) {b : Addr} (h : b ∈ X.fs) : b ∈ frs X.stack := by
  rcases I.ok.stk with e | ⟨e, hf⟩
  · rw [e]; exact h
  · rw [e]; unfold frs; rw [List.filterMap_cons, hf]; exact List.mem_cons_of_mem _ h
theorem leaves_made {M : Model} {E2 : Value → Shared → Prop} {h' : Heap} {e C : Addr} {us : List Value} {E : XK} (I : Inv X pins σ H s) (hst : X.stack = X.env :: X.outer) (hf : X.env.frame = some X.env.locals) (hex : X.ex = [])
    (hm : Heap.MadeExcOf s.heap h' e (.ref C) us) (hE : E (.ref C) none H) : wpAny M X.A (leaving X.env (.ref e)) (fun _ s'' => CXR X.prog X.w X.outer X.H₀ X.s₀ E (.ref e) s'') E2 { s with heap := h' } := by
  have hfun := I.stack
  have hin : ∀ env ∈ X.stack, ∀ a, env.frame = some a → a ∈ frs X.stack := fun env he a ha => List.mem_filterMap.mpr ⟨env, he, ha⟩
  have hB1 : ∀ b o, s.heap.get? b = some o → b ∉ frs X.stack → (PySem.W.hideAll s.heap (frs X.stack)).get? b = some o := fun b o q n => PySem.W.hideAll_get _ q n
  have hB0 : ∀ b o, (PySem.W.hideAll s.heap (frs X.stack)).get? b = some o → s.heap.get? b = some o := fun b o q => PySem.W.of_hideAll _ q
  have hfun2 := PySem.W.funFrames_hide hfun hin
  have noex : ∀ b, b ∉ X.ex := fun b z => by rw [hex] at z; cases z
  rw [hst] at hfun2
  have trk : ∀ b u, H b = some u → ∃ o, (PySem.W.hideAll s.heap (frs X.stack)).get? b = some o := fun b u q => by
    obtain ⟨o, ho⟩ := (I.hok b u q).got
    exact ⟨o, hB1 b o ho fun z => by rw [I.stkFree b z] at q; cases q⟩
  have old : ∀ b o, X.s₀.heap.get? b = some o → b ∉ X.fs → ∃ o', (PySem.W.hideAll s.heap (frs X.stack)).get? b = some o' := fun b o q n => by
    obtain ⟨o', ho⟩ := I.base.there b o q (noex b)
    exact ⟨o', hB1 b o' ho (I.notStk q n)⟩
  refine wpAny_leaves_madeW (base := PySem.W.hideAll s.heap (frs X.stack)) (hst ▸ I.ok.frames) hf hB0 (hst ▸ hfun2) hm fun h2 t x1 x2 x3 x4 => ?_
  have fr : ∀ b o, s.heap.get? b = some o → b ∈ X.fs → ∃ sl, h2.get? b = some { o with slots := sl } := fun b o q hb => by
    obtain ⟨_, o', ho', hd⟩ := I.funs.mem hb
    rw [q] at ho'; cases ho'
    exact x4 b o (hm.keeps b o q) hd
  refine ⟨e, C, t, H, _, rfl, I.os, I.bare, ⟨fun b o q n hb _ => ?_, fun b o q n hb _ => ?_, fun b o q n _ => I.base.free b o q n (noex b), fun b o q _ => ?_, I.base.tups, I.base.frzs, I.base.tbls⟩, I.hok.by trk hB0 x1.1, x1, old, trk, hE⟩
  · exact x1.1 b o (hB1 b o (I.base.keep b o q n hb (noex b)) (I.notStk q hb))
  · obtain ⟨sl, e1⟩ := I.base.slot b o q n hb (noex b)
    obtain ⟨sl2, e2⟩ := fr b _ e1 hb
    exact ⟨sl2, e2⟩
  · by_cases hb : b ∈ X.fs
    · obtain ⟨o', e1⟩ := I.base.there b o q (noex b)
      obtain ⟨sl2, e2⟩ := fr b _ e1 hb
      exact ⟨_, e2⟩
    · obtain ⟨o', e1⟩ := old b o q hb
      exact ⟨_, x1.1 b o' e1⟩
theorem leaves_on {M : Model} {E2 : Value → Shared → Prop} {e : Value} {s' : Shared} {E : XK} (I : Inv X pins σ H s) (hst : X.stack = X.env :: X.outer) (hf : X.env.frame = some X.env.locals) (hex : X.ex = [])
    (h : CXR X.prog X.w X.stack H s E e s') : wpAny M X.A (leaving X.env e) (fun _ s'' => CXR X.prog X.w X.outer X.H₀ X.s₀ E e s'') E2 s' := by
  obtain ⟨ea, C, t, H', B, rfl, os, bare, un, hok, fl, b1, b2, hE⟩ := h
  have noex : ∀ b, b ∉ X.ex := fun b z => by rw [hex] at z; cases z
  have fl0 := fl
  rw [hst] at fl0
  refine wpAny_leaves_onW (hst ▸ I.ok.frames) hf fl0 fun h2 x1 x2 => ?_
  have nex : ∀ b : Addr, b ∉ ([] : List Addr) := fun b z => by cases z
  have old : ∀ b o, X.s₀.heap.get? b = some o → b ∉ X.fs → ∃ o', B.get? b = some o' := fun b o q n => by
    obtain ⟨o', ho⟩ := I.base.there b o q (noex b)
    exact b1 b o' ho (I.notStk q n)
  have fr : ∀ b o, s'.heap.get? b = some o → b ∈ X.fs → ∃ sl, h2.get? b = some { o with slots := sl } := fun b o q hb => by
    obtain ⟨_, o', ho', hd⟩ := fl.2.2.1.mem (I.stkSup hb)
    rw [q] at ho'; cases ho'
    exact x2 b o q hd
  refine ⟨ea, C, t, H', B, rfl, os.trans I.os, bare, ⟨fun b o q n hb _ => ?_, fun b o q n hb _ => ?_, fun b o q n _ => ?_, fun b o q _ => ?_, fun b xs q => un.tups b xs (I.base.tups b xs q), fun b o u q => un.frzs b o u (I.base.frzs b o u q), fun b ps q => ?_⟩, hok.by b2 fl.1 x1.1, x1, old, b2, hE⟩
  · have e1 := I.base.keep b o q n hb (noex b)
    have e2 := un.keep b o e1 (I.base.free b o q n (noex b)) (I.notStk q hb) (nex b)
    obtain ⟨o', e3⟩ := old b o q hb
    have e4 := fl.1 b o' e3
    rw [e2] at e4; cases e4
    exact x1.1 b _ e3
  · obtain ⟨sl, e1⟩ := I.base.slot b o q n hb (noex b)
    obtain ⟨sl1, e2⟩ := un.slot b _ e1 (I.base.free b o q n (noex b)) (I.stkSup hb) (nex b)
    obtain ⟨sl2, e3⟩ := fr b _ e2 hb
    exact ⟨sl2, e3⟩
  · obtain ⟨o', e1⟩ := I.base.there b o q (noex b)
    exact un.free b o' e1 (I.base.free b o q n (noex b)) (nex b)
  · by_cases hb : b ∈ X.fs
    · obtain ⟨o', e1⟩ := I.base.there b o q (noex b)
      obtain ⟨o2, e2⟩ := un.there b o' e1 (nex b)
      obtain ⟨sl2, e3⟩ := fr b _ e2 hb
      exact ⟨_, e3⟩
    · obtain ⟨o', e1⟩ := old b o q hb
      exact ⟨_, x1.1 b o' e1⟩
  · obtain ⟨m1, e1⟩ := I.base.tbls b ps q
    obtain ⟨m2, e2⟩ := un.tbls b _ e1
    exact ⟨m1 ++ m2, by rw [e2, Array.append_assoc]⟩
end
end L2
set_option Elab.async false
set_option linter.all false
set_option maxRecDepth 100000
set_option maxHeartbeats 1000000
namespace L2
open PySem PySem.Spec PyProof.Rows
abbrev bmV : List Value := [.type "ValueError", .type "Exception", .type "BaseException", .type "object"]
theorem exc_at {K : PySem.W.Frag} {h : Heap} {C : Addr} {bmB : List Value} {newId : String} (X : K.In h) (q : PySem.W.excIn K C bmB newId = true) :
    ∃ bm N nm qn bs hdct sn sub ab col dd k0 k1 k2 k3 k5 mN, h.get? C = some (excClassObj nm qn C N bs bm hdct sn sub ab col dd k0 k1 k2 k3 k5 newId) ∧ h.Ns N mN ∧ mN "__init__" = none ∧ OwnTail h bmB bm := by
  unfold PySem.W.excIn at q
  split at q
  case h_2 => cases q
  case h_1 dd cd sl ho =>
    split at q
    case h_2 => cases q
    case h_1 C' bm k0 k1 k2 k3 n k5 hm hs =>
      simp only [Bool.and_eq_true, beq_iff_eq, Bool.not_eq_true'] at q
      obtain ⟨⟨⟨⟨⟨z1, z2⟩, z3⟩, z4⟩, z5⟩, z6⟩ := q
      cases z1
      cases z2
      obtain ⟨nm, bs, mro, ns, qn, hd, sn, sub, ab, col, del⟩ := cd
      cases hm
      cases z3
      have es : sl = #[k0, k1, k2, k3, some (.builtin newId), k5] := by
        cases sl with
        | mk l => simp only at hs; rw [hs]
      cases es
      exact ⟨bm, ns, nm, qn, bs, hd, sn, sub, ab, col, dd, k0, k1, k2, k3, k5, _, X _ _ ho, Heap.Ns.of_isNs (PySem.W.isNs_of_in X z5), PySem.W.nsMap_none_of_in X z5 z6, PySem.W.tail_of_in X z4⟩
def Raises (X : Cx) (E : XK) : Prop := ∀ (pins : List (Addr × Obj)) (σ : St) (H : Hp) (s : Shared) (h' : Heap) (e C : Addr) (us : List Value), Inv X pins σ H s → Heap.MadeExcOf s.heap h' e (.ref C) us → E (.ref C) none H → X.xe (.ref e) { s with heap := h' }
def tRaise (t : TA) (C : Addr) (E : XK) : TS := fun _ σ H => t σ H fun vs H1 => vs.length ≤ sizeLine ∧ E (.ref C) none H1
section
variable {X : Cx}
theorem ps_raise {E : XK} {x : Str} {C : Addr} {e0 : Expr} {rest : List Expr} {t : TA} {np cpos pos : Pos} (hr : Raises X E) (hm : X.mg x = some (.ref C)) (q : PySem.W.excIn X.K C bmV "ValueError.__new__" = true) (ha : PA X (e0 :: rest) t) (hc : X.calm = true := by rfl) (hg : Gl X x := by rfl)
    (hdb : (x == ("__debug__" : Str)) = false := by decide) (he : starEach (e0 :: rest) X.env = (false, eval e0 X.env) :: starEach rest X.env := by rfl) (hpl : (backTo cpos (starEach rest X.env)).any (·.1) = false := by rfl) :
    PS X (.Raise (some (.Call (.Name x np) (e0 :: rest) [] cpos)) none pos) (tRaise t C E) := by
  intro pins s σ H D I h
  obtain ⟨tl, N, nm, qn, bs, hdct, sn, sub, ab, col, dd, k0, k1, k2, k3, k5, mN, hC, hN, hni, T⟩ := exc_at I.mod.kin q
  refine wpAny_Raise_call_subT (C := C) (nm := nm) (q := qn) (N := N) (bs := bs) (bm := tl) (hdct := hdct) (sn := sn) (sub := sub) (ab := ab) (col := col) (dd := dd) (k0 := k0) (k1 := k1) (k2 := k2) (k3 := k3) (k5 := k5)
    PySem.F.excBase_ValueError (mN := mN) (T.hasType PySem.F.excBase_ValueError.hasBase) (I.ok.hd hc) ?_ hni (ld_glob I hg hm ⟨rfl, ?_⟩ hdb)
  · rw [he]
    show (false || (backTo cpos (starEach rest X.env)).any (·.1)) = false
    rw [hpl]; rfl
  have h2 := ha cpos pins s σ H _ I h
  rw [he] at h2 ⊢
  refine Calls.evalArgs_plain (thn h2 fun us s2 hm0 => ?_)
  obtain ⟨vs, H1, I1, r1, q1, q2⟩ := hm0
  exact ⟨rfl, by rw [← r1.length]; exact q1, I1.bk _ _ hC, hN.keeps I1.bk, T.keeps I1.bk, fun h' e hm => hr pins σ H1 s2 h' e C us I1 hm q2⟩
end
section
variable {P : Program} {w : World} {K : PySem.W.Frag} {mg : Str → Option Value} {base : Heap}
abbrev cxR (P : Program) (w : World) (K : PySem.W.Frag) (mg : Str → Option Value) (base : Heap) (N : List Str) (qual : Str) (scope : Scope) (f : Addr) (cd : Value) (A : Around) (outer : List Env) (s : Shared) (H : Hp) (E : XK) : Cx := cxOf (CXR P w) P w K mg base N qual scope f cd A outer s H E
theorem raisesR {N : List Str} {qual : Str} {scope : Scope} {f : Addr} {cd : Value} {A : Around} {outer : List Env} {s : Shared} {H : Hp} {E : XK} : Raises (cxR P w K mg base N qual scope f cd A outer s H E) E :=
  fun pins σ H1 s1 h' e C us I hm hE => leaves_made (X := cxR P w K mg base N qual scope f cd A outer s H E) I rfl rfl rfl hm hE
theorem passR {N : List Str} {qual : Str} {scope : Scope} {f : Addr} {cd : Value} {A : Around} {outer : List Env} {s : Shared} {H : Hp} {E : XK} : Passes (CXR P w) (cxR P w K mg base N qual scope f cd A outer s H E) E :=
  fun pins σ H1 s1 e s' I h => leaves_on (X := cxR P w K mg base N qual scope f cd A outer s H E) I rfl rfl rfl h
structure DnX (P : Program) (w : World) (K : PySem.W.Frag) (mg : Str → Option Value) (base : Heap) (x : Str) (n : Nat) (ps : List Str) (sp : Sp) : Prop where
  ex : ∃ f fd, FnOk P w K mg base (CXR P w) n f fd ps sp ∧ mg x = some (.ref f) ∧ PySem.W.keepIn K (.ref f) = true ∧ Binds K fd ps []
theorem DefAt.okX {x : Str} {st : Stmt} {N ps : List Str} {k : Nat} {sp : Sp} (F : DefAt K mg x st ps) (S : FnScope N ps (defScope st)) (len : ∀ vs H Q E, sp vs H Q E → vs.length = ps.length)
    (hbody : ∀ (f : Addr) (cdv : Value) (A : Around) (outer : List Env) (s : Shared) (H : Hp) (vs : List V) (Q : VK) (E : XK), Room k (A.deeper (envOfC x (defScope st) s.heap.objs.size f cdv)) → sp vs H Q E →
      ∃ t, PSs (cxR P w K mg base N x (defScope st) f cdv A outer s H E) (defBody st) t ∧ t { nx := fun _ H' => Q .non H', rt := Q } (start N vs) H) : DnX P w K mg base x (k + 1) ps sp := by
  obtain ⟨f, fd, F, hm, hb⟩ := F.ex
  have kp := F.kp
  obtain ⟨oc, od, kV, doc, pm, an, cdv, ct, osl, rfl, lk, hcd⟩ := F.ex
  exact ⟨f, _, fn_of lk hcd S len fun A outer s H vs Q E hr hsp => hbody f cdv A outer s H vs Q E hr hsp, hm, kp, hb⟩
end
theorem pe_dnX {X : Cx} {E : XK} {x : Str} {n k : Nat} {ps : List Str} {sp : Sp} {e : Expr} {es : List Expr} {t : TA} {p pos : Pos} (hx : Passes (CXR X.prog X.w) X E) (D : DnX X.prog X.w X.K X.mg X.base x n ps sp) (hr : Room k X.A) (ha : PA X (e :: es) t) (hk : n ≤ k := by decide) (hg : Gl X x := by rfl)
    (hdb : (x == ("__debug__" : Str)) = false := by decide) (he : starEach (e :: es) X.env = (false, eval e X.env) :: starEach es X.env := by rfl) (hpl : (backTo pos (starEach es X.env)).any (·.1) = false := by rfl) :
    PE X (.Call (.Name x p) (e :: es) [] pos) (tCall sp [] E t) := by
  obtain ⟨f, fd, F, hm, kp, hb⟩ := D.ex
  exact pe_call F (hr.mono hk) hg hm kp hb .nil hx ha hdb he hpl
end L2
set_option Elab.async false
set_option linter.all false
set_option maxRecDepth 100000
set_option maxHeartbeats 1000000
namespace L2
open PySem PySem.Spec PyProof.Rows
def xcO (e C : Addr) : HO := .ext fun h => XObj e C h
theorem fly_obj {B h : Heap} {l : List Env} {e C : Addr} {a0 : Value} (f : Heap.FlyingW B l e (.ref C) a0 h) : XObj e C h := by
  obtain ⟨_, _, _, oe, ws, _, _, _, he, hc, hd, _⟩ := f
  exact ⟨oe, ws, he, hc.1, hd⟩
abbrev Cx.suite (X : Cx) (e : Addr) : Cx := { X with A := X.A.mark (some (.ref e)), calm := false, xe := fun _ _ => False }
section
variable {X : Cx} {pins : List (Addr × Obj)} {σ : St} {H : Hp} {s : Shared}
theorem Inv.suite (I : Inv X pins σ H s) (e : Addr) : Inv (X.suite e) pins σ H s :=
  ⟨⟨I.ok.mod, I.ok.kind, I.ok.glob, I.ok.blt, I.ok.above, I.ok.inj, I.ok.has, I.ok.cab, (fun z => by cases z), I.ok.frames, I.ok.stk, I.ok.exf, I.ok.bs, I.ok.bsz, I.ok.noex, I.ok.exfs, I.ok.funs, I.ok.frf⟩, I.os, I.bare, I.base, I.loc, I.cell, I.free, I.freeC, I.pin, I.hok, I.len⟩
theorem Inv.unsuite {e : Addr} (hh : X.A.handled = none) (I : Inv (X.suite e) pins σ H s) : Inv X pins σ H s :=
  ⟨⟨I.ok.mod, I.ok.kind, I.ok.glob, I.ok.blt, I.ok.above, I.ok.inj, I.ok.has, I.ok.cab, (fun _ => hh), I.ok.frames, I.ok.stk, I.ok.exf, I.ok.bs, I.ok.bsz, I.ok.noex, I.ok.exfs, I.ok.funs, I.ok.frf⟩, I.os, I.bare, I.base, I.loc, I.cell, I.free, I.freeC, I.pin, I.hok, I.len⟩
theorem Inv.forget {i : Nat} {n : Str} {h' : Heap} {v : Option Value} {m : Str → Option Value} {t' : Nat} (I : Inv X pins σ H s) (hN : X.N.Nodup) (hi : X.N[i]? = some n) (hn : s.heap.Ns X.env.locals m) (hn' : h'.Ns X.env.locals (fun x => if x = n then v else m x)) (hs : Heap.SameBut X.env.locals s.heap h') :
    Inv X pins (σ.set i none) H { s with heap := h', toks := t' } := by
  obtain ⟨oL, _, _, hoL, _⟩ := id hn
  have neL : ∀ b o, X.s₀.heap.get? b = some o → b ≠ X.env.locals := fun b o e => Nat.ne_of_lt (Nat.lt_of_lt_of_le (Heap.lt_size e) I.ok.above)
  have gen : ∀ b o, b ≠ X.env.locals → s.heap.get? b = some o → h'.get? b = some o := fun b o hb e => (hs.2 b hb).trans e
  refine ⟨I.ok, I.os, I.bare, ⟨fun b o e n0 hb hx => ?_, fun b o e n0 hb hx => ?_, I.base.free, fun b o e hx => ?_, I.base.tups, I.base.frzs, I.base.tbls⟩, ⟨_, hn', fun j y v' e1 e2 e3 => ?_⟩, fun y c e => ?_, I.free, I.freeC, fun p hp => ?_, fun b ob e => ?_, by simpa using I.len⟩
  · exact gen _ _ (neL b o e) (I.base.keep b o e n0 hb hx)
  · obtain ⟨sl, e1⟩ := I.base.slot b o e n0 hb hx
    exact ⟨sl, gen _ _ (neL b o e) e1⟩
  · obtain ⟨o', e1⟩ := I.base.there b o e hx
    exact ⟨o', gen _ _ (neL b o e) e1⟩
  · by_cases hj : j = i
    · subst hj
      rw [List.getElem?_set] at e2
      simp only [if_true] at e2
      split at e2 <;> cases e2
    · rw [List.getElem?_set_ne (Ne.symm hj)] at e2
      obtain ⟨m0, hm0, hl⟩ := I.loc
      obtain ⟨u', r', q⟩ := hl j y v' e1 e2 e3
      have hyn : y ≠ n := fun e => hj (nodup_ix hN e1 (e ▸ hi))
      refine ⟨u', r', ?_⟩
      rcases q with ⟨k, e⟩ | ⟨k, c, e, z⟩
      · refine .inl ⟨k, ?_⟩
        have : m0 y = m y := by
          obtain ⟨o1, es1, ep1, p1, p2, _, p3⟩ := hm0
          obtain ⟨o2, es2, ep2, q1, q2, _, q3⟩ := id hn
          rw [p1] at q1; cases q1
          rw [p2] at q2; cases q2
          rw [← p3 y, ← q3 y]
        simp [hyn, ← this, e]
      · exact .inr ⟨k, c, e, z.sameBut hs (I.cne y c e)⟩
  · obtain ⟨w', z⟩ := I.cell y c e
    exact ⟨w', z.sameBut hs (I.cne y c e)⟩
  · obtain ⟨e, n0, ne, nf, d⟩ := I.pin p hp
    exact ⟨gen _ _ ne e, n0, ne, nf, d⟩
  · refine (I.hok b ob e).stay (fun c w' hc q => gen c w' ?_ q) (fun _ q => q) fun _ _ q => q
    rintro rfl
    rcases hc with rfl | hc
    · rw [I.free] at e; cases e
    · rw [I.free] at hc; cases hc
theorem fly_inv {s' : Shared} {h5 B : Heap} {ea C t : Addr} {a5 : Value} {H' : Hp} (I : Inv X pins σ H s) (os : s'.os = s.os) (bare : AllBare s'.gens) (un : Un (frs X.stack) [] H H' s.heap s'.heap) (hok : HOk X.prog X.w H' s'.heap)
    (fl : Heap.FlyingW B X.stack ea (.ref C) (.ref t) s'.heap) (b1 : ∀ b o, s.heap.get? b = some o → b ∉ frs X.stack → ∃ o', B.get? b = some o') (b2 : ∀ b u, H' b = some u → ∃ o, B.get? b = some o)
    (fl5 : Heap.FlyingW B X.stack ea (.ref C) a5 h5) (u5 : s'.heap.UpToSlots h5) : H' ea = none ∧ Inv X pins σ (upd H' ea (xcO ea C)) { s' with heap := h5 } := by
  have nex : ∀ b : Addr, b ∉ ([] : List Addr) := fun b z => by cases z
  have hea : H' ea = none := by
    cases q : H' ea with
    | none => rfl
    | some u => obtain ⟨o, ho⟩ := b2 ea u q; rw [fl.2.1] at ho; cases ho
  have fr : ∀ b o, s'.heap.get? b = some o → b ∈ frs X.stack → ∃ sl, h5.get? b = some { o with slots := sl } := fun b o q hb => by
    obtain ⟨_, o', ho', hd⟩ := fl.2.2.1.mem hb
    rw [q] at ho'; cases ho'
    exact u5 b o q hd
  have nea : ∀ b o, s.heap.get? b = some o → b ≠ ea := fun b o q z => by
    subst z
    by_cases hb : b ∈ frs X.stack
    · obtain ⟨_, o', ho', hd⟩ := fl.2.2.1.mem hb
      obtain ⟨oe, ws, he, _, hdat⟩ := fly_obj fl
      rw [he] at ho'; cases ho'
      exact hd _ hdat
    · obtain ⟨o', ho⟩ := b1 b o q hb
      rw [fl.2.1] at ho; cases ho
  refine ⟨hea, I.call' (s' := { s' with heap := h5 }) (ch := []) os ⟨fun b o q n hb _ => ?_, fun b o q n hb _ => ?_, fun b o q n _ => ?_, fun b o q _ => ?_, fun b xs q => ?_, fun b o u q => ?_, fun b ps q => ?_⟩ ?_ bare fun b z => absurd z (nex b)⟩
  · have e2 := un.keep b o q n hb (nex b)
    obtain ⟨o', e3⟩ := b1 b o q hb
    have e4 := fl.1 b o' e3
    rw [e2] at e4; cases e4
    exact fl5.1 b _ e3
  · obtain ⟨sl1, e2⟩ := un.slot b _ q n hb (nex b)
    obtain ⟨sl2, e3⟩ := fr b _ e2 hb
    exact ⟨sl2, e3⟩
  · rw [upd_ne (nea b o q)]; exact un.free b o q n (nex b)
  · by_cases hb : b ∈ frs X.stack
    · obtain ⟨o2, e2⟩ := un.there b o q (nex b)
      obtain ⟨sl2, e3⟩ := fr b _ e2 hb
      exact ⟨_, e3⟩
    · obtain ⟨o', e1⟩ := b1 b o q hb
      exact ⟨_, fl5.1 b o' e1⟩
  · have := un.tups b xs q
    rw [upd_ne (ne_of_none this hea)]; exact this
  · have := un.frzs b o u q
    rw [upd_ne (ne_of_none this hea)]; exact this
  · obtain ⟨m2, e2⟩ := un.tbls b _ q
    exact ⟨m2, by rw [upd_ne (ne_of_none e2 hea)]; exact e2⟩
  · have ok5 := hok.by b2 fl.1 fl5.1
    intro b u e
    by_cases hb : b = ea
    · subst hb
      rw [upd_same] at e; cases e
      have x := fly_obj fl5
      obtain ⟨oe, ws, he, r⟩ := id x
      exact ⟨x, ⟨oe, he⟩, fun h1 h2 p k => p.keeps k⟩
    · rw [upd_ne hb] at e
      exact (ok5 b u e).stay (fun _ _ _ q => q) (fun c q => by rw [upd_ne (ne_of_none q hea)]; exact q) fun c xs q => by rw [upd_ne (ne_of_none q hea)]; exact q
theorem caught {s' : Shared} {e : Value} {E : XK} {D : Ends} {i : Nat} {n g : Str} {G : Addr} {b0 : Stmt} {suite : List Stmt} {hpos np : Pos} {th : TS} (I : Inv X pins σ H s) (hst : X.stack = X.env :: X.outer) (hf : X.env.frame = some X.env.locals) (hc : X.calm = true)
    (hN : X.N.Nodup) (hi : X.N[i]? = some n) (hl : X.env.scope.names.lookup n = some .local) (hg : Gl X g) (hm : X.mg g = some (.ref G)) (hs : ∀ ea, PSs (X.suite ea) (b0 :: suite) th) (hdb : (g == ("__debug__" : Str)) = false)
    (hx : CXR X.prog X.w X.stack H s E e s')
    (hE : ∀ C H', E (.ref C) none H' → PySem.W.exmOne X.K (.ref C) (.ref G) = some true ∧ ∀ ea, H' ea = none → th { D with nx := fun σ' H2 => D.nx (σ'.set i none) H2, bk := fun σ' H2 => D.bk (σ'.set i none) H2, ct := fun σ' H2 => D.ct (σ'.set i none) H2 } (σ.set i (some (.ref ea))) (upd H' ea (xcO ea C))) :
    wpAny (model X.prog X.w) X.A (noteFrame e X.env) (fun _ s2 => wpAny (model X.prog X.w) X.A (setFlight e none) (fun _ s3 => wpAny (model X.prog X.w) X.A (handleBy e X.env [.ExceptHandler (some (.Name g np)) (some n) (b0 :: suite) hpos]) (SP X pins D) X.xe s3) X.xe s2) X.xe s' := by
  obtain ⟨ea, C, t, H', B, rfl, os, bare, un, hok, fl, b1, b2, hw⟩ := hx
  obtain ⟨hm1, hth⟩ := hE C H' hw
  have fl0 := fl
  rw [hst] at fl0
  have hh := I.ok.hd hc
  have hk := I.ok.kind
  refine wpAny_looks_onW (hst ▸ I.ok.frames) hf fl0 fun h4 held u4 => ?_
  refine wpAny_landsW held fun h5 fl5 u5 => ?_
  rw [← hst] at fl5
  obtain ⟨hea, I5⟩ := fly_inv I os bare un hok fl b1 b2 fl5 (u4.trans u5)
  refine wpAny_handleBy_cons (codeAny_handlers_test (ld_glob (X := X.suite ea) (I5.suite ea) hg hm ?_ hdb)) (by intro q; cases q)
  refine (PySem.W.exm_one I5.kIn (fly_obj fl5).ty hm1).here ?_
  refine codeAny_handlers_suite_as ?_
  refine lands_againW fl5 fun h6 fl6 u6 => ?_
  obtain ⟨_, I6⟩ := fly_inv I os bare un hok fl b1 b2 fl6 ((u4.trans u5).trans u6)
  refine store_ok (X := X) I6 hN hi (.inl hl) (v := .ref ea) (u := .ref ea) rfl (fun s7 I7 => ?_) (.inr hl)
  refine wpAny_mono (hs ea pins s7 _ _ _ (I7.suite ea) (hth ea hea)) (fun f s8 q8 => ?_) fun _ _ z => False.elim z
  have key : ∀ {σ' : St} {H2 : Hp} {R : Prop}, Inv (X.suite ea) pins σ' H2 s8 → (∀ s9, Inv X pins (σ'.set i none) H2 s9 → SP X pins D f s9) →
      wpAny (model X.prog X.w) X.A (do bindName X.env n .none; unbindBehindTheSuite X.env n hpos) (fun _ s9 => SP X pins D f s9) X.xe s8 := fun {σ' H2 R} J k => by
    have J' := J.unsuite hh
    obtain ⟨m, hn, _⟩ := J'.loc
    refine wpAny_nameGoes_keeps hl hn (by rw [hk]; rfl) fun h' v hn' hsb => k _ (J'.forget hN hi hn hn' hsb)
  cases f with
  | next => obtain ⟨σ', H2, J, q⟩ := q8; exact key (R := True) J fun s9 I9 => ⟨_, H2, I9, q⟩
  | brk => obtain ⟨σ', H2, J, q⟩ := q8; exact key (R := True) J fun s9 I9 => ⟨_, H2, I9, q⟩
  | cont => obtain ⟨σ', H2, J, q⟩ := q8; exact key (R := True) J fun s9 I9 => ⟨_, H2, I9, q⟩
  | ret u => obtain ⟨v, σ', H2, J, r, q⟩ := q8; exact key (R := True) J fun s9 I9 => ⟨v, _, H2, I9, r, q⟩
end
end L2
set_option Elab.async false
set_option linter.all false
set_option maxRecDepth 100000
set_option maxHeartbeats 1000000
namespace L2
open PySem PySem.Spec PyProof.Rows
section
variable {X : Cx} {CX : CXT} {k : Nat} {f : Addr} {fd : FuncData} {ps : List Str} {sp : Sp} {E : XK} {x : Str} {p pos : Pos} {e : Expr} {es : List Expr} {t : TA} {pins : List (Addr × Obj)} {σ : St} {H : Hp} {s : Shared} {Q : VK} {EE : Value → Shared → Prop}
theorem run_fnT {us : List Value} {vs : List V} (F : FnOk X.prog X.w X.K X.mg X.base CX k f fd ps sp) (hr : Room k X.A) (hb : Binds X.K fd ps []) (I : Inv X pins σ H s) (hx : ∀ e s', CX X.stack H s E e s' → EE e s') (r : Vals vs us) (h : sp vs H Q E) :
    wpAny (model X.prog X.w) X.A (call (.ref f) us) (EP X pins σ Q) EE s := by
  have hl : us.length = ps.length := by rw [← r.length]; exact F.len _ _ _ _ h
  have hb2 := hb s us I.kIn (by simpa using hl)
  rw [List.append_nil] at hb2
  refine wpAny_call (codeAny_mono (F.run X.A X.stack s H ⟨us, []⟩ us vs Q E hr I.env0 hb2 r h) fun r s' hq => ?_)
  cases r with
  | error e => exact hx e s' hq
  | ok fl =>
    cases fl with
    | ret u => exact I.after hq
    | next => cases hq
    | brk => cases hq
    | cont => cases hq
theorem call_T (F : FnOk X.prog X.w X.K X.mg X.base CX k f fd ps sp) (hr : Room k X.A) (hg : Gl X x) (hm : X.mg x = some (.ref f)) (hk : PySem.W.keepIn X.K (.ref f) = true) (hb : Binds X.K fd ps []) (ha : PA X.nox (e :: es) t) (hdb : (x == ("__debug__" : Str)) = false)
    (he : starEach (e :: es) X.env = (false, eval e X.env) :: starEach es X.env) (hpl : (backTo pos (starEach es X.env)).any (·.1) = false) (I : Inv X pins σ H s) (h : t σ H fun vs H1 => sp vs H1 Q E) (hx : ∀ H1 s1 e s', Inv X pins σ H1 s1 → CX X.stack H1 s1 E e s' → EE e s') :
    wpAny (model X.prog X.w) X.A (eval (.Call (.Name x p) (e :: es) [] pos) X.env) (EP X pins σ Q) EE s := by
  refine wpAny_Call_Name_kw (ld_glob I hg hm ?_ hdb)
  refine PySem.W.callWith_K (h₀ := X.base) I.ok.mod.kin hk (wpAny_mono (ha pos pins s σ H _ (I.wish _) h) (fun us s1 hm0 => ?_) fun _ _ z => False.elim z) he hpl
  obtain ⟨vs, H1, I1, r, q⟩ := hm0
  have J : Inv X pins σ H1 s1 := I1.unwish
  exact ⟨J.kIn, run_fnT F hr hb J (fun e s' z => hx H1 s1 e s' J z) r q⟩
end
def exTry (K : PySem.W.Frag) (G : Addr) (th : TS) (i : Nat) (D : Ends) (σ : St) : XK := fun c _ H' => ∃ C, c = .ref C ∧ PySem.W.exmOne K (.ref C) (.ref G) = some true ∧ ∀ ea, H' ea = none →
  th { D with nx := fun σ' H2 => D.nx (σ'.set i none) H2, bk := fun σ' H2 => D.bk (σ'.set i none) H2, ct := fun σ' H2 => D.ct (σ'.set i none) H2 } (σ.set i (some (.ref ea))) (upd H' ea (xcO ea C))
def tTryE (K : PySem.W.Frag) (G : Addr) (sp : Sp) (t : TA) (th : TS) (i : Nat) : TS := fun D σ H => t σ H fun vs H1 => sp vs H1 (fun _ H2 => D.nx σ H2) (exTry K G th i D σ)
section
variable {X : Cx} {x y g n : Str} {i j m k : Nat} {ps : List Str} {sp : Sp} {p py pos epos np hpos tpos : Pos} {e : Expr} {es : List Expr} {t : TA} {th : TS} {G : Addr} {b0 : Stmt} {suite : List Stmt}
theorem ps_tryE (D : DnX X.prog X.w X.K X.mg X.base x m ps sp) (hr : Room k X.A) (ha : PA X.nox (e :: es) t) (hmg : X.mg g = some (.ref G)) (hs : ∀ ea, PSs (X.suite ea) (b0 :: suite) th) (hN : X.N.Nodup) (hi : X.N[i]? = some n) (hl : X.env.scope.names.lookup n = some .local)
    (hk : m ≤ k := by decide) (hc : X.calm = true := by rfl) (hst : X.stack = X.env :: X.outer := by rfl) (hf : X.env.frame = some X.env.locals := by rfl) (hg : Gl X x := by rfl) (hgg : Gl X g := by rfl)
    (hdb : (x == ("__debug__" : Str)) = false := by decide) (hdg : (g == ("__debug__" : Str)) = false := by decide) (he : starEach (e :: es) X.env = (false, eval e X.env) :: starEach es X.env := by rfl) (hpl : (backTo pos (starEach es X.env)).any (·.1) = false := by rfl)
    (hsw : swapsWith (.Call (.Name x p) (e :: es) [] pos) none epos.line X.env = pure false := by rfl) :
    PS X (.Try [.Expr (.Call (.Name x p) (e :: es) [] pos) epos] [.ExceptHandler (some (.Name g np)) (some n) (b0 :: suite) hpos] [] [] tpos) (tTryE X.K G sp t th i) := by
  intro pins s σ H D0 I h
  obtain ⟨f, fd, F, hm, kp, hb⟩ := D.ex
  refine wpAny_Try_except (wpAny_execs_cons ?_)
  refine wpAny_Expr_any (thn (call_T F (hr.mono hk) hg hm kp hb ha hdb he hpl I h (fun H1 s1 e s' J z => ?_)) fun v s1 ⟨u, H1, I1, r1, q1⟩ => ?_) I.quiet hsw
  · exact caught (D := D0) J hst hf hc hN hi hl hgg hmg hs hdg z fun C H' ⟨C', e1, q1, q2⟩ => by cases e1; exact ⟨q1, q2⟩
  · exact wpAny_execs_nil (wpAny_execs_nil ⟨σ, H1, I1, q1⟩)
end
end L2
set_option Elab.async false
set_option linter.all false
set_option maxRecDepth 100000
set_option maxHeartbeats 1000000
namespace L2
open PySem PySem.Spec PyProof.Rows
def clK (K : PySem.W.Frag) (x : Str) : Addr := match PySem.W.nsIn K mainGlobals x with
  | some (some (.ref C)) => C
  | _ => 0
def xcB (K : PySem.W.Frag) (C : Addr) : Bool :=
  PySem.W.findIn K (.ref C) "__getattribute__" == some (some (.builtin "BaseException.__getattribute__")) && PySem.W.findIn K (.ref C) "__getattr__" == some none &&
  PySem.W.findIn K (.ref C) "__class__" == some (some (.builtin "object.__class__")) && PySem.W.specialIn K (.builtin "object.__class__") "__get__" == some (some (.builtin "getset_descriptor.__get__")) &&
  PySem.W.takesIn K (.builtin "object.__class__") == some true && PySem.W.mroIn K C (.type "object") == some true && PySem.W.mroIn K C (.type "BaseException") == some true && (PySem.W.clsIn K C).isSome
def xcFacts (K : PySem.W.Frag) (top : Str) (rs ns : List Str) : Bool :=
  (PySem.W.nsIn K mainGlobals top == some (some (.ref (clK K top)))) &&
  (ns.all fun y => PySem.W.nsIn K mainGlobals y == some (some (.ref (clK K y)))) &&
  rs.all fun x => (PySem.W.nsIn K mainGlobals x == some (some (.ref (clK K x)))) && xcB K (clK K x) && PySem.W.excIn K (clK K x) bmV "ValueError.__new__" &&
    (PySem.W.exmOne K (.ref (clK K x)) (.ref (clK K top)) == some true) && (PySem.W.kitOne K (.ref (clK K x)) (.type "ValueError") == some true) &&
    ns.all fun y => PySem.W.kitOne K (.ref (clK K x)) (.ref (clK K y)) == some (decide (x = y))
structure XT (K : PySem.W.Frag) (mg : Str → Option Value) (top : Str) (rs ns : List Str) : Prop where
  m : ∀ x, (x = top ∨ x ∈ rs ∨ x ∈ ns) → mg x = some (.ref (clK K x))
  exc : ∀ x ∈ rs, PySem.W.excIn K (clK K x) bmV "ValueError.__new__" = true
  k : ∀ x ∈ rs, XcK K (clK K x)
  hit : ∀ x ∈ rs, PySem.W.exmOne K (.ref (clK K x)) (.ref (clK K top)) = some true
  val : ∀ x ∈ rs, PySem.W.kitOne K (.ref (clK K x)) (.type "ValueError") = some true
  one : ∀ x ∈ rs, ∀ y ∈ ns, PySem.W.kitOne K (.ref (clK K x)) (.ref (clK K y)) = some (decide (x = y))
theorem xt_of {K : PySem.W.Frag} {h : Heap} {mg : Str → Option Value} {top : Str} {rs ns : List Str} (X : K.In h) (G : h.Ns mainGlobals mg) (e : xcFacts K top rs ns = true) : XT K mg top rs ns := by
  unfold xcFacts at e
  simp only [Bool.and_eq_true, List.all_eq_true, beq_iff_eq] at e
  obtain ⟨⟨e1, e2⟩, e3⟩ := e
  refine ⟨fun x hx => ?_, fun x hx => (e3 x hx).1.1.1.2, fun x hx => ?_, fun x hx => (e3 x hx).1.1.2, fun x hx => (e3 x hx).1.2, fun x hx y hy => (e3 x hx).2 y hy⟩
  · rcases hx with rfl | hx | hx
    · exact PySem.W.mg_of X G e1
    · exact PySem.W.mg_of X G (e3 x hx).1.1.1.1.1
    · exact PySem.W.mg_of X G (e2 x hx)
  · have z := (e3 x hx).1.1.1.1.2
    unfold xcB at z
    simp only [Bool.and_eq_true, beq_iff_eq] at z
    obtain ⟨⟨⟨⟨⟨⟨⟨z1, z2⟩, z3⟩, z4⟩, z5⟩, z6⟩, z7⟩, z8⟩ := z
    exact ⟨z1, z2, z3, z4, z5, z6, z7, z8⟩
theorem kitAny_no {K : PySem.W.Frag} {t : Value} : ∀ {cs : List Value}, (∀ c ∈ cs, PySem.W.kitOne K t c = some false) → PySem.W.kitAny K t cs = some false
  | [], _ => rfl
  | c :: r, h => by
    unfold PySem.W.kitAny
    rw [h c (List.mem_cons_self ..)]
    exact kitAny_no fun d hd => h d (List.mem_cons_of_mem _ hd)
theorem boot_VE : bootBuiltins "ValueError" = some (.type "ValueError") := by decide +kernel
section
variable {X : Cx}
theorem call_isiE : CallR X (.builtin "isinstance") (fun xs H Q => ∃ e C D b, xs = [.ref e, .ref D] ∧ H e = some (xcO e C) ∧ XcK X.K C ∧ PySem.W.kitOne X.K (.ref C) (.ref D) = some b ∧ Q (.bl b) H) := by
  intro pins s σ H xs us Q I r h
  obtain ⟨e, C, D, b, rfl, he, hk, hb, q⟩ := h
  obtain ⟨u, c, rfl, ru, rc⟩ := r.two
  cases (show u = Value.ref e from ru)
  cases (show c = Value.ref D from rc)
  exact PySem.W.kia_one (kitx_exc hk) I.kIn (I.hok e _ he).1 hb (by intro z; cases z) fun tk => ⟨.bl b, H, I.tok _, rfl, q⟩
theorem call_isiV {T : String} : CallR X (.builtin "isinstance") (fun xs H Q => ∃ e C b, xs = [.ref e, .ty T] ∧ H e = some (xcO e C) ∧ XcK X.K C ∧ PySem.W.kitOne X.K (.ref C) (.type T) = some b ∧ Q (.bl b) H) := by
  intro pins s σ H xs us Q I r h
  obtain ⟨e, C, b, rfl, he, hk, hb, q⟩ := h
  obtain ⟨u, c, rfl, ru, rc⟩ := r.two
  cases (show u = Value.ref e from ru)
  cases (show c = Value.type T from rc)
  exact PySem.W.kia_one (kitx_exc hk) I.kIn (I.hok e _ he).1 hb (by intro z; cases z) fun tk => ⟨.bl b, H, I.tok _, rfl, q⟩
theorem vals_refs : ∀ {cs : List Addr} {us : List Value}, Vals (cs.map V.ref) us → us = cs.map Value.ref
  | [], _, .nil => rfl
  | c :: r, _, .cons h t => by
    cases (show _ = Value.ref c from h)
    rw [vals_refs t]; rfl
theorem call_isiT : CallR X (.builtin "isinstance") (fun xs H Q => ∃ e C tp, ∃ cs : List Addr, xs = [.ref e, .ref tp] ∧ H e = some (xcO e C) ∧ XcK X.K C ∧ H tp = some (.tup (cs.map V.ref)) ∧ (∀ c ∈ cs, PySem.W.kitOne X.K (.ref C) (.ref c) = some false) ∧ Q (.bl false) H) := by
  intro pins s σ H xs us Q I r h
  obtain ⟨e, C, tp, cs, rfl, he, hk, htp, hb, q⟩ := h
  obtain ⟨u, c, rfl, ru, rc⟩ := r.two
  cases (show u = Value.ref e from ru)
  cases (show c = Value.ref tp from rc)
  obtain ⟨_, its, rv, o, ho, hcl, n, hd⟩ := I.hok tp _ htp
  rw [vals_refs rv] at hd
  obtain ⟨oc, od, odt, osl⟩ := o
  cases hcl
  cases hd
  exact PySem.W.kia_tup (kitx_exc hk) I.kIn (I.hok e _ he).1 ho (kitAny_no fun c hc => by obtain ⟨a, ha, rfl⟩ := List.mem_map.mp hc; exact hb a ha) (by intro z; cases z) fun tk => ⟨.bl false, H, I.tok _, rfl, q⟩
end
end L2
set_option Elab.async false
set_option linter.all false
set_option maxRecDepth 100000
set_option maxHeartbeats 1000000
namespace L2
open PySem PySem.Spec PyProof.Rows
section
variable {X : Cx}
end
end L2
set_option Elab.async false
set_option linter.all false
set_option maxRecDepth 100000
set_option maxHeartbeats 1000000
namespace L2
open PySem PySem.Spec PyProof.Rows
end L2
set_option Elab.async false
set_option linter.all false
set_option maxRecDepth 100000
set_option maxHeartbeats 1000000
namespace L2
open PySem PySem.Spec PyProof.Rows
section
variable {X : Cx}
def PJ (X : Cx) (es : List Expr) (n : Nat) : Prop := ∀ (out : Str) (pins : List (Addr × Obj)) (s : Shared) (σ : St) (H : Hp) (Q : VK), Inv X pins σ H s → out.length + n ≤ sizeLine → (∀ x, Q (.str x) H) →
  wpAny (model X.prog X.w) X.A (joinParts out (evalEach es X.env)) (EP X pins σ Q) X.xe s
theorem pj_nil : PJ X [] 0 := fun out pins s σ H Q I hz q => joinParts_nil ⟨.str out, H, I.tok _, ⟨_, rfl⟩, q _⟩ (by omega)
theorem pj_str {x : Str} {j pos} {rest : List Expr} {n : Nat} (h : PJ X rest n) : PJ X (.Constant (.str x) j pos :: rest) (x.length + n) := fun out pins s σ H Q I hz q => by
  have e : (out ++ x).length = out.length + x.length := strLen_append ..
  refine joinParts_cons (Calls.Constant_str ⟨by omega, h _ pins _ σ H Q (I.tok _) (by omega) q⟩)
theorem pj_int {g : Str} {v : Int} {p p2 : Pos} {rest : List Expr} {n : Nat} (hm : ∃ t, X.mg g = some (.int v t)) (h : PJ X rest n) (hg : Gl X g := by rfl) (hd : (g == ("__debug__" : Str)) = false := by decide) (hv : v.natAbs.log2 < 1920 := by decide +kernel) :
    PJ X (.FormattedValue (.Name g p) (-1) none p2 :: rest) ((toString v : Str).length + n) := fun out pins s σ H Q I hz q => by
  obtain ⟨t, hm⟩ := hm
  have e : (out ++ (toString v : Str)).length = out.length + (toString v : Str).length := strLen_append ..
  refine joinParts_cons (FormattedValue_plain (ld_glob I hg hm (formatField_int_small hv ⟨by omega, h _ pins _ σ H Q (I.tok _) (by omega) q⟩) hd))
def tSomeStr : TE := fun _ H Q => ∀ x, Q (.str x) H
theorem pe_join {v1 v2 : Expr} {rest : List Expr} {pos : Pos} {n : Nat} (h : PJ X (v1 :: v2 :: rest) n) (hn : n ≤ sizeLine := by decide +kernel) : PE X (.JoinedStr (v1 :: v2 :: rest) pos) tSomeStr := fun pins s σ H Q I q =>
  JoinedStr_many (h Str.empty pins s σ H Q I (by rw [show Str.empty.length = 0 from rfl]; omega) q)
end
end L2
set_option Elab.async false
set_option linter.all false
set_option maxRecDepth 100000
set_option maxHeartbeats 1000000
namespace L2
open PySem PySem.Spec PyProof.Rows
section
variable {X : Cx}
end
end L2
set_option Elab.async false
set_option linter.all false
set_option maxRecDepth 100000
set_option maxHeartbeats 1000000
namespace L2
open PySem PySem.Spec PyProof.Rows
section
variable {X : Cx} {pins : List (Addr × Obj)} {σ : St} {H : Hp} {s : Shared}
end
end L2
set_option Elab.async false
set_option linter.all false
set_option maxRecDepth 100000
set_option maxHeartbeats 1000000
namespace L2
open PySem PySem.Spec PyProof.Rows
def tLSet (K : PySem.W.Frag) (ta : TA) : TE := fun σ H Q => ta σ H fun vs H1 => ∃ (a : Addr) (ks : List Int), vs = [.ref a] ∧ SqL K H1 a (ks.map V.int) ∧ ks.length + 1 < 4096 ∧
  ∀ ns : List Int, ns.Nodup → (∀ k, k ∈ ns ↔ k ∈ ks) → Q (.int ns.length) H1
theorem pe_len_set {X : Cx} {K : PySem.W.Frag} {e : Expr} {ta : TA} {p1 p2 pos1 pos2 : Pos} (hK : X.K = K) (hc : X.calm = true) (hg : Gl X "len") (hm : X.mg "len" = none) (hg2 : Gl X "set") (hm2 : X.mg "set" = none) (he : PA X [e] ta)
    (h1 : starEach [e] X.env = [(false, eval e X.env)] := by rfl) (h2 : starEach [.Call (.Name "set" p2) [e] [] pos2] X.env = [(false, eval (.Call (.Name "set" p2) [e] [] pos2) X.env)] := by rfl) :
    PE X (.Call (.Name "len" p1) [.Call (.Name "set" p2) [e] [] pos2] [] pos1) (tLSet K ta) := by
  subst hK
  intro pins s σ H Q I h
  have inner : wpAny (model X.prog X.w) X.A (eval (.Call (.Name "set" p2) [e] [] pos2) X.env) (fun v s1 => ∃ (S : Addr) (H1 : Hp) (ks : List Int), v = .ref S ∧ Inv X pins σ H1 s1 ∧ SetI X.prog X.w s1.heap S (!X.w.params.followText "set-order") ks ∧ ks.length + 1 < 4096 ∧
      ∀ ns : List Int, ns.Nodup → (∀ k, k ∈ ns ↔ k ∈ ks) → Q (.int ns.length) H1) X.xe s := by
    refine Call_ (ld_blt I hg2 hm2 PyProof.Rows.boot_set (PyProof.Rows.callWith_type1 (thn (he pos2 pins s σ H _ I h) fun us s1 hm0 => ?_) h1 rfl))
    obtain ⟨vs, H1, I1, r, q⟩ := hm0
    obtain ⟨a, ks, rfl, ha, hz, q⟩ := q
    obtain ⟨u, rfl, ru⟩ := vals1 r
    cases ru
    obtain ⟨its, rv, pl, _⟩ := I1.list ha
    have hi : IntsAre its ks := intsAre_of rv
    have hs : its.toArray.size = ks.length := by rw [List.size_toArray]; exact hi.length
    refine PySem.own_set_list (I1.ok.hd hc) pl.isList (by simpa using hi) (by rw [hs]; exact hz) fun h' tk sI k => ?_
    rw [hs, map_getD] at sI
    exact ⟨_, H1, ks, rfl, I1.kept (t' := tk) k, sI, hz, q⟩
  refine Call_ (ld_blt I hg hm PySem.boot_len (PyProof.Rows.callWith_builtin1 (by
    rw [h2]
    refine Calls.spliced_cons (thn inner fun v s1 x => Calls.spliced_nil ?_)
    obtain ⟨S, H1, ks, rfl, I1, sI, hz, q⟩ := x
    obtain ⟨o, es, ep, t, ns, ho, hex, hd, _, hI, nd, mem, hsz, hf, _⟩ := sI
    have hn : es.size = ns.length := by have := hI.length; simpa using this
    have hsm : ns.length ≤ ks.length := nodup_sub ns ks nd fun x hx => (mem x).mp hx
    refine PySem.call_len_set ho hex hd hf (by omega) ?_
    have q2 := q ns nd mem
    rw [← hn] at q2
    exact ⟨.int ((es.size : Nat) : Int), H1, I1.kept (t' := s1.toks + 1 + 1) fun _ _ z => z, ⟨_, rfl⟩, q2⟩) h2 rfl))
end L2
set_option Elab.async false
set_option linter.all false
namespace L2
open PySem PyProof.Rows
section
variable {prog : Program} {w : World} {A : Around} {E : Value → Shared → Prop} {s : Shared}
end
end L2
set_option Elab.async false
set_option linter.all false
namespace L2
open PySem PyProof.Rows
section
variable {prog : Program} {w : World} {A : Around} {E : Value → Shared → Prop} {s : Shared}
end
end L2
set_option Elab.async false
set_option linter.all false
namespace L2
open PySem PyProof.Rows
section
variable {prog : Program} {w : World} {A : Around} {E : Value → Shared → Prop} {s : Shared}
end
end L2
set_option Elab.async false
set_option linter.all false
namespace L2
open PySem PyProof.Rows
section
variable {a₀ : Array Keyed} {pd : Array (Nat × Nat × Nat)} {st : SortSt}
variable {prog : Program} {w : World} {A : Around} {E : Value → Shared → Prop} {s : Shared}
end
end L2
set_option Elab.async false
set_option linter.all false
namespace L2
open PySem PyProof.Rows
section
variable {prog : Program} {w : World} {A : Around} {E : Value → Shared → Prop} {s : Shared} {a₀ : Array Keyed} {pd : Array (Nat × Nat × Nat)} {st : SortSt}
end
end L2
set_option Elab.async false
set_option linter.all false
namespace L2
open PySem PyProof.Rows
section
variable {prog : Program} {w : World} {A : Around} {E : Value → Shared → Prop} {s : Shared} {a₀ : Array Keyed} {st : SortSt}
end
end L2
set_option Elab.async false
set_option linter.all false
set_option maxRecDepth 100000
set_option maxHeartbeats 1000000
namespace L2
open PySem PySem.Spec PyProof.Rows
section
variable {prog : Program} {w : World} {A : Around} {E : Value → Shared → Prop} {s : Shared}
end
section
variable {X : Cx}
end
end L2
set_option Elab.async false
set_option linter.all false
set_option maxRecDepth 100000
set_option maxHeartbeats 1000000
namespace L2
open PySem PySem.Spec PyProof.Rows
section
variable {P : Program} {w : World} {K : PySem.W.Frag} {mg : Str → Option Value} {base : Heap}
end
end L2
set_option linter.all false
namespace Law
open PySem L2
end Law
set_option linter.all false
namespace Law
open PySem L2
section
variable (G : List Row) (hand : Int) (ins : Int → Bool)
end
section
variable {G : List Row} {hand : Int} {ins : Int → Bool}
end
section
variable (G : List Row) (hand : Int) (ins want : Int → Bool)
end
section
variable {G : List Row} {hand : Int} {ins want : Int → Bool}
end
end Law
set_option linter.all false
namespace Law
open PySem L2
section
variable (G : List Row) (hand : Int) (ins want : Int → Bool)
end
section
variable {G : List Row} {hand : Int} {ins want : Int → Bool}
variable {R : List (List Int)}
end
end Law
set_option Elab.async false
set_option linter.all false
set_option maxRecDepth 100000
set_option maxHeartbeats 1000000
namespace L2
open PySem PySem.Spec PyProof.Rows
theorem cut_from1 (xs : List V) : cutV xs (some 1) none = xs.drop 1 := by
  unfold cutV
  show List.take _ (List.drop (HT.sIx xs.length 0 (some ((1 : Nat) : Int))) xs) = _
  rw [HT.sIx_nat, HT.sIx_none]
  cases xs with
  | nil => rfl
  | cons x xs =>
    have : min 1 (x :: xs).length = 1 := by simp
    show List.take ((x :: xs).length - min 1 (x :: xs).length) (List.drop (min 1 (x :: xs).length) (x :: xs)) = _
    rw [this]
    refine List.take_of_length_le ?_
    simp
end L2
set_option linter.all false
namespace Law
open PySem L2
section
variable {G : List Row} {hand : Int} {ins want : Int → Bool} {R : List (List Int)}
end
end Law
set_option Elab.async false
set_option linter.all false
set_option maxRecDepth 100000
set_option maxHeartbeats 1000000
namespace L2
open PySem PySem.Spec PyProof.Rows
section
variable {X : Cx}
end
end L2
set_option linter.all false
namespace Law
open PySem L2
section
variable {G : List Row} {hand : Int} {want : Int → Bool} {R : List (List Int)}
end
end Law
set_option Elab.async false
set_option linter.all false
set_option maxRecDepth 100000
set_option maxHeartbeats 1000000
namespace L2
open PySem PySem.Spec PyProof.Rows
section
variable {P : Program} {w : World} {K : PySem.W.Frag} {mg : Str → Option Value} {base : Heap}
end
section
variable {X : Cx}
end
end L2
set_option Elab.async false
set_option linter.all false
set_option maxRecDepth 100000
set_option maxHeartbeats 1000000
namespace L2
open PySem PySem.Spec PyProof.Rows
section
variable {H H' : Hp} {a b c : Addr}
end
end L2
set_option Elab.async false
set_option linter.all false
namespace L2
open PySem PySem.Spec PyProof.Rows
section
variable {K : PySem.W.Frag} {i j : Nat} {σ : St} {H : Hp} {Q : VK} {a b C dx : Addr} {xs ys : List V} {z c : Int} {v u : V} {f : Str} {fs : List (Str × V)}
end
end L2
set_option linter.all false
namespace L2
end L2
set_option linter.all false
namespace Law
open PySem L2
section
variable {G : List Row} {hand : Int} {left : List Int} {want : Int → Bool} {R : List (List Int)}
end
end Law
set_option linter.all false
namespace Law
open PySem L2
section
variable {G : List Row} {P D0 D1 : Int → Prop} {wf wf' : Int → Option Int}
end
end Law
set_option linter.all false
namespace Law
open PySem L2
section
variable {G : List Row} {hf : Int → Int} {wf : Int → Option Int} {c : Int}
end
end Law
set_option linter.all false
namespace Law
open PySem L2
end Law
set_option Elab.async false
set_option linter.all false
set_option maxRecDepth 100000
set_option maxHeartbeats 1000000
namespace L2
open PySem PySem.W PySem.Spec PyProof.Rows
section
variable {k : Nat → Int} {n : Nat} {cmp : Nat → Nat → (Bool → Shared → Prop) → Shared → Prop} {s : Shared}
def pa (k : Nat → Int) (p : Array Nat) (i : Nat) : Int := k (p.getD i 0)
def PRng (n : Nat) (p : Array Nat) : Prop := p.Perm (List.range n).toArray
def UpTo (k : Nat → Int) (p : Array Nat) (m : Nat) : Prop := ∀ i j, i < j → j < m → pa k p i < pa k p j
def DnTo (k : Nat → Int) (p : Array Nat) (m : Nat) : Prop := ∀ i j, i < j → j < m → pa k p j < pa k p i
theorem PRng.size {p : Array Nat} (h : PRng n p) : p.size = n := by have := h.size_eq; simpa using this
theorem PRng.lt {p : Array Nat} (h : PRng n p) {i : Nat} (hi : i < n) : p.getD i 0 < n := by
  have hs := h.size
  have hm : p.getD i 0 ∈ p := by rw [Array.getD_eq_getD_getElem?, Array.getElem?_eq_getElem (by omega)]; exact Array.getElem_mem _
  have := h.mem_iff.mp hm
  simpa using this
theorem PRng.inj {p : Array Nat} (h : PRng n p) {i j : Nat} (hi : i < n) (hj : j < n) (e : p.getD i 0 = p.getD j 0) : i = j := by
  have hs := h.size
  have nd : p.toList.Nodup := (Array.perm_iff_toList_perm.mp h).nodup_iff.mpr (by simpa using List.nodup_range)
  have a : p.toList[i]? = some (p.getD i 0) := by rw [Array.getD_eq_getD_getElem?, Array.getElem?_eq_getElem (by omega), Array.getElem?_toList, Array.getElem?_eq_getElem (by omega)]; rfl
  have b : p.toList[j]? = some (p.getD j 0) := by rw [Array.getD_eq_getD_getElem?, Array.getElem?_eq_getElem (by omega), Array.getElem?_toList, Array.getElem?_eq_getElem (by omega)]; rfl
  rw [← e] at b
  have hl : i < p.toList.length := by rw [Array.length_toList]; omega
  exact (List.getElem?_inj hl nd).mp (a.trans b.symm)
theorem pa_ne (hk : ∀ i j, i < n → j < n → k i = k j → i = j) {p : Array Nat} (h : PRng n p) {i j : Nat} (hi : i < n) (hj : j < n) (hij : i ≠ j) : pa k p i ≠ pa k p j := fun e => hij (h.inj hi hj (hk _ _ (h.lt hi) (h.lt hj) e))
theorem pa_at {p q : Array Nat} {i j : Nat} (h : p[i]? = q[j]?) : pa k p i = pa k q j := by unfold pa; rw [Array.getD_eq_getD_getElem?, Array.getD_eq_getD_getElem?, h]
theorem wp_ask {α : Type} {i j : Nat} {g : Bool → KasT α} {Q : α → Shared → Prop} (hc : ∀ i j C, i < n → j < n → C (decide (k i < k j)) s → cmp i j C s) (hi : i < n) (hj : j < n) (h : KasT.kasWp cmp (g (decide (k i < k j))) Q s) : KasT.kasWp cmp (.ask i j g) Q s := hc i j _ hi hj h
theorem wp_asc (hk : ∀ i j, i < n → j < n → k i = k j → i = j) (hc : ∀ i j C, i < n → j < n → C (decide (k i < k j)) s → cmp i j C s) {p : Array Nat} (hp : PRng n p) {Q : Nat → Shared → Prop} : ∀ (f m : Nat), 1 ≤ m → m + f ≤ n → UpTo k p m → (∀ m', m ≤ m' → m' ≤ m + f → UpTo k p m' → (m' < m + f → pa k p m' < pa k p (m' - 1)) → Q m' s) → KasT.kasWp cmp (kas_asc p f m) Q s := by
  intro f
  induction f with
  | zero =>
    intro m h1 hm hu q
    exact q m (Nat.le_refl _) (Nat.le_refl _) hu (fun z => absurd z (Nat.lt_irrefl _))
  | succ f ih =>
    intro m h1 hm hu q
    rw [kas_asc.eq_2]
    refine wp_ask hc (hp.lt (by omega)) (hp.lt (by omega)) ?_
    by_cases c : k (p.getD m 0) < k (p.getD (m - 1) 0)
    · rw [decide_eq_true c, if_pos rfl]
      exact q m (Nat.le_refl _) (by omega) hu (fun _ => c)
    · rw [decide_eq_false c, if_neg (by decide)]
      refine ih (m + 1) (by omega) (by omega) (fun i j hij hj => ?_) (fun m' a b => by
        have e : m + 1 + f = m + (f + 1) := by omega
        rw [e] at b ⊢
        exact q m' (by omega) b)
      have hne := pa_ne hk hp (i := m - 1) (j := m) (by omega) (by omega) (by omega)
      have hlt : pa k p (m - 1) < pa k p m := by
        have : ¬ pa k p m < pa k p (m - 1) := c
        omega
      by_cases e : j = m
      · subst e
        by_cases e2 : i = j - 1
        · rw [e2]; exact hlt
        · have := hu i (j - 1) (by omega) (by omega); omega
      · exact hu i j hij (by omega)
theorem wp_desc (hk : ∀ i j, i < n → j < n → k i = k j → i = j) (hc : ∀ i j C, i < n → j < n → C (decide (k i < k j)) s → cmp i j C s) {p : Array Nat} (hp : PRng n p) {Q : Array Nat × Nat × Nat → Shared → Prop} : ∀ (f m : Nat), 1 ≤ m → m + f ≤ n → DnTo k p m → (∀ m', m ≤ m' → m' ≤ m + f → DnTo k p m' → Q (p, m', 0) s) → KasT.kasWp cmp (kas_desc f p m 0) Q s := by
  intro f
  induction f with
  | zero =>
    intro m h1 hm hu q
    exact q m (Nat.le_refl _) (Nat.le_refl _) hu
  | succ f ih =>
    intro m h1 hm hu q
    rw [kas_desc.eq_2]
    refine wp_ask hc (hp.lt (by omega)) (hp.lt (by omega)) ?_
    by_cases c : k (p.getD m 0) < k (p.getD (m - 1) 0)
    · rw [decide_eq_true c, if_pos rfl, if_neg (by decide)]
      refine ih (m + 1) (by omega) (by omega) (fun i j hij hj => ?_) (fun m' a b => by
        have e : m + 1 + f = m + (f + 1) := by omega
        rw [e] at b
        exact q m' (by omega) b)
      have hlt : pa k p m < pa k p (m - 1) := c
      by_cases e : j = m
      · subst e
        by_cases e2 : i = j - 1
        · rw [e2]; exact hlt
        · have := hu i (j - 1) (by omega) (by omega); omega
      · exact hu i j hij (by omega)
    · rw [decide_eq_false c, if_neg (by decide)]
      have hne := pa_ne hk hp (i := m - 1) (j := m) (by omega) (by omega) (by omega)
      have hlt : k (p.getD (m - 1) 0) < k (p.getD m 0) := by
        have : pa k p (m - 1) < pa k p m := by
          have : ¬ pa k p m < pa k p (m - 1) := c
          omega
        exact this
      refine wp_ask hc (hp.lt (by omega)) (hp.lt (by omega)) ?_
      rw [decide_eq_true hlt, if_pos rfl]
      exact q m (Nat.le_refl _) (by omega) hu
theorem wp_place (hk : ∀ i j, i < n → j < n → k i = k j → i = j) (hc : ∀ i j C, i < n → j < n → C (decide (k i < k j)) s → cmp i j C s) {p : Array Nat} (hp : PRng n p) {m : Nat} (hm : m < n) (hu : UpTo k p m) {Q : Nat → Shared → Prop} : ∀ (f l r : Nat), l ≤ r → r ≤ m → r - l ≤ f → (∀ i, i < l → pa k p i < pa k p m) → (∀ i, r ≤ i → i < m → pa k p m < pa k p i) →
    (∀ l, l ≤ m → (∀ i, i < l → pa k p i < pa k p m) → (∀ i, l ≤ i → i < m → pa k p m < pa k p i) → Q l s) → KasT.kasWp cmp (kas_place p m f l r) Q s := by
  intro f
  induction f with
  | zero =>
    intro l r h1 h2 h3 a b q
    have : l = r := by omega
    subst this
    exact q l h2 a b
  | succ f ih =>
    intro l r h1 h2 h3 a b q
    rw [kas_place.eq_2]
    by_cases e : l ≥ r
    · rw [if_pos e]
      have : l = r := by omega
      subst this
      exact q l h2 a b
    · rw [if_neg e]
      refine wp_ask hc (hp.lt hm) (hp.lt (by omega)) ?_
      by_cases c : k (p.getD m 0) < k (p.getD ((l + r) / 2) 0)
      · rw [decide_eq_true c, if_pos rfl]
        refine ih l _ (by omega) (by omega) (by omega) a (fun i hi him => ?_) q
        have hlt : pa k p m < pa k p ((l + r) / 2) := c
        by_cases e2 : i = (l + r) / 2
        · rw [e2]; exact hlt
        · have := hu ((l + r) / 2) i (by omega) him; omega
      · rw [decide_eq_false c, if_neg (by decide)]
        have hne := pa_ne hk hp (i := m) (j := (l + r) / 2) (by omega) (by omega) (by omega)
        have hlt : pa k p ((l + r) / 2) < pa k p m := by
          have : ¬ pa k p m < pa k p ((l + r) / 2) := c
          omega
        refine ih _ r (by omega) h2 (by omega) (fun i hi => ?_) b q
        by_cases e2 : i = (l + r) / 2
        · rw [e2]; exact hlt
        · have := hu i ((l + r) / 2) (by omega) (by omega); omega
theorem wp_bin (hk : ∀ i j, i < n → j < n → k i = k j → i = j) (hc : ∀ i j C, i < n → j < n → C (decide (k i < k j)) s → cmp i j C s) {Q : Array Nat → Shared → Prop} (q : ∀ p, PRng n p → UpTo k p n → Q p s) : ∀ (f m : Nat) (p : Array Nat), PRng n p → m + f = n → UpTo k p m → KasT.kasWp cmp (kas_bin f p m) Q s := by
  intro f
  induction f with
  | zero =>
    intro m p hp e hu
    have : m = n := by omega
    subst this
    exact q p hp hu
  | succ f ih =>
    intro m p hp e hu
    rw [kas_bin.eq_2, KasT.kasWp_bind]
    have hm : m < n := by omega
    refine wp_place hk hc hp hm hu m 0 m (Nat.zero_le _) (Nat.le_refl _) (by omega) (fun i hi => absurd hi (Nat.not_lt_zero _)) (fun i h1 h2 => by omega) (fun l hl a b => ?_)
    refine ih (m + 1) _ ((bubble_perm _ _ _).trans hp) (by omega) (fun i j hij hj => ?_)
    have hsz : m < p.size := by rw [hp.size]; exact hm
    have key : ∀ x, pa k (bubble p m (m - l)) x = if x = l then pa k p m else if l < x ∧ x ≤ m then pa k p (x - 1) else pa k p x := fun x => by
      have g := getElem?_bubble hsz (m - l) (by omega) x
      have e : m - (m - l) = l := by omega
      rw [e] at g
      by_cases c1 : x = l
      · rw [if_pos c1]; rw [if_pos c1] at g; exact pa_at g
      · rw [if_neg c1]; rw [if_neg c1] at g
        by_cases c2 : l < x ∧ x ≤ m
        · rw [if_pos c2]; rw [if_pos c2] at g; exact pa_at g
        · rw [if_neg c2]; rw [if_neg c2] at g; exact pa_at g
    rw [key i, key j]
    by_cases c1 : i = l
    · rw [if_pos c1, if_neg (by omega), if_pos (by omega)]
      exact b (j - 1) (by omega) (by omega)
    · rw [if_neg c1]
      by_cases c2 : l < i ∧ i ≤ m
      · rw [if_pos c2, if_neg (by omega), if_pos (by omega)]
        exact hu (i - 1) (j - 1) (by omega) (by omega)
      · rw [if_neg c2]
        by_cases c3 : j = l
        · rw [if_pos c3]; exact a i (by omega)
        · rw [if_neg c3]
          by_cases c4 : l < j ∧ j ≤ m
          · rw [if_pos c4]
            by_cases c5 : i = j - 1
            · omega
            · exact hu i (j - 1) (by omega) (by omega)
          · rw [if_neg c4]; exact hu i j hij (by omega)
theorem wp_sort (hk : ∀ i j, i < n → j < n → k i = k j → i = j) (hc : ∀ i j C, i < n → j < n → C (decide (k i < k j)) s → cmp i j C s) (hn : 1 ≤ n) {Q : Array Nat → Shared → Prop} (q : ∀ p, PRng n p → UpTo k p n → Q p s) : KasT.kasWp cmp (kas_sort n) Q s := by
  have hp0 : PRng n (List.range n).toArray := Array.Perm.refl _
  have fin : ∀ m p, 1 ≤ m → m ≤ n → PRng n p → UpTo k p m → KasT.kasWp cmp (if (m, p).1 < n then kas_bin (n - max (m, p).1 1) (m, p).2 (max (m, p).1 1) else .ret (m, p).2) Q s := fun m p h1 h2 hp hu => by
    show KasT.kasWp cmp (if m < n then kas_bin (n - max m 1) p (max m 1) else .ret p) Q s
    have e : max m 1 = m := by omega
    by_cases c : m < n
    · rw [if_pos c, e]; exact wp_bin hk hc q _ _ _ hp (by omega) hu
    · rw [if_neg c]
      have : m = n := by omega
      subst this
      exact q p hp hu
  unfold kas_sort
  rw [KasT.kasWp_bind]
  unfold kas_count
  rw [KasT.kasWp_bind]
  refine wp_asc hk hc hp0 (n - 1) 1 (Nat.le_refl _) (by omega) (fun i j a b => by omega) (fun m h1 h2 hu hl => ?_)
  by_cases c1 : (m == n) = true
  · rw [if_pos c1]; exact fin m _ h1 (by omega) hp0 hu
  · rw [if_neg c1]
    have c1' : m ≠ n := fun e => c1 (by rw [e]; simp)
    by_cases c2 : m > 1
    · rw [if_pos c2]
      refine wp_ask hc (hp0.lt (by omega)) (hp0.lt (by omega)) ?_
      have : k ((List.range n).toArray.getD 0 0) < k ((List.range n).toArray.getD (m - 1) 0) := hu 0 (m - 1) (by omega) (by omega)
      rw [decide_eq_true this, if_pos rfl]
      exact fin m _ h1 (by omega) hp0 hu
    · rw [if_neg c2]
      have em : m = 1 := by omega
      subst em
      have hd := hl (by omega)
      unfold kas_descPart
      rw [KasT.kasWp_bind]
      refine wp_desc hk hc hp0 (n - (1 + 1)) (1 + 1) (by omega) (by omega) (fun i j a b => ?_) (fun m h1 h2 hdn => ?_)
      · have : i = 0 ∧ j = 1 := by omega
        rw [this.1, this.2]; exact hd
      · rw [if_neg (Nat.lt_irrefl 0)]
        unfold kas_tail3
        rw [KasT.kasWp_bind]
        have hsz : m ≤ (List.range n).toArray.size := by rw [hp0.size]; omega
        have hpr : PRng n (kas_rev (List.range n).toArray 0 m) := (mirror_perm _ _ _ _).trans hp0
        have key : ∀ x, x < m → pa k (kas_rev (List.range n).toArray 0 m) x = pa k (List.range n).toArray (0 + m - 1 - x) := fun x hx => by
          have g := getElem?_mirror_all (i := 0) hsz x
          rw [if_pos ⟨Nat.zero_le _, hx⟩] at g
          exact pa_at g
        refine wp_asc hk hc hpr (n - m) m (by omega) (by omega) (fun i j a b => ?_) (fun m' h1' h2' hu' _ => ?_)
        · rw [key i (by omega), key j b]
          exact hdn _ _ (by omega) (by omega)
        · exact fin m' _ (by omega) (by omega) hpr hu'
end
end L2
set_option Elab.async false
set_option linter.all false
set_option maxRecDepth 100000
set_option maxHeartbeats 1000000
namespace L2
open PySem PySem.Spec PyProof.Rows
section
variable {prog : Program} {w : World} {A : Around} {E : Value → Shared → Prop} {s : Shared}
def PairAt (h : Heap) (v : Value) (a b : Int) : Prop := ∃ t o e ta tb, v = .ref t ∧ h.get? t = some o ∧ o.cls = .type "tuple" ∧ o.data = .seq #[.int a ta, .int b tb] e
theorem pair_lt {x y : Value} {a b a' b' : Int} {Q : Bool → Shared → Prop} (hx : PairAt s.heap x a b) (hy : PairAt s.heap y a' b') (hd : a = a' → b = b') (h : Q (decide (a < a')) s) : wpAny (model prog w) A (keyLt' (tuples' true) x y) Q E s := by
  obtain ⟨t, o, e, ta, tb, rfl, ho, _, hs⟩ := hx
  obtain ⟨t', o', e', ta', tb', rfl, ho', _, hs'⟩ := hy
  refine PySem.W.kat_lt ho hs ho' hs' (PySem.W.kat_cons (wpAny_eqBool_int (PySem.W.kat_go (fun c => PySem.W.kat_yes (PySem.W.kat_cons (wpAny_eqBool_int (PySem.W.kat_go (fun c2 => PySem.W.kat_yes (PySem.W.kat_nil ?_)) (fun c2 => ?_))))) (fun c => PySem.W.kat_no (oneLt_int h)))))
  · have e : a = a' := of_decide_eq_true c
    rw [decide_eq_false (by omega)] at h
    exact h
  · have e : a = a' := of_decide_eq_true c
    have := of_decide_eq_false c2
    exact absurd (hd e) this
theorem PairAt.keep {h : Heap} {v : Value} {a b : Int} {at_ : Addr} {us : List Value} {ep : Nat} {f : Array Value → Array Value} {o1 o2 : Obj} (p : PairAt h v a b) (ho : h.get? at_ = some (seqObj "list" us.toArray ep)) : PairAt (((h.update at_ (Obj.mapSeq f)).push o1).push o2) v a b := by
  obtain ⟨t, o, e, ta, tb, rfl, h1, h2, h3⟩ := p
  have ne : t ≠ at_ := fun z => by
    subst z
    rw [ho] at h1; cases h1
    simp [seqObj] at h2
  refine ⟨t, o, e, ta, tb, rfl, ?_, h2, h3⟩
  exact Heap.get?_push_of_some _ (Heap.get?_push_of_some _ (by rw [Heap.get?_update_ne _ _ _ _ ne]; exact h1))
theorem katTups_of {h : Heap} : ∀ us : List Value, (∀ v ∈ us, ∃ a b, PairAt h v a b) → ∃ fs, PySem.W.KatTups h us fs ∧ fs.length = us.length ∧ ∀ v ∈ fs, ∃ a t, v = Value.int a t
  | [], _ => ⟨[], .nil, rfl, fun _ z => by cases z⟩
  | v :: r, hh => by
    obtain ⟨a, b, t, o, e, ta, tb, rfl, h1, h2, h3⟩ := hh v List.mem_cons_self
    obtain ⟨fs, f1, f2, f3⟩ := katTups_of r fun u hu => hh u (List.mem_cons_of_mem _ hu)
    refine ⟨.int a ta :: fs, .cons h1 h2 h3 rfl f1, by simp [f2], fun u hu => ?_⟩
    rcases List.mem_cons.mp hu with z | z
    · exact ⟨a, ta, z⟩
    · exact f3 u z
theorem sort_pairs {at_ : Addr} {us : List Value} {ep : Nat} {R : Fin → Shared → Prop} {ka kb : Nat → Int} (ho : s.heap.get? at_ = some (seqObj "list" us.toArray ep)) (hP : ∀ i, i < us.length → PairAt s.heap (us.getD i .none) (ka i) (kb i)) (hd : ∀ i j, i < us.length → j < us.length → ka i = ka j → i = j) (hz : us.length < 64)
    (k : ∀ p : Array Nat, PRng us.length p → UpTo ka p us.length → R (.done (.ret .none)) { s with heap := sortedHeap s.heap at_ us (p.toList.map fun i => us.getD i .none).toArray }) :
    wpAny (model prog w) A (Builtin.«list.sort» ⟨[.ref at_], []⟩) R E s := by
  have lt0 : at_ < s.heap.objs.size := Heap.lt_size ho
  have line : us.length ≤ sizeLine := small (m := 64) (by omega)
  rw [list_sort_plain]
  refine wpAny_bind (listItems_at ho rfl (wpAny_bind (listUpdate_at ho rfl ?_ (by rw [List.size_toArray]; exact line) (by simp))))
  obtain ⟨ep1, ho1⟩ : ∃ ep1, (s.heap.update at_ (Obj.mapSeq fun _ => #[])).get? at_ = some (seqObj "list" #[] ep1) := ⟨_, get?_update_seq ho (fun _ => #[])⟩
  refine wpAny_bind (seqEpoch_at ho1 rfl (wpAny_bind (wpAny_newTuple (wpAny_bind (wpAny_newList (wpAny_holding ?_))))))
  have ho2 : (((s.heap.update at_ (Obj.mapSeq fun _ => #[])).push (seqObj "tuple" us.toArray 0)).push (seqObj "list" #[] 0)).get? at_ = some (seqObj "list" #[] ep1) := by
    rw [Heap.get?_push_ne, Heap.get?_push_ne]
    · exact ho1
    · rw [Heap.size_update]; exact Nat.ne_of_lt lt0
    · rw [size_push', Heap.size_update]; exact Nat.ne_of_lt (Nat.lt_succ_of_lt lt0)
  show wpAny (model prog w) A _ R E { s with heap := ((s.heap.update at_ (Obj.mapSeq fun _ => #[])).push (seqObj "tuple" us.toArray 0)).push (seqObj "list" #[] 0) }
  dsimp only
  have fin : ∀ (st2 : SortSt) (p : Array Nat), (arrOf st2).map (·.2) = (p.toList.map fun i => us.getD i .none).toArray → failedOf st2 = none → PRng us.length p → UpTo ka p us.length → R (.done (.ret .none)) { s with heap := sortedHeap s.heap at_ us ((arrOf st2).map (·.2)) } := fun st2 p e _ h1 h2 => by rw [e]; exact k p h1 h2
  by_cases h2 : us.length < 2
  · rw [if_pos (by rw [List.size_toArray]; exact h2), if_pos (by rw [List.size_toArray]; exact h2)]
    refine wpAny_bind (wpAny_pure (wpAny_bind (wpAny_pure ?_)))
    dsimp only
    have hp0 : PRng us.length (List.range us.length).toArray := Array.Perm.refl _
    have e : ((us.toArray.zip us.toArray).map (·.2)) = ((List.range us.length).toArray.toList.map fun i => us.getD i .none).toArray := by
      rcases us with _ | ⟨v1, _ | ⟨v2, more⟩⟩
      · simp
      · simp
      · simp at h2; omega
    have hout : ((us.toArray.zip us.toArray).map (·.2)).size = us.length := by simp
    refine wpAny_bind (seqEpoch_at ho2 rfl (wpAny_bind (listUpdate_at ho2 rfl ?_ (Nat.zero_le _) (by show ((us.toArray.zip us.toArray).map (·.2)).size ≤ _; rw [hout]; exact Nat.le_succ_of_le line))))
    simp only [bne_self_eq_false, Bool.false_eq_true, if_false]
    refine wpAny_pure ?_
    have := k _ hp0 (fun i j h1 h2 => by omega)
    rw [← e] at this
    exact this
  · rw [if_neg (by rw [List.size_toArray]; exact h2), if_neg (by rw [List.size_toArray]; exact h2)]
    have hP2 : ∀ i, i < us.length → PairAt (((s.heap.update at_ (Obj.mapSeq fun _ => #[])).push (seqObj "tuple" us.toArray 0)).push (seqObj "list" #[] 0)) (us.getD i .none) (ka i) (kb i) := fun i hi => (hP i hi).keep ho
    obtain ⟨fs, f1, f2, f3⟩ := katTups_of us fun v hv => by
      obtain ⟨i, hi, e⟩ := List.getElem_of_mem hv
      have := hP2 i hi
      rw [List.getD_eq_getElem?_getD, List.getElem?_eq_getElem hi, Option.getD_some, e] at this
      exact ⟨_, _, this⟩
    refine wpAny_bind (PySem.W.kat_kind (T := .type "int") f1 (by rw [f2]; omega) (fun v hv => ?_) (by decide) ?_)
    · obtain ⟨a, tk, rfl⟩ := f3 v hv
      exact fun A Q E s _ q => wpAny_pure q
    refine wpAny_bind (wpAny_mono (PySem.W.kat_run (vs := us) (ks := us) (Q := fun st' s' => s' = { s with heap := ((s.heap.update at_ (Obj.mapSeq fun _ => #[])).push (seqObj "tuple" us.toArray 0)).push (seqObj "list" #[] 0) } ∧ ∃ p, (arrOf st').map (·.2) = (p.toList.map fun i => us.getD i .none).toArray ∧ failedOf st' = none ∧ PRng us.length p ∧ UpTo ka p us.length) (G := fun p s' => s' = { s with heap := ((s.heap.update at_ (Obj.mapSeq fun _ => #[])).push (seqObj "tuple" us.toArray 0)).push (seqObj "list" #[] 0) } ∧ PRng us.length p ∧ UpTo ka p us.length) rfl (by omega) hz (fun p st' s' h1 h2 h3 h4 => ⟨h4.1, p, PySem.W.kat_snds rfl h2, h3, h4.2⟩) ?_) ?_ fun _ _ z => z)
    rotate_left
    · rintro ⟨⟨⟩, st'⟩ s' ⟨rfl, p, e, h3, hp, hu⟩
      dsimp only at e h3 ⊢
      have hout : ((arrOf st').map (·.2)).size = us.length := by rw [e]; simp [hp.size]
      refine wpAny_bind (seqEpoch_at ho2 rfl (wpAny_bind (listUpdate_at ho2 rfl ?_ (Nat.zero_le _) (by show ((arrOf st').map (·.2)).size ≤ _; rw [hout]; exact Nat.le_succ_of_le line))))
      rw [h3]
      simp only [bne_self_eq_false, Bool.false_eq_true, if_false]
      exact wpAny_pure (fin st' p e h3 hp hu)
    · refine wp_sort (k := ka) hd (fun i j C hi hj hC => ?_) (by omega) (fun p hp hu => ⟨rfl, hp, hu⟩)
      exact pair_lt (hP2 i hi) (hP2 j hj) (fun e => by rw [hd i j hi hj e]) hC
theorem PairAt.up {h h' : Heap} {v : Value} {a b : Int} (p : PairAt h v a b) (k : ∀ b o, h.get? b = some o → h'.get? b = some o) : PairAt h' v a b := by
  obtain ⟨t, o, e, ta, tb, rfl, h1, h2, h3⟩ := p
  exact ⟨t, o, e, ta, tb, rfl, k _ _ h1, h2, h3⟩
theorem sorted_pairs {l : Addr} {us : List Value} {Q : Value → Shared → Prop} {ka kb : Nat → Int} (hl : s.heap.IsList l us.toArray) (hP : ∀ i, i < us.length → PairAt s.heap (us.getD i .none) (ka i) (kb i)) (hd : ∀ i j, i < us.length → j < us.length → ka i = ka j → i = j) (hz : us.length < 64)
    (k : ∀ p : Array Nat, PRng us.length p → UpTo ka p us.length → Q (.ref (s.heap.objs.size + 1)) { s with heap := sortedAll s.heap us (p.toList.map fun i => us.getD i .none).toArray }) :
    wpAny (model prog w) A (call (.builtin "sorted") [.ref l]) Q E s := by
  refine Calls.call_function_entry kind_sorted plain_sorted entry_sorted (args_sorted1 _) ?_
  unfold Builtin.«sorted»
  refine wpAny_bind (m := checkCount "sorted" 1 1 _) (wpAny_pure (wpAny_bind (collect_list hl (wpAny_bind (wpAny_newList ?_ (small (m := 64) (by omega)))) (small (m := 64) (by omega)))))
  have sz : ((s.heap.push (seqObj "list" #[] 0)).update s.heap.objs.size (Obj.mapSeq (· ++ us.toArray))).objs.size = s.heap.objs.size + 1 := by rw [Heap.size_update, size_push']
  have hoL : (((s.heap.push (seqObj "list" #[] 0)).update s.heap.objs.size (Obj.mapSeq (· ++ us.toArray))).push (seqObj "list" us.toArray 0)).get? (s.heap.objs.size + 1) = some (seqObj "list" us.toArray 0) := by
    have := Heap.get?_push_size ((s.heap.push (seqObj "list" #[] 0)).update s.heap.objs.size (Obj.mapSeq (· ++ us.toArray))) (o := seqObj "list" us.toArray 0) rfl
    rwa [sz] at this
  have hup : ∀ b o, s.heap.get? b = some o → (((s.heap.push (seqObj "list" #[] 0)).update s.heap.objs.size (Obj.mapSeq (· ++ us.toArray))).push (seqObj "list" us.toArray 0)).get? b = some o := fun b o h => Heap.get?_push_of_some _ (by rw [Heap.get?_update_ne _ _ _ _ (Nat.ne_of_lt (Heap.lt_size h))]; exact Heap.get?_push_of_some _ h)
  show wpAny _ _ _ _ _ { s with heap := ((s.heap.push (seqObj "list" #[] 0)).update s.heap.objs.size (Obj.mapSeq (· ++ us.toArray))).push (seqObj "list" us.toArray 0) }
  rw [sz]
  refine wpAny_bind (wpAny_holding (wpAny_call_entry slot_list_sort ⟨_, hoL, rfl⟩ entry_list_sort (sort_pairs hoL (fun i hi => (hP i hi).up hup) hd hz fun p y1 y2 => ⟨_, rfl, ?_⟩) (args_list_sort _)))
  exact wpAny_pure ⟨_, rfl, k p y1 y2⟩
end
theorem vals_prs : ∀ {ts : List (Addr × Int × Int)} {us : List Value}, Vals (ts.map fun t => V.ref t.1) us → us = ts.map fun t => Value.ref t.1
  | [], _, .nil => rfl
  | t :: r, _, .cons h q => by cases h; rw [vals_prs q]; rfl
theorem prs_vals (ts : List (Addr × Int × Int)) : Vals (ts.map fun t => V.ref t.1) (ts.map fun t => Value.ref t.1) := by
  induction ts with
  | nil => exact .nil
  | cons a b ih => exact .cons rfl ih
theorem perm_getD {α : Type} {ts : List α} {d : α} {p : Array Nat} (h : PRng ts.length p) : (p.toList.map fun i => ts.getD i d).Perm ts := by
  have h1 := (Array.perm_iff_toList_perm.mp h).map (fun i => ts.getD i d)
  have e : (List.range ts.length).map (fun i => ts.getD i d) = ts := by
    apply List.ext_getElem?
    intro i
    rw [List.getElem?_map]
    rcases Nat.lt_or_ge i ts.length with c | c
    · rw [List.getElem?_range c, List.getElem?_eq_getElem c]; simp [List.getElem?_eq_getElem c]
    · rw [List.getElem?_eq_none (by simpa using c), List.getElem?_eq_none c]; rfl
  have h1' : (p.toList.map fun i => ts.getD i d).Perm ((List.range ts.length).map fun i => ts.getD i d) := h1
  rw [e] at h1'
  exact h1'
section
variable {X : Cx}
theorem call_sortedP {K : PySem.W.Frag} (hK : X.K = K) : CallR X (.builtin "sorted") (fun xs H Q => ∃ (a : Addr) (ts : List (Addr × Int × Int)), xs = [.ref a] ∧ SqL K H a (ts.map fun t => V.ref t.1) ∧ ts.length < 64 ∧ (∀ t ∈ ts, SqT K H t.1 [.int t.2.1, .int t.2.2]) ∧ (ts.map fun t => t.2.1).Nodup ∧
    ∀ (p : Addr) (ts' : List (Addr × Int × Int)), H p = none → ts'.Perm ts → ts'.Pairwise (fun x y => x.2.1 < y.2.1) → Q (.ref p) (upd H p (.lst (ts'.map fun t => V.ref t.1)))) := by
  subst hK
  intro pins s σ H xs us Q I r h
  obtain ⟨a, ts, rfl, ha, hz, ht, nd, q⟩ := h
  obtain ⟨u, rfl, ru⟩ := vals1 r
  cases ru
  obtain ⟨its, rv, pl, _⟩ := I.list ha
  have ei := vals_prs rv
  subst ei
  have hlen : (ts.map fun t => Value.ref t.1).length = ts.length := List.length_map _
  have hgd : ∀ i, i < ts.length → ∃ t ∈ ts, ts[i]? = some t ∧ (ts.map fun t => Value.ref t.1).getD i .none = .ref t.1 ∧ ts.getD i (0, 0, 0) = t := fun i hi => by
    refine ⟨ts[i], List.getElem_mem _, by simp [hi], ?_, ?_⟩
    · simp [hi]
    · simp [hi]
  refine sorted_pairs (ka := fun i => (ts.getD i (0, 0, 0)).2.1) (kb := fun i => (ts.getD i (0, 0, 0)).2.2) pl.isList (fun i hi => ?_) (fun i j hi hj e => ?_) (by rw [hlen]; exact hz) (fun p hp hu => ?_)
  · rw [hlen] at hi
    obtain ⟨t, tm, _, e1, e2⟩ := hgd i hi
    rw [e1]
    show PairAt _ _ (ts.getD i (0, 0, 0)).2.1 (ts.getD i (0, 0, 0)).2.2
    rw [e2]
    obtain ⟨jts, rj, ⟨o, o1, o2, n, o3⟩, _⟩ := I.tuple (ht t tm)
    cases rj with
    | cons h1 q1 => cases q1 with
      | cons h2 q2 =>
        cases q2
        obtain ⟨t1, rfl⟩ := h1
        obtain ⟨t2, rfl⟩ := h2
        exact ⟨t.1, o, n, t1, t2, rfl, o1, o2, o3⟩
  · rw [hlen] at hi hj
    obtain ⟨t, _, a1, _, e2⟩ := hgd i hi
    obtain ⟨t', _, a2, _, e3⟩ := hgd j hj
    have e' : (ts.getD i (0, 0, 0)).2.1 = (ts.getD j (0, 0, 0)).2.1 := e
    rw [e2, e3] at e'
    refine (List.getElem?_inj (l := ts.map fun t => t.2.1) (by rw [List.length_map]; exact hi) nd).mp ?_
    rw [List.getElem?_map, List.getElem?_map, a1, a2]
    show some t.2.1 = some t'.2.1
    rw [e']
  · rw [hlen] at hp hu
    have hs := hp.size
    have eo : (p.toList.map fun i => (ts.map fun t => Value.ref t.1).getD i .none) = (p.toList.map fun i => ts.getD i (0, 0, 0)).map fun t => Value.ref t.1 := by
      rw [List.map_map]
      refine List.map_congr_left fun i hi => ?_
      have hin : i < ts.length := by
        have := (Array.perm_iff_toList_perm.mp hp).mem_iff.mp hi
        simpa using this
      obtain ⟨t, _, _, e1, e2⟩ := hgd i hin
      rw [e1]
      show _ = Value.ref (ts.getD i (0, 0, 0)).1
      rw [e2]
    obtain ⟨e, he⟩ := sortedAll_at s.heap (ts.map fun t => Value.ref t.1) (p.toList.map fun i => (ts.map fun t => Value.ref t.1).getD i .none).toArray
    have pm := perm_getD (d := ((0, 0, 0) : Addr × Int × Int)) hp
    have hz2 : ((p.toList.map fun i => ts.getD i (0, 0, 0)).map fun t => V.ref t.1).length ≤ sizeLine := by rw [List.length_map, pm.length_eq]; exact small (m := 64) (by omega)
    refine ⟨.ref (s.heap.objs.size + 1), _, I.laid (t' := s.toks) (o := .lst ((p.toList.map fun i => ts.getD i (0, 0, 0)).map fun t => V.ref t.1)) (fun b o => sortedAll_old) (Nat.le_succ _) ⟨hz2, _, e, prs_vals _, by rw [← eo]; exact he⟩, rfl, q _ _ (I.hok.fresh (Nat.le_succ _)) pm ?_⟩
    rw [List.pairwise_iff_getElem]
    intro i j hi hj hij
    rw [List.length_map, Array.length_toList, hs] at hi hj
    rw [List.getElem_map, List.getElem_map]
    have := hu i j hij hj
    unfold pa at this
    have g : ∀ x (hx : x < ts.length), p.getD x 0 = p.toList[x]'(by rw [Array.length_toList, hs]; exact hx) := fun x hx => by
      rw [Array.getD_eq_getD_getElem?, Array.getElem?_eq_getElem (by omega)]; simp
    rw [g i hi, g j hj] at this
    exact this
end
end L2
set_option Elab.async false
set_option linter.all false
set_option maxRecDepth 100000
set_option maxHeartbeats 1000000
namespace L2
open PySem PySem.Spec PyProof.Rows
section
variable {X : Cx} {elt tg iter : Expr} {ifs : List Expr} {scope : Scope} {pos : Pos} {wi : TI} {tt : TTg} {tc : TT} {te : TE}
theorem call_abs1 : CallR X (.builtin "abs") (fun xs H Q => ∃ i, xs = [.int i] ∧ Q (.int (if i < 0 then -i else i)) H) := by
  intro pins s σ H xs us Q I r h
  obtain ⟨i, rfl, q⟩ := h
  obtain ⟨u, rfl, t, rfl⟩ := vals1 r
  exact call_abs_int fun u tk => ⟨.int (if i < 0 then -i else i), H, I.kept fun _ _ h => h, ⟨u, rfl⟩, q⟩
end
end L2
set_option linter.all false
namespace L2
open PySem
section
variable {P : List Value → Prop}
theorem argS {n : Nat} (h : ∀ a (us : List Value), us.length = n → P (a :: us)) (us : List Value) (e : us.length = n + 1) : P us := by
  cases us with
  | nil => exact absurd e (Nat.succ_ne_zero n).symm
  | cons a us => exact h a us (Nat.succ.inj e)
theorem arg0 (h : P []) (us : List Value) (e : us.length = 0) : P us := by
  rw [List.length_eq_zero_iff.mp e]; exact h
theorem arg1 (h : ∀ a, P [a]) : ∀ us : List Value, us.length = 1 → P us := argS fun a => arg0 (h a)
theorem arg2 (h : ∀ a b, P [a, b]) : ∀ us : List Value, us.length = 2 → P us := argS fun a => arg1 (P := fun us => P (a :: us)) (h a)
theorem arg3 (h : ∀ a b c, P [a, b, c]) : ∀ us : List Value, us.length = 3 → P us := argS fun a => arg2 (P := fun us => P (a :: us)) (h a)
end
end L2
set_option Elab.async false
set_option linter.all false
set_option maxRecDepth 100000
set_option maxHeartbeats 1000000
namespace L2
open PySem PySem.Spec PyProof.Rows
theorem vals_bls : ∀ {bs : List Bool} {us : List Value}, Vals (bs.map V.bl) us → us = bs.map Value.bool
  | [], _, .nil => rfl
  | b :: r, _, .cons h q => by cases h; rw [vals_bls q]; rfl
section
variable {X : Cx}
end
section
variable {X : Cx}
end
abbrev PRow := Int × List (Int × Int)
abbrev rWays : Rel (List (Int × Int)) := rLst (rT2 rInt rInt)
abbrev rPR : Rel PRow := rT2 rInt rWays
abbrev rPG : Rel (List PRow) := rLst rPR
theorem mono_ways : MonoR rWays := mono_lst (mono_t2 mono_int mono_int)
theorem mono_pr : MonoR rPR := mono_t2 mono_int mono_ways
theorem mono_pg : MonoR rPG := mono_lst mono_pr
def WaysAt (H : Hp) (wa : Addr) (ts : List (Addr × Int × Int)) : Prop := H wa = some (.lst (ts.map fun t => V.ref t.1)) ∧ ∀ t ∈ ts, H t.1 = some (.tup [.int t.2.1, .int t.2.2])
theorem ways_pairs {H : Hp} : ∀ {ws : List (Int × Int)} {vs : List V}, Paired (rT2 rInt rInt H) ws vs → ∃ ts : List (Addr × Int × Int), vs = (ts.map fun t => V.ref t.1) ∧ (ts.map fun t => t.2) = ws ∧ ∀ t ∈ ts, H t.1 = some (.tup [.int t.2.1, .int t.2.2])
  | _, _, .nil => ⟨[], rfl, rfl, fun _ z => by cases z⟩
  | w :: _, _, .cons h q => by
    obtain ⟨ts, e1, e2, e3⟩ := ways_pairs q
    obtain ⟨a, x, y, rfl, ha, hx, hy⟩ := h
    cases hx; cases hy
    refine ⟨(a, w.1, w.2) :: ts, by rw [e1]; rfl, by rw [← e2]; rfl, fun t ht => ?_⟩
    rcases List.mem_cons.mp ht with z | z
    · rw [z]; exact ha
    · exact e3 t z
theorem pairs_ways {H : Hp} : ∀ {ts : List (Addr × Int × Int)}, (∀ t ∈ ts, H t.1 = some (.tup [.int t.2.1, .int t.2.2])) → Paired (rT2 rInt rInt H) (ts.map fun t => t.2) (ts.map fun t => V.ref t.1)
  | [], _ => .nil
  | t :: r, h => .cons ⟨t.1, _, _, rfl, h t List.mem_cons_self, rfl, rfl⟩ (pairs_ways fun u hu => h u (List.mem_cons_of_mem _ hu))
theorem ways_at {H : Hp} {ws : List (Int × Int)} {v : V} (h : rWays H ws v) : ∃ wa ts, v = .ref wa ∧ WaysAt H wa ts ∧ (ts.map fun t => t.2) = ws := by
  obtain ⟨wa, vs, rfl, h1, p⟩ := h
  obtain ⟨ts, rfl, e2, e3⟩ := ways_pairs p
  exact ⟨wa, ts, rfl, ⟨h1, e3⟩, e2⟩
theorem WaysAt.rel {H : Hp} {wa : Addr} {ts : List (Addr × Int × Int)} (h : WaysAt H wa ts) : rWays H (ts.map fun t => t.2) (.ref wa) := ⟨wa, _, rfl, h.1, pairs_ways h.2⟩
theorem WaysAt.up {H H' : Hp} {wa : Addr} {ts : List (Addr × Int × Int)} (h : WaysAt H wa ts) (s : Same H H') : WaysAt H' wa ts := ⟨s _ _ h.1, fun t ht => s _ _ (h.2 t ht)⟩
theorem pr_parts {H : Hp} {r : PRow} {v : V} (h : rPR H r v) : ∃ t wa ts, v = .ref t ∧ H t = some (.tup [.int r.1, .ref wa]) ∧ WaysAt H wa ts ∧ (ts.map fun t => t.2) = r.2 := by
  obtain ⟨t, x, y, rfl, h1, h2, h3⟩ := h
  cases h2
  obtain ⟨wa, ts, rfl, h4, h5⟩ := ways_at h3
  exact ⟨t, wa, ts, rfl, h1, h4, h5⟩
theorem pg_parts {H : Hp} {G : List PRow} {v : V} (h : rPG H G v) : ∃ g vs, v = .ref g ∧ H g = some (.lst vs) ∧ vs.length = G.length ∧
    ∀ (i : Nat) (r : PRow), G[i]? = some r → ∃ t wa ts, vs[i]? = some (.ref t) ∧ H t = some (.tup [.int r.1, .ref wa]) ∧ WaysAt H wa ts ∧ (ts.map fun t => t.2) = r.2 := by
  obtain ⟨g, vs, rfl, h1, p⟩ := h
  refine ⟨g, vs, rfl, h1, p.length.symm, fun i r hr => ?_⟩
  obtain ⟨y, hy, ry⟩ := Paired.at p hr
  obtain ⟨t, wa, ts, rfl, h2, h3, h4⟩ := pr_parts ry
  exact ⟨t, wa, ts, hy, h2, h3, h4⟩
theorem rise_eq : ∀ {xs ys : List (Int × Int)}, xs.Perm ys → xs.Pairwise (fun a b => a.1 < b.1) → ys.Pairwise (fun a b => a.1 < b.1) → xs = ys
  | [], ys, p, _, _ => p.nil_eq
  | x :: xs, ys, p, h1, h2 => by
    cases ys with
    | nil => exact absurd p.symm.nil_eq (by simp)
    | cons y ys =>
      rw [List.pairwise_cons] at h1 h2
      have e : x = y := by
        have hx : x ∈ y :: ys := p.mem_iff.mp List.mem_cons_self
        have hy : y ∈ x :: xs := p.mem_iff.mpr List.mem_cons_self
        rcases List.mem_cons.mp hx with z | z
        · exact z
        · rcases List.mem_cons.mp hy with z2 | z2
          · exact z2.symm
          · have a := h2.1 x z
            have b := h1.1 y z2
            omega
      subst e
      rw [rise_eq (List.Perm.cons_inv p) h1.2 h2.2]
end L2
set_option Elab.async false
set_option linter.all false
set_option maxRecDepth 100000
set_option maxHeartbeats 1000000
namespace L2
open PySem PySem.Spec PyProof.Rows
abbrev K0 : PySem.W.Frag := []
theorem SqL.k0 {K : PySem.W.Frag} {H : Hp} {a : Addr} {xs : List V} (h : SqL K0 H a xs) : SqL K H a xs := by
  rcases h with h | ⟨o, _, _, hk, _⟩
  · exact .inl h
  · cases hk
section
variable {X : Cx}
theorem Itl.le (a : Addr) {K : PySem.W.Frag} : (∀ i H, (Itl K0 a).go i H → (Itl K a).go i H) ∧ (∀ i H x H', (Itl K a).yld i H x H' → (Itl K0 a).yld i H x H') ∧ ∀ i H, (Itl K0 a).stop i H → (Itl K a).stop i H :=
  ⟨fun i H ⟨xs, x, h1, h2⟩ => ⟨xs, x, h1.k0, h2⟩, fun i H x H' ⟨e, h⟩ => ⟨e, fun xs hx => h xs hx.k0⟩, fun i H ⟨xs, h1, h2⟩ => ⟨xs, h1.k0, h2⟩⟩
theorem Turn.le {P : Program} {w : World} {K : PySem.W.Frag} {tg : Expr} {J J' : It} {fp : List Addr} {it : Addr} {tn : Nat → Heap → Prop} (t : Turn P w K tg J fp it tn) (h : (∀ i H, J'.go i H → J.go i H) ∧ (∀ i H x H', J.yld i H x H' → J'.yld i H x H') ∧ ∀ i H, J'.stop i H → J.stop i H) : Turn P w K tg J' fp it tn where
  mem := t.mem
  obj := t.obj
  keep := t.keep
  item := fun X e1 e2 e3 e4 i pins s σ H E I hf ht hg => by
    refine wpAny_mono (t.item X e1 e2 e3 e4 i pins s σ H E I hf ht (h.1 i H hg)) (fun r s1 hm0 => ?_) fun _ _ z => z
    obtain ⟨u, e, q⟩ := hm0
    refine ⟨u, e, ?_⟩
    refine wpAny_mono q (fun _ s2 hm0 => ?_) fun _ _ z => z
    obtain ⟨x, H', I', r', y, z⟩ := hm0
    exact ⟨x, H', I', r', h.2.1 i H x H' y, z⟩
  done := fun X e1 e2 e3 e4 i pins s σ H E I hf ht hg => t.done X e1 e2 e3 e4 i pins s σ H E I hf ht (h.2.2 i H hg)
  self := t.self
theorem PIE.le {pins : List (Addr × Obj)} {σ : St} {tg : Expr} {R R' : It → Hp → Prop} {v : Value} {s : Shared} (h : PIE X pins σ tg R' v s) (f : ∀ J H, R' J H → ∃ J', ((∀ i H, J'.go i H → J.go i H) ∧ (∀ i H x H', J.yld i H x H' → J'.yld i H x H') ∧ ∀ i H, J'.stop i H → J.stop i H) ∧ R J' H) : PIE X pins σ tg R v s := by
  obtain ⟨it, fp, tn, J, H', e, I, t, z, g, r⟩ := h
  obtain ⟨J', l, r'⟩ := f J H' r
  exact ⟨it, fp, tn, J', H', e, I, t.le l, z, g, r'⟩
theorem PE.wish {e : Expr} {t : TE} (h : PE X e t) (Q0 : V → Hp → Prop) : PE X e (fun σ H Q => t σ H Q0 ∧ ∀ x H1, Q0 x H1 → Q x H1) := fun pins s σ H Q I ⟨h1, h2⟩ => wpAny_mono (h pins s σ H Q0 I h1) (fun _ _ ⟨x, H1, I1, r1, q1⟩ => ⟨x, H1, I1, r1, h2 x H1 q1⟩) fun _ _ z => z
theorem pi_list0 {tg l : Expr} {tl : TE} (hl : PE X l tl) : PI X tg l (iList K0 tl) := fun pins s σ H R I h =>
  wpAny_mono (pi_list (hl.wish (fun x H1 => ∃ a, x = .ref a ∧ (∃ xs, SqL K0 H1 a xs) ∧ R (Itl K0 a) H1)) pins s σ H (fun J H' => ∃ a, J = Itl X.K a ∧ R (Itl K0 a) H') I ⟨h, fun x H1 ⟨a, e, ⟨xs, hx⟩, r⟩ => ⟨a, e, ⟨xs, hx.k0⟩, a, rfl, r⟩⟩)
    (fun _ _ q => wpAny_mono q (fun _ _ p => p.le fun J H' ⟨a, e, r⟩ => ⟨Itl K0 a, by subst e; exact Itl.le a, r⟩) fun _ _ z => z) fun _ _ z => z
end
end L2
set_option linter.all false
namespace L2
open PySem PySem.Spec PyProof.Rows
end L2
set_option Elab.async false
set_option linter.all false
set_option maxHeartbeats 4000000
namespace L2
open PySem
section
variable {X : Cx} {pins : List (Addr × Obj)} {σ : St} {H : Hp} {s : Shared} {a : Addr} {kvs : List (Key × V)} {k : Key} {u : Value} {A : Around} {E : Value → Shared → Prop}
end
section
variable {X : Cx} {o e f : Expr} {apos cpos : Pos} {td ty tx : TE}
end
end L2
set_option Elab.async false
set_option linter.all false
set_option maxRecDepth 100000
set_option maxHeartbeats 4000000
namespace L2
open PySem PySem.Spec PyProof.Rows
theorem pe_gstr {X : Cx} {x z : Str} {pos : Pos} (hm : ∃ t, X.mg x = some (.str z t)) (hg : Gl X x := by rfl) (hd : (x == ("__debug__" : Str)) = false := by decide) : PE X (.Name x pos) (tC (.str z)) := by
  obtain ⟨t, hm⟩ := hm
  exact pe_glob hg hm ⟨t, rfl⟩ hd
theorem vals_from : ∀ (ps : List Str) (k : Nat), Vals (ps.map V.str) (strsFrom k ps)
  | [], _ => .nil
  | p :: r, k => .cons ⟨k, rfl⟩ (vals_from r (k + 1))
def rSplit : V → List V → Hp → VK → Prop := fun x vs H Q => ∃ z y, x = .str z ∧ vs = [.str y] ∧ (y.length == 0) = false ∧ z.length + 2 ≤ sizeLine ∧ ∀ p, H p = none → Q (.ref p) (upd H p (.lst ((Txt.split z y).map V.str)))
section
variable {X : Cx}
theorem mt_split : MtM X "str.split" rSplit := by
  intro pins s σ H x vs v us Q I rx rv h
  obtain ⟨z, y, rfl, rfl, hy, hz, q⟩ := h
  obtain ⟨t, rfl⟩ := rx
  obtain ⟨u, rfl, t', rfl⟩ := rv.one
  have hf := (fact_split z y).2
  have lay : ∀ (its : List Value) (tk : Nat), Vals ((Txt.split z y).map V.str) its → EP X pins σ Q (.ref s.heap.objs.size) { heap := s.heap.push { cls := .type "list", data := .seq its.toArray }, gens := s.gens, drawn := s.drawn, toks := tk, os := s.os } := fun its tk r => by
    refine ⟨.ref s.heap.objs.size, _, I.laid (t' := tk) (o := .lst ((Txt.split z y).map V.str)) (fun b ob q => Heap.get?_push_of_some _ q) (Nat.le_refl _) ?_, rfl, q _ (I.hok.fresh (Nat.le_refl _))⟩
    exact ⟨by rw [List.length_map]; omega, its, 0, r, Heap.get?_push_size _ rfl⟩
  cases c1 : (decide (z.length < y.length) || decide (Builtin.Str.strKind z < Builtin.Str.strKind y)) with
  | true =>
    have e : Txt.split z y = [z] := by unfold Txt.split; rw [if_pos c1]
    exact call_meets F.slot_str_split (typeIs_str s z t) F.entry_str_split (F.args_str_split_2 _ _) (meets_str_split_cannot_occur z y t t' c1) (lay [.str z t] _ (by rw [e]; exact .cons ⟨t, rfl⟩ .nil))
  | false =>
    cases c2 : (Builtin.Str.occurrences z y 0 z.length (z.length + 1)).isEmpty with
    | true =>
      have e : Txt.split z y = [z] := by unfold Txt.split; rw [if_neg (by rw [c1]; decide), if_pos c2]
      exact call_meets F.slot_str_split (typeIs_str s z t) F.entry_str_split (F.args_str_split_2 _ _) (meets_str_split_not_found z y t t' c1 hy c2) (lay [.str z t] _ (by rw [e]; exact .cons ⟨t, rfl⟩ .nil))
    | false =>
      have e : Txt.split z y = Builtin.Str.partsBetween z (Builtin.Str.occurrences z y 0 z.length (z.length + 1)) y.length := by unfold Txt.split; rw [if_neg (by rw [c1]; decide), if_neg (by rw [c2]; decide)]
      exact call_meets F.slot_str_split (typeIs_str s z t) F.entry_str_split (F.args_str_split_2 _ _) (meets_str_split_sep z y t t' c1 hy c2 (by omega) (by rw [← e]; omega)) (lay _ _ (by rw [e]; exact vals_from _ _))
def rPart : V → List V → Hp → VK → Prop := fun x vs H Q => ∃ z y, x = .str z ∧ vs = [.str y] ∧ (y.length == 0) = false ∧ z.length ≤ sizeLine ∧ ∀ p, H p = none → Q (.ref p) (upd H p (.tup [.str (Txt.partition z y).1, .str (Txt.partition z y).2.1, .str (Txt.partition z y).2.2]))
theorem mt_partition : MtM X "str.partition" rPart := by
  intro pins s σ H x vs v us Q I rx rv h
  obtain ⟨z, y, rfl, rfl, hy, hz, q⟩ := h
  obtain ⟨t, rfl⟩ := rx
  obtain ⟨u, rfl, t', rfl⟩ := rv.one
  have lay : ∀ (its : List Value) (tk : Nat), Vals [.str (Txt.partition z y).1, .str (Txt.partition z y).2.1, .str (Txt.partition z y).2.2] its → EP X pins σ Q (.ref s.heap.objs.size) { heap := s.heap.push { cls := .type "tuple", data := .seq its.toArray }, gens := s.gens, drawn := s.drawn, toks := tk, os := s.os } := fun its tk r => by
    refine ⟨.ref s.heap.objs.size, _, I.laid (t' := tk) (o := .tup _) (fun b ob q => Heap.get?_push_of_some _ q) (Nat.le_refl _) ?_, rfl, q _ (I.hok.fresh (Nat.le_refl _))⟩
    exact ⟨by show 3 ≤ sizeLine; decide, its, r, IsTup.new _ _⟩
  refine call_meets F.slot_str_partition (typeIs_str s z t) F.entry_str_partition (F.args_str_partition_2 _ _) (meets_str_partition z y t t' hy hz) ?_
  cases c : Builtin.Str.occurrences z y 0 z.length 1 with
  | nil => exact lay [.str z t, .str Str.empty s.toks, .str Str.empty s.toks] _ (by unfold Txt.partition; rw [c]; exact .cons ⟨_, rfl⟩ (.cons ⟨_, rfl⟩ (.cons ⟨_, rfl⟩ .nil)))
  | cons i r => exact lay [.str (Builtin.Str.strSub z 0 i) s.toks, .str y t', .str (Builtin.Str.strSub z (i + y.length) z.length) (s.toks + 1)] _ (by unfold Txt.partition; rw [c]; exact .cons ⟨_, rfl⟩ (.cons ⟨_, rfl⟩ (.cons ⟨_, rfl⟩ .nil)))
theorem strs_are : ∀ {ys : List Str} {us : List Value}, Vals (ys.map V.str) us → StrsAre us ys
  | [], _, r => by cases r; exact .nil
  | y :: ys, _, r => by
    cases r with
    | cons h r =>
      obtain ⟨t, e⟩ := h
      subst e
      exact .cons y t (strs_are r)
def rJoin (K : PySem.W.Frag) : V → List V → Hp → VK → Prop := fun x vs H Q => ∃ (z : Str) (a : Addr) (ys : List Str), x = .str z ∧ vs = [.ref a] ∧ SqL K H a (ys.map V.str) ∧ z.length ≤ 64 ∧ (ys.map fun x => x.length).sum + ys.length * 64 ≤ 16777216 ∧ Q (.str (Txt.join z ys)) H
theorem mt_join : MtM X "str.join" (rJoin X.K) := by
  intro pins s σ H x vs v us Q I rx rv h
  obtain ⟨z, a, ys, rfl, rfl, hq, h64, hs, q⟩ := h
  obtain ⟨t, rfl⟩ := rx
  obtain ⟨u, rfl, ru⟩ := rv.one
  cases ru
  obtain ⟨its, r, pl, hz⟩ := I.list hq
  exact PyProof.Rows.join_listC pl.isList (by simpa using strs_are r) h64 hs fun t' k => ⟨.str _, H, I.kept (t' := k) fun b o e => e, ⟨t', rfl⟩, q⟩
end
end L2
set_option Elab.async false
set_option linter.all false
set_option maxRecDepth 100000
set_option maxHeartbeats 4000000
namespace L2
open PySem PySem.Spec PyProof.Rows
theorem range_all (bs : List Bool) : (List.range bs.length).all (fun i => bs.getD i false) = bs.all id := by
  rw [Bool.eq_iff_iff, List.all_eq_true, List.all_eq_true]
  constructor
  · intro h b hb
    obtain ⟨i, hi⟩ := List.getElem?_of_mem hb
    have hl := (List.getElem?_eq_some_iff.mp hi).1
    have := h i (List.mem_range.mpr hl)
    rw [List.getD_eq_getElem?_getD, hi] at this
    exact this
  · intro h i hi
    have hl := List.mem_range.mp hi
    rw [List.getD_eq_getElem?_getD, List.getElem?_eq_getElem hl]
    exact h _ (List.getElem_mem hl)
section
variable {X : Cx}
theorem call_allL (hc : X.calm = true) : CallR X (.builtin "all") (fun xs H Q => ∃ (a : Addr) (bs : List Bool), xs = [.ref a] ∧ SqL X.K H a (bs.map V.bl) ∧ Q (.bl (bs.all id)) H) := by
  intro pins s σ H xs us Q I r h
  obtain ⟨a, bs, rfl, ha, q⟩ := h
  obtain ⟨u, rfl, ru⟩ := vals1 r
  cases ru
  obtain ⟨its, rv, pl, hz⟩ := I.list ha
  have ei := vals_bls rv
  subst ei
  have hal : a < s.heap.objs.size := by
    obtain ⟨o, h1, _⟩ := pl.isList
    exact Heap.lt_size h1
  refine call_all_walk (wpAny_pyIter_list pl.isList ⟨s.heap.objs.size, _, _, _, _, _, fun i => bs.getD i false, rfl, Walks.list (A := X.A.in1) (I.ok.hd hc) s.heap.objs.size a (Nat.ne_of_lt hal) (bs.map Value.bool).toArray, ⟨⟨_, Heap.get?_push_size _ rfl, rfl, rfl⟩, ?_⟩, fun i v s' Q' E' hv hq => ?_, fun h' tk k => ?_⟩)
  · obtain ⟨o, h1, h2⟩ := pl.isList
    exact ⟨o, Heap.get?_push_of_some _ h1, h2⟩
  · have hv' : (bs.map Value.bool)[i]? = some v := by simpa using hv
    rw [List.getElem?_map] at hv'
    cases e : bs[i]? with
    | none => rw [e] at hv'; cases hv'
    | some b =>
      rw [e] at hv'; cases hv'
      refine wpAny_truthy_bool ?_
      have : bs.getD i false = b := by rw [List.getD_eq_getElem?_getD, e]; rfl
      have hq' : Q' (bs.getD i false) s' := hq
      rw [this] at hq'
      exact hq'
  · have e : (List.range (bs.map Value.bool).toArray.size).all (fun i => bs.getD i false) = bs.all id := by
      rw [← range_all bs]; simp
    rw [e]
    refine ⟨.bl (bs.all id), H, I.kept (t' := tk) fun b o hb => ?_, rfl, q⟩
    exact k b o (by rw [List.mem_singleton]; exact Nat.ne_of_lt (Heap.lt_size hb)) (Heap.get?_push_of_some _ hb)
end
def Its (z : Str) : It where
  go := fun i _ => i < z.cps.size
  yld := fun i H x H' => H' = H ∧ ∃ c, z.cps[i]? = some c ∧ x = .str ⟨#[c]⟩
  stop := fun i _ => i = z.cps.size
theorem walk_str {P : Program} {w : World} {A : Around} (h : A.handled = none) (it : Addr) (z : Str) (t : Tok) : Walks P w A it [it] [it] z.cps.size (SignAt z) (fun i h => h.IsStrIter it (strIterType z) z t i) := by
  unfold strIterType
  split
  · exact Walks.strAscii h it z t
  · exact Walks.strWide h it z t
theorem turn_str {P : Program} {w : World} {K : PySem.W.Frag} {tg : Expr} (z : Str) (t : Tok) (it : Addr) : Turn P w K tg (Its z) [it] it (fun i h => h.IsStrIter it (strIterType z) z t i) where
  mem := by simp
  obj := fun i h st b hb => by
    have e : b = it := by simpa using hb
    subst e
    obtain ⟨o, e, c, d⟩ := st
    exact ⟨o, e, fun v z => by rw [d] at z; cases z⟩
  keep := fun i h h' st k => by
    obtain ⟨o, e, c, d⟩ := st
    exact ⟨o, k it (by simp) o e, c, d⟩
  item := by
    intro X hP hw hK hc i pins s σ H E I hf st hg
    subst hP hw hK
    obtain ⟨f0, f1, f2, f3, f4, f5⟩ := hf it (by simp)
    refine (walk_str (P := X.prog) (w := X.w) (I.ok.hd hc) it z t).item i s _ _ hg st fun v h' tk hv st' kk => ?_
    obtain ⟨c, u, hc', rfl⟩ := hv
    have I1 : Inv X pins σ H { s with heap := h', toks := tk } := I.turned (fun b o hb e => kk b o (by simpa using hb) e) f0 f1 f3 f4 f5
    obtain ⟨o, e, cc, d⟩ := id st'
    refine ⟨_, rfl, go_of (s := { s with heap := h', toks := tk }) e cc d (by unfold strIterType; split <;> decide) ⟨.str ⟨#[c]⟩, H, I1, ⟨u, rfl⟩, ⟨rfl, c, hc', rfl⟩, st', fun b hb => (hf b hb).1⟩⟩
  done := by
    intro X hP hw hK hc i pins s σ H E I hf st hg
    subst hP hw hK
    obtain ⟨f0, f1, f2, f3, f4, f5⟩ := hf it (by simp)
    have e : i = z.cps.size := hg
    subst e
    exact (walk_str (P := X.prog) (w := X.w) (I.ok.hd hc) it z t).done s _ _ st fun h' tk kk => ⟨rfl, I.turned (fun b o hb e => kk b o (by simpa using hb) e) f0 f1 f3 f4 f5⟩
  self := fun A i s Q E st h => by
    unfold strIterType at st
    split at st
    · exact wpAny_pyIter_striter_ascii st h
    · exact wpAny_pyIter_striter_wide st h
def iStr (tl : TE) : TI := fun σ H R => tl σ H fun x H1 => ∃ z, x = .str z ∧ R (Its z) H1
theorem pi_str {X : Cx} {tg l : Expr} {tl : TE} (hl : PE X l tl) : PI X tg l (iStr tl) := by
  intro pins s σ H R I h
  refine thn (hl pins s σ H _ I h) fun v s1 hm0 => ?_
  obtain ⟨x, H1, I1, r1, q1⟩ := hm0
  obtain ⟨z, e, q⟩ := q1
  subst e
  obtain ⟨t, rfl⟩ := r1
  refine wpAny_pyIter_strU ?_
  refine ⟨s1.heap.objs.size, [s1.heap.objs.size], _, _, H1, rfl, I1.kept (t' := s1.toks) fun b o e => Heap.get?_push_of_some _ e, turn_str z t _, ⟨_, Heap.get?_push_size _ rfl, rfl, rfl⟩, fun b hb => ?_, q⟩
  have e : b = s1.heap.objs.size := by simpa using hb
  subst e
  exact I1.fpOk (Nat.le_refl _) (I1.hok.fresh (Nat.le_refl _))
theorem comp_strD {z : Str} {tt : TTg} {tc : TT} {te : TE} {cap : List Nat} {σ : St} {H : Hp} {D : Addr → List V → Hp → Prop} (Pv : Nat → List V → Hp → Prop) (h0 : Pv 0 [] H) (hz : z.cps.size ≤ sizeLine) (hl : ∀ i ys H, i ≤ z.cps.size → Pv i ys H → ys.length ≤ i)
    (hs : ∀ i c ys H, z.cps[i]? = some c → Pv i ys H → tt (.str ⟨#[c]⟩) H fun ws => tc (ws.map some ++ capS σ cap) H fun b H4 => if b = true then te (ws.map some ++ capS σ cap) H4 fun y H5 => Pv (i + 1) (ys ++ [y]) H5 else Pv (i + 1) ys H4)
    (hd : ∀ ys H, Pv z.cps.size ys H → ∀ p, H p = none → D p ys H) :
    ∃ W : Nat → Nat → List V → Hp → Prop, (∃ m, W 0 m [] H) ∧ ∀ i m ys H2, W i m ys H2 →
    ((Its z).stop i H2 ∧ ys.length ≤ sizeLine ∧ ∀ p, H2 p = none → D p ys H2) ∨
    ((Its z).go i H2 ∧ ∃ N : List V → Hp → Prop, (∀ ys' H', N ys' H' → ys'.length ≤ sizeLine ∧ ∃ m', m' < m ∧ W (i + 1) m' ys' H') ∧
      ∀ x H3, (Its z).yld i H2 x H3 → tt x H3 fun ws => tc (ws.map some ++ capS σ cap) H3 fun b H4 => if b = true then te (ws.map some ++ capS σ cap) H4 fun y H5 => N (ys ++ [y]) H5 else N ys H4) := by
  refine ⟨fun i m ys H => m = z.cps.size - i ∧ i ≤ z.cps.size ∧ Pv i ys H, ⟨z.cps.size, by simp, Nat.zero_le _, h0⟩, ?_⟩
  rintro i m ys H2 ⟨rfl, hi, p⟩
  have q := hl i ys H2 hi p
  by_cases hlt : i < z.cps.size
  · refine .inr ⟨hlt, Pv (i + 1), fun ys' H' p' => ⟨Nat.le_trans (hl (i + 1) ys' H' hlt p') (Nat.le_trans hlt hz), z.cps.size - (i + 1), by omega, rfl, hlt, p'⟩, fun x H' y => ?_⟩
    obtain ⟨rfl, c, hc, rfl⟩ := y
    exact hs i c ys _ hc p
  · have e : i = z.cps.size := by omega
    subst e
    exact .inl ⟨rfl, Nat.le_trans q hz, fun p' hp' => hd ys H2 p p' hp'⟩
end L2
set_option Elab.async false
set_option linter.all false
set_option maxRecDepth 100000
set_option maxHeartbeats 4000000
namespace L2
open PySem PySem.Spec PyProof.Rows
section
variable {X : Cx} {o i : Expr} {pos : Pos} {td ty : TE}
end
end L2
set_option Elab.async false
set_option linter.all false
set_option maxRecDepth 100000
set_option maxHeartbeats 4000000
namespace L2
open PySem PySem.Spec PyProof.Rows
section
variable {X : Cx} {elt tg iter : Expr} {ifs : List Expr} {scope : Scope} {pos : Pos} {N : List Str} {k : Nat} {cap : List Nat} {wi : TI} {tt : TTg} {tc : TT} {te : TE}
end
section
variable {X : Cx} {elt tg iter : Expr} {ifs : List Expr} {scope : Scope} {pos : Pos} {wi : TI} {tt : TTg} {tc : TT} {te : TE}
end
section
variable {X : Cx} {elt tg iter : Expr} {ifs : List Expr} {scope : Scope} {pos : Pos} {wi : TI} {tt : TTg} {tc : TT} {te : TE}
theorem relabel_cf {sc : Scope} {env : Env} {x : Str} (h : sc.names.lookup x = some .cell ∨ sc.names.lookup x = some .free) : (relabel sc env).names.lookup x = some .cell ∨ (relabel sc env).names.lookup x = some .free := by
  rcases h with h | h
  · left
    have go : ∀ (names : List (Str × NameKind)), names.lookup x = some .cell → (names.map fun (n, k) => if (k == NameKind.free && env.scope.kind == .function && env.kindOf n == some .cell) then (n, NameKind.cell) else (n, k)).lookup x = some .cell := by
      intro names
      induction names with
      | nil => intro h; simp at h
      | cons z r ih =>
        obtain ⟨n, k⟩ := z
        intro h
        show List.lookup x ((if (k == NameKind.free && env.scope.kind == .function && env.kindOf n == some .cell) = true then (n, NameKind.cell) else (n, k)) :: _) = _
        cases hx : x == n with
        | true =>
          simp only [List.lookup_cons, hx] at h
          cases h
          split <;> simp [List.lookup_cons, hx]
        | false =>
          simp only [List.lookup_cons, hx] at h
          split <;> (simp only [List.lookup_cons, hx]; exact ih h)
    exact go _ h
  · exact relabel_free h
theorem CompOk.relabel {scope psc : Scope} {N PN : List Str} {k : Nat} {cap : List Nat} {env : Env} (h : CompOk scope psc N PN k cap) : CompOk scope (relabel psc env) N PN k cap :=
  ⟨h.kind, h.len, h.cell, h.loc, fun y hy hf => relabel_cf (h.free y hy hf), h.cap, h.free2⟩
theorem pe_lcN2 {psc : Scope} {env0 : Env} (PN N : List Str) (k : Nat) (cap : List Nat) (hi : PI X tg iter wi) (hg : ∀ cl C s H ex pn, PTg (compCx X scope N cl C s H ex pn) k tg tt) (ht : ∀ cl C s H ex pn, PTs (compCx X scope N cl C s H ex pn) ifs tc)
    (he : ∀ cl C s H ex pn, PE (compCx X scope N cl C s H ex pn) elt te) (hc : X.calm = true := by rfl) (h2 : X.N = PN := by rfl) (h1 : X.env.scope = PySem.relabel psc env0 := by rfl) (S : compOkB scope psc N PN k cap = true := by decide +kernel)
    (hs : ∀ x, foldedSetIterable iter X.env x = pure x := by intro _; rfl) :
    PE X (.ListComp elt [⟨tg, iter, ifs, 0⟩] scope pos) (tComp wi tt tc te cap) := pe_comp hc (by rw [h2, h1]; exact (compOk_of S).relabel) hi hg ht he hs
end
end L2
set_option Elab.async false
set_option linter.all false
set_option maxRecDepth 100000
set_option maxHeartbeats 4000000
namespace L2
open PySem PySem.Spec PyProof.Rows
theorem list_no_keys : typeLookup (.type "list") "keys" = pure none := am_miss_of_fast (by decide +kernel)
theorem no_keys_list {prog : Program} {w : World} {A : Around} {E : Value → Shared → Prop} {s : Shared} {a : Addr} {o : Obj} {xs : Array Value} {k : Nat} {Q : Option Value → Shared → Prop}
    (hx : s.heap.get? a = some o) (hc : o.cls = .type "list") (hdat : o.data = .seq xs k) (hd : o.dict = none) (hA : A.handled = none)
    (h : ∀ h' tk, (∀ b ob, s.heap.get? b = some ob → h'.get? b = some ob) → Q none { s with heap := h', toks := tk }) :
    wpAny (model prog w) A (getAttr? (.ref a) "keys") Q E s := by
  obtain ⟨c, dct, dat, sl⟩ := o
  simp only at hc hdat hd
  subst hc hdat hd
  obtain ⟨hp, g, d, tk, os⟩ := s
  have hT : ∀ tk', (⟨hp, g, d, tk', os⟩ : Shared).TypeIs (.ref a) "list" := fun _ => ⟨_, hx, rfl⟩
  have f1 := sub_AttributeError
  have f3 := F.slot_list_getattribute.lookup
  have f4 := F.slot_list_getattribute.bind (.ref a)
  have f5 := am_list_getattr_none
  unfold getAttr? getAttrBy? getAttrBy
  repeat (any_goals (first | assumption | exact hT _ | ((with_reducible show wpAny _ _ (call (Value.builtin "list.__getattribute__") _ _) _ _ _); refine call_meets F.slot_list_getattribute (hT _) am_entry_list_getattribute (F.args_list_getattribute_2 _ _) (meets_getattribute_miss_list a xs k sl "keys" _ list_no_keys (by decide +kernel) (by size_fits)) ⟨hx, hA, fun h' tk' e hx' => ?_⟩) | wp_step))
  obtain ⟨t', u', he⟩ := hx'.there
  show wpAny _ _ (getattributeRaised _ _ _ _ _ _ _) _ _ _
  unfold getattributeRaised
  repeat (any_goals (first | assumption | wp_step))
  exact h _ _ hx'.keeps
theorem entry_dict_update_loop : entryFor table "dict.update.loop" = some Builtin.«dict.update.loop» := entryFor_of_tree (by kernel_rfl)
theorem plain_dict_update_loop : plainId "dict.update.loop" = true := by decide +kernel
def putAll : List (Key × V) → List (Key × V) → List (Key × V) := List.foldl fun c p => putK c p.1 p.2
def PairsAt (P : Program) (w : World) (h : Heap) (d it : Addr) (items : List Value) (kys : List (Key × V)) : Prop :=
  ∀ (j : Nat) (ky : Key × V), kys[j]? = some ky → ∃ (t : Addr) (ku vu : Value), items[j]? = some (.ref t) ∧ h.IsTuple t #[ku, vu] ∧ (mixKind P w).is ky.1 ku = true ∧ RelV ky.2 vu ∧ t ≠ d ∧ t ≠ it
theorem upd_loop {P : Program} {w : World} {A : Around} {d it l : Addr} {items : List Value} {kys : List (Key × V)} (hh : A.handled = none) (hlen : items.length = kys.length) (hz : kys.length ≤ sizeLine) (hdi : d ≠ it) (hld : l ≠ d) (hli : l ≠ it) :
    ∀ (n i : Nat) (s : Shared) (cur : List (Key × V)) (vs : List (Key × Value)) (tk : Tok) (R : Result → Shared → Prop), kys.length - i = n → i ≤ kys.length → s.heap.IsListIter it l i → s.heap.IsList l items.toArray → PairsAt P w s.heap d it items kys → KV cur vs → s.heap.DictOf (mixKind P w) d vs → cur.length ≤ i →
      (∀ h' t' vs', KV (putAll cur (kys.drop i)) vs' → h'.DictOf (mixKind P w) d vs' → (putAll cur (kys.drop i)).length ≤ kys.length → (∀ b o, b ≠ d → b ≠ it → s.heap.get? b = some o → h'.get? b = some o) → R (.ok (.ret .none)) { s with heap := h', toks := t' }) →
      codeAny (model P w) A (.builtin "dict.update.loop" ⟨[.ref d, .ref it, .int (i : Int) tk, .none], []⟩) R s := by
  intro n
  induction n with
  | zero =>
    intro i s cur vs tk R hn hi hit hl hp hkv hd hc hR
    have e : i = kys.length := by omega
    subst e
    refine codeAny_builtin entry_dict_update_loop ?_
    rw [Around.under_plainId plain_dict_update_loop _]
    show wpAny _ A.in1 (pyNext (.ref it) >>= _) _ _ s
    refine wpAny_bind (wpAny_pyNext_list_end hh hit hl (by simp; omega) fun h' eb => ?_)
    show wpAny _ A.in1 (Builtin.Dict.addKeywords d [] >>= _) _ _ _
    refine wpAny_bind (wpAny_pure ?_)
    rw [List.drop_length] at hR
    exact wpAny_pure (hR h' s.toks vs hkv (hd.extBut eb hdi) hc fun b o _ h2 h3 => eb b o h2 h3)
  | succ n ih =>
    intro i s cur vs tk R hn hi hit hl hp hkv hd hc hR
    obtain ⟨ky, hky⟩ : ∃ ky, kys[i]? = some ky := ⟨kys[i]'(by omega), by simp⟩
    obtain ⟨t, ku, vu, h1, h2, h3, h4, h5, h6⟩ := hp i ky hky
    refine codeAny_builtin entry_dict_update_loop ?_
    rw [Around.under_plainId plain_dict_update_loop _]
    show wpAny _ A.in1 (pyNext (.ref it) >>= _) _ _ s
    refine wpAny_bind (wpAny_pyNext_list_item hit hl (x := .ref t) (by simpa using h1) fun h' st' sb => ?_)
    have h2' : h'.IsTuple t #[ku, vu] := by
      obtain ⟨o, e1, e2, n1, e3⟩ := h2
      exact ⟨o, (sb.2 t h6).trans e1, e2, n1, e3⟩
    obtain ⟨o, e1, e2, n1, e3⟩ := id h2'
    have hd' : h'.DictOf (mixKind P w) d vs := by
      obtain ⟨q, es, ep, hq, r⟩ := hd
      exact ⟨q, es, ep, (sb.2 d hdi).trans hq, r⟩
    show wpAny _ A.in1 (holding [Value.ref t] _ >>= _) _ _ _
    refine wpAny_bind (wpAny_holding (wpAny_bind (wpAny_tryCatch ?_)))
    unfold Builtin.Dict.pairItems
    refine wpAny_bind (wpAny_typeOf (T := "tuple") ⟨o, e1, e2⟩ ?_)
    rw [if_pos (by decide +kernel)]
    refine wpAny_bind (wpAny_seqItems (s := { s with heap := h' }) e1 e3 (wpAny_pure ?_))
    show wpAny _ A.in1 (holding [ku, vu] (dictSet d ku vu)) _ _ _
    refine wpAny_holding (wpAny_dictSet_pairs (s := { s with heap := h' }) (hsz := by rw [← hkv.length]; omega) h3 hd' fun h'' hd'' sb' => ?_)
    have eR : rawInt ((i : Int) + 1) = .int ((i + 1 : Nat) : Int) 0 := rfl
    refine wpAny_pure ⟨plainId_quiet plain_dict_update_loop _, ?_⟩
    rw [eR]
    have hl1 := length_putK cur ky.1 ky.2
    have ed : kys.drop i = ky :: kys.drop (i + 1) := by
      obtain ⟨hlt, e⟩ := List.getElem?_eq_some_iff.mp hky
      rw [List.drop_eq_getElem_cons hlt, e]
    refine ih (i + 1) _ (putK cur ky.1 ky.2) _ _ R (by omega) (by omega) ?_ ?_ (fun j ky' hj => ?_) (hkv.put ky.1 h4) hd'' (by omega) fun h3' t' vs' k1 k2 k3 k4 => ?_
    · obtain ⟨q, q1, q2, q3⟩ := st'
      exact ⟨q, (sb'.2 it (Ne.symm hdi)).trans q1, q2, q3⟩
    · obtain ⟨q, q1, q2, q3⟩ := hl
      exact ⟨q, (sb'.2 l hld).trans ((sb.2 l hli).trans q1), q2, q3⟩
    · obtain ⟨t2, ku2, vu2, g1, ⟨q, q1, q2, q3⟩, g3, g4, g5, g6⟩ := hp j ky' hj
      exact ⟨t2, ku2, vu2, g1, ⟨q, (sb'.2 t2 g5).trans ((sb.2 t2 g6).trans q1), q2, q3⟩, g3, g4, g5, g6⟩
    · have ep : putAll (putK cur ky.1 ky.2) (kys.drop (i + 1)) = putAll cur (kys.drop i) := by rw [ed]; rfl
      rw [ep] at k1 k3
      exact hR h3' t' vs' k1 k2 k3 fun b o b1 b2 hb => k4 b o b1 b2 ((sb'.2 b b1).trans ((sb.2 b b2).trans hb))
theorem call_dict_pairs {X : Cx} {K : PySem.W.Frag} (hK : X.K = K) (hc : X.calm = true) : CallR X (.type "dict") (fun xs H Q => ∃ (a : Addr) (ts : List (Addr × Key × V)), xs = [.ref a] ∧ SqL K H a (ts.map fun t => V.ref t.1) ∧ (∀ t ∈ ts, SqT K H t.1 [kV t.2.1, t.2.2]) ∧ ∀ p, H p = none → Q (.ref p) (upd H p (.dK (putAll [] (ts.map fun t => t.2))))) := by
  intro pins s σ H xs us Q I r h
  subst hK
  obtain ⟨a, ts, rfl, ha, ht, q⟩ := h
  obtain ⟨u, rfl, ru⟩ := vals1 r
  cases ru
  obtain ⟨its, rv, pl, hz⟩ := I.list ha
  have hl : its.length = (ts.map fun t => t.2).length := by rw [List.length_map, ← rv.length, List.length_map]
  have hz' : (ts.map fun t => t.2).length ≤ sizeLine := by rw [List.length_map] at hz ⊢; exact hz
  have hal : a < s.heap.objs.size := by
    obtain ⟨o, h1, _⟩ := pl.isList
    exact Heap.lt_size h1
  have hh : X.A.handled = none := I.ok.hd hc
  refine callType_codes (Q₁ := fun obj s₁ => obj = .ref s.heap.objs.size ∧ s₁ = { s with heap := s.heap.push { cls := .type "dict", data := .dict #[] } }) PySem.F.kt_called_dict (PySem.F.kt_typeCall_dict_1 _) PySem.F.entry_dict_init (kt_code_dict_new _ ⟨rfl, rfl⟩) ?_
  rintro obj s₁ ⟨rfl, rfl⟩
  have hnew : (s.heap.push { cls := .type "dict", data := .dict #[] }).DictOf (mixKind X.prog X.w) s.heap.objs.size [] := Heap.DictOf.new s.heap
  refine ⟨hnew.typeIs, PySem.F.args_dict_init_2 _ _, ?_⟩
  unfold Builtin.«dict.__init__»
  refine wpAny_bind ?_
  unfold Builtin.Dict.selfAndRest
  refine wpAny_bind (wpAny_notOrdered_dict hnew.typeIs ?_)
  show wpAny _ _ (pure (s.heap.objs.size, [Value.ref a])) _ _ _
  refine wpAny_pure ?_
  show wpAny _ _ (Builtin.Dict.updateFrom "dict.__init__" s.heap.objs.size (.ref a) [] .none) _ _ _
  unfold Builtin.Dict.updateFrom
  obtain ⟨o, n, e1, e2, e3, e4⟩ := pl
  refine wpAny_bind (wpAny_typeOf (T := "list") ⟨o, Heap.get?_push_of_some _ e1, e2⟩ ?_)
  rw [if_pos (by decide)]
  refine wpAny_bind (no_keys_list (s := { s with heap := s.heap.push { cls := .type "dict", data := .dict #[] } }) (Heap.get?_push_of_some _ e1) e2 e4 e3 hh fun h' tk kp => ?_)
  rw [if_pos (show (none : Option Value).isNone = true from rfl)]
  refine wpAny_bind (wpAny_rule ?_)
  have hl' : h'.IsList a its.toArray := ⟨o, kp _ _ (Heap.get?_push_of_some _ e1), e2, n, e4⟩
  refine wpAny_bind (wpAny_pyIter_list hl' ?_)
  have hdl : s.heap.objs.size < h'.objs.size := Heap.lt_size (kp _ _ (Heap.get?_push_size _ rfl))
  have kq : ∀ b ob, s.heap.get? b = some ob → (h'.push { cls := .type "list_iterator", data := .fields #[.ref a, .int 0 0] }).get? b = some ob := fun b ob e => Heap.get?_push_of_some _ (kp _ _ (Heap.get?_push_of_some _ e))
  refine wpAny_pure ⟨plainId_quiet plain_dict_update_loop _, ?_⟩
  refine upd_loop (kys := ts.map fun t => t.2) (l := a) (A := X.A.in1) hh hl hz' (Nat.ne_of_lt hdl) (Nat.ne_of_lt hal) (Nat.ne_of_lt (Nat.lt_trans hal hdl)) _ 0 _ [] [] 0 _ rfl (Nat.zero_le _) ⟨_, Heap.get?_push_size _ rfl, rfl, rfl⟩ ?_ ?_ .nil ?_ (Nat.zero_le _) ?_
  · exact ⟨o, kq _ _ e1, e2, n, e4⟩
  · intro j ky hj
    rw [List.getElem?_map] at hj
    cases et : ts[j]? with
    | none => rw [et] at hj; cases hj
    | some t =>
      rw [et] at hj; cases hj
      obtain ⟨u, hu, ru⟩ := rv.get (i := j) (x := V.ref t.1) (by rw [List.getElem?_map, et]; rfl)
      cases ru
      obtain ⟨its2, rv2, tp, _⟩ := I.tuple (ht t (List.mem_of_getElem? et))
      obtain ⟨k1, k2, rfl, r1, r2⟩ := vals2 rv2
      obtain ⟨o2, g1, g2, n2, g3⟩ := tp
      have hlt := Heap.lt_size g1
      exact ⟨t.1, k1, k2, hu, ⟨o2, kq _ _ g1, g2, n2, g3⟩, kV_is r1, r2, Nat.ne_of_lt hlt, Nat.ne_of_lt (Nat.lt_trans hlt hdl)⟩
  · exact Heap.DictOf.push (by
      obtain ⟨q, es, ep, hq, r⟩ := hnew
      exact ⟨q, es, ep, kp _ _ hq, r⟩) _
  · intro h3 t3 vs' k1 k2 k3 k4
    rw [List.drop_zero] at k1 k3
    refine ⟨rfl, .ref s.heap.objs.size, _, ?_, rfl, q _ (I.hok.fresh (Nat.le_refl _))⟩
    refine I.laid (a := s.heap.objs.size) (fun b ob e => ?_) (Nat.le_refl _) (dk_new (Nat.le_trans k3 hz') (beq_eq_false_iff_ne.mpr (Ne.symm (Nat.ne_of_lt I.big))) k1 k2)
    have hlt := Heap.lt_size e
    exact k4 b ob (Nat.ne_of_lt hlt) (Nat.ne_of_lt (Nat.lt_trans hlt hdl)) (kq _ _ e)
end L2
set_option Elab.async false
set_option linter.all false
set_option maxRecDepth 100000
set_option maxHeartbeats 4000000
namespace L2
open PySem PySem.Spec PyProof.Rows
def Ites (z : Str) : It where
  go := fun i _ => i < z.cps.size
  yld := fun i H v H' => ∃ T c, v = .ref T ∧ H T = none ∧ z.cps[i]? = some c ∧ H' = upd H T (.tup [.int (i : Nat), .str ⟨#[c]⟩])
  stop := fun i _ => i = z.cps.size
theorem draws_str {P : Program} {w : World} {A : Around} (h : A.handled = none) (it : Addr) (z : Str) (t : Tok) : Draws P w A it [it] z.cps.size (fun i v => ∃ c u, z.cps[i]? = some c ∧ v = .str ⟨#[c]⟩ u) (fun i h => h.IsStrIter it (strIterType z) z t i) := by
  unfold strIterType
  split
  · exact Draws.strAscii h it z t
  · exact Draws.strWide h it z t
theorem turn_enumS {P : Program} {w : World} {K : PySem.W.Frag} {elts : List Expr} {k : Nat} {pos : Pos} (z : Str) (t : Tok) (e it : Addr) (hne : e ≠ it) : Turn P w K (.Tuple elts k pos) (Ites z) [e, it] e (fun i h => (∃ old, IsEnum h e it (i : Nat) old) ∧ h.IsStrIter it (strIterType z) z t i) where
  mem := by simp
  obj := fun i h st b hb => by
    obtain ⟨⟨old, s1⟩, o, e1, c, d⟩ := st
    rcases List.mem_cons.mp hb with z | z
    · subst z
      exact ⟨_, s1, fun v z => by cases z⟩
    · have z : b = it := by simpa using z
      subst z
      exact ⟨o, e1, fun v z => by rw [d] at z; cases z⟩
  keep := fun i h h' st k => by
    obtain ⟨⟨old, s1⟩, o, e1, c, d⟩ := st
    exact ⟨⟨old, k e (by simp) _ s1⟩, o, k it (by simp) o e1, c, d⟩
  item := by
    intro X hP hw hK hc i pins s σ H E I hf st hg
    subst hP hw hK
    obtain ⟨⟨old, s1⟩, s2⟩ := st
    have le : e < s.heap.objs.size := Heap.lt_size s1
    refine wpAny_pyNext_enum_itemD (draws_str (A := X.A.in1) (I.ok.hd hc) it z t) s1 s2 hg hne (by simpa using hne) fun u h' tk hP ho hi' ht hsz kp => ?_
    obtain ⟨c, uu, hcc, rfl⟩ := hP
    refine ⟨_, rfl, wpAny_letOwnedTupleGo_enum ho fun h2 he2 sb => ?_⟩
    have I1 : Inv X pins σ H { s with heap := h2, toks := tk + 1 } := I.turnedL (t' := tk + 1) (ch := [e, it]) hf fun b o hb q => by
      have hbe : b ≠ e := fun z => hb (by simp [z])
      have hbi : b ≠ it := fun z => hb (by simp [z])
      exact (sb.2 b hbe).trans (kp b o hbe hbi q)
    have hT : h2.get? s.heap.objs.size = some { cls := .type "tuple", data := .seq #[Value.int (i : Nat) tk, Value.str ⟨#[c]⟩ uu] } := (sb.2 _ (Nat.ne_of_gt le)).trans ht
    have hfr : H s.heap.objs.size = none := I.hok.fresh (Nat.le_refl _)
    have vs2 : Vals [V.int (i : Nat), V.str ⟨#[c]⟩] [Value.int (i : Nat) tk, Value.str ⟨#[c]⟩ uu] := .cons ⟨tk, rfl⟩ (.cons ⟨uu, rfl⟩ .nil)
    have I2 := I1.adopt (o := .tup [.int (i : Nat), .str ⟨#[c]⟩]) (I.fpOk (Nat.le_refl _) hfr) ⟨(by show 2 ≤ sizeLine; decide), [Value.int (i : Nat) tk, Value.str ⟨#[c]⟩ uu], vs2, ⟨_, hT, rfl, _, rfl⟩⟩
    have en : IsEnum h2 e it ((i + 1 : Nat) : Int) (Value.str ⟨#[c]⟩ uu) := by
      have e1 : ((i + 1 : Nat) : Int) = ((i : Nat) : Int) + 1 := by omega
      rw [e1]; exact he2
    refine ⟨.ref s.heap.objs.size, _, I2, rfl, ⟨_, c, rfl, hfr, hcc, rfl⟩, ⟨⟨_, en⟩, ?_⟩, fun b hb => ?_⟩
    · obtain ⟨o, q, r1, r2⟩ := hi'
      exact ⟨o, (sb.2 it (Ne.symm hne)).trans q, r1, r2⟩
    rw [upd_ne (fun z => ?_)]
    · exact (hf b hb).1
    · subst z
      rcases List.mem_cons.mp hb with z | z
      · exact absurd z (Nat.ne_of_gt le)
      · have z : s.heap.objs.size = it := by simpa using z
        obtain ⟨o, q, _⟩ := s2
        exact absurd z (Nat.ne_of_gt (Heap.lt_size q))
  done := by
    intro X hP hw hK hc i pins s σ H E I hf st hg
    subst hP hw hK
    obtain ⟨⟨old, s1⟩, s2⟩ := st
    have hg' : i = z.cps.size := hg
    subst hg'
    refine wpAny_pyNext_enum_endD (draws_str (A := X.A.in1) (I.ok.hd hc) it z t) s1 s2 fun h' eb => ⟨rfl, ?_⟩
    exact I.turnedL (t' := s.toks) (ch := [it]) (fun b hb => hf b (List.mem_cons_of_mem _ hb)) fun b o hb q => eb b o (fun z => hb (by simp [z])) q
  self := fun _ _ _ _ _ st h => wpAny_pyIter_enum st.1.choose_spec h
def iEnumS (ta : TA) : TI := fun σ H R => ta σ H fun vs H1 => ∃ z, vs = [.str z] ∧ R (Ites z) H1
theorem pi_enumS {X : Cx} {elts : List Expr} {k : Nat} {tpos : Pos} {l : Expr} {ta : TA} {p pos : Pos} (hg : Gl X "enumerate") (hm : X.mg "enumerate" = none) (ha : PA X [l] ta) (hs : starEach [l] X.env = [(false, eval l X.env)] := by rfl) :
    PI X (.Tuple elts k tpos) (.Call (.Name "enumerate" p) [l] [] pos) (iEnumS ta) := by
  intro pins s σ H R I h
  refine Call_ (ld_blt I hg hm PyProof.Rows.boot_enumerate (PyProof.Rows.callWith_type1 (thn (ha pos pins s σ H _ I h) fun us s1 hm0 => ?_) hs rfl))
  obtain ⟨vs, H1, I1, r1, q1⟩ := hm0
  obtain ⟨z, rfl, q⟩ := q1
  obtain ⟨u, rfl, ru⟩ := vals1 r1
  obtain ⟨t, rfl⟩ := ru
  refine call_enumerate_str fun h' he hi hsz kp => ?_
  refine wpAny_pyIter_enum he ?_
  refine ⟨s1.heap.objs.size + 1, [s1.heap.objs.size + 1, s1.heap.objs.size], _, _, H1, rfl, I1.kept (t' := s1.toks) kp, turn_enumS z t _ _ (Nat.succ_ne_self _), ⟨⟨_, he⟩, hi⟩, fun b hb => ?_, q⟩
  have hb' : s1.heap.objs.size ≤ b := by
    rcases List.mem_cons.mp hb with z | z
    · rw [z]; exact Nat.le_succ _
    · have z : b = s1.heap.objs.size := by simpa using z
      rw [z]; exact Nat.le_refl _
  exact I1.fpOk hb' (I1.hok.fresh hb')
theorem comp_enumSD {z : Str} {tt : TTg} {tc : TT} {te : TE} {cap : List Nat} {σ : St} {H : Hp} {D : Addr → List V → Hp → Prop} (Pv : Nat → List V → Hp → Prop) (h0 : Pv 0 [] H) (hz : z.cps.size ≤ sizeLine) (hl : ∀ i ys H, i ≤ z.cps.size → Pv i ys H → ys.length ≤ i)
    (hs : ∀ i c T ys H, z.cps[i]? = some c → Pv i ys H → H T = none → tt (.ref T) (upd H T (.tup [.int (i : Nat), .str ⟨#[c]⟩])) fun ws => tc (ws.map some ++ capS σ cap) (upd H T (.tup [.int (i : Nat), .str ⟨#[c]⟩])) fun b H4 => if b = true then te (ws.map some ++ capS σ cap) H4 fun y H5 => Pv (i + 1) (ys ++ [y]) H5 else Pv (i + 1) ys H4)
    (hd : ∀ ys H, Pv z.cps.size ys H → ∀ p, H p = none → D p ys H) :
    ∃ W : Nat → Nat → List V → Hp → Prop, (∃ m, W 0 m [] H) ∧ ∀ i m ys H2, W i m ys H2 →
    ((Ites z).stop i H2 ∧ ys.length ≤ sizeLine ∧ ∀ p, H2 p = none → D p ys H2) ∨
    ((Ites z).go i H2 ∧ ∃ N : List V → Hp → Prop, (∀ ys' H', N ys' H' → ys'.length ≤ sizeLine ∧ ∃ m', m' < m ∧ W (i + 1) m' ys' H') ∧
      ∀ x H3, (Ites z).yld i H2 x H3 → tt x H3 fun ws => tc (ws.map some ++ capS σ cap) H3 fun b H4 => if b = true then te (ws.map some ++ capS σ cap) H4 fun y H5 => N (ys ++ [y]) H5 else N ys H4) := by
  refine ⟨fun i m ys H => m = z.cps.size - i ∧ i ≤ z.cps.size ∧ Pv i ys H, ⟨z.cps.size, by simp, Nat.zero_le _, h0⟩, ?_⟩
  rintro i m ys H2 ⟨rfl, hi, p⟩
  have q := hl i ys H2 hi p
  by_cases hlt : i < z.cps.size
  · refine .inr ⟨hlt, Pv (i + 1), fun ys' H' p' => ⟨Nat.le_trans (hl (i + 1) ys' H' hlt p') (Nat.le_trans hlt hz), z.cps.size - (i + 1), by omega, rfl, hlt, p'⟩, fun x H' y => ?_⟩
    obtain ⟨T, c, rfl, hT, hc, rfl⟩ := y
    exact hs i c T ys _ hc p hT
  · have e : i = z.cps.size := by omega
    subst e
    exact .inl ⟨rfl, Nat.le_trans q hz, fun p' hp' => hd ys H2 p p' hp'⟩
theorem comp_enumD {K : PySem.W.Frag} {a : Addr} {xs : List V} {tt : TTg} {tc : TT} {te : TE} {cap : List Nat} {σ : St} {H : Hp} {D : Addr → List V → Hp → Prop} (Pv : Nat → List V → Hp → Prop) (h0 : Pv 0 [] H) (hz : xs.length ≤ sizeLine) (hl : ∀ i ys H, i ≤ xs.length → Pv i ys H → SqL K H a xs ∧ ys.length ≤ i)
    (hs : ∀ i x T ys H, xs[i]? = some x → Pv i ys H → H T = none → tt (.ref T) (upd H T (.tup [.int (i : Nat), x])) fun ws => tc (ws.map some ++ capS σ cap) (upd H T (.tup [.int (i : Nat), x])) fun b H4 => if b = true then te (ws.map some ++ capS σ cap) H4 fun y H5 => Pv (i + 1) (ys ++ [y]) H5 else Pv (i + 1) ys H4)
    (hd : ∀ ys H, Pv xs.length ys H → ∀ p, H p = none → D p ys H) :
    ∃ W : Nat → Nat → List V → Hp → Prop, (∃ m, W 0 m [] H) ∧ ∀ i m ys H2, W i m ys H2 →
    ((Ite K a).stop i H2 ∧ ys.length ≤ sizeLine ∧ ∀ p, H2 p = none → D p ys H2) ∨
    ((Ite K a).go i H2 ∧ ∃ N : List V → Hp → Prop, (∀ ys' H', N ys' H' → ys'.length ≤ sizeLine ∧ ∃ m', m' < m ∧ W (i + 1) m' ys' H') ∧
      ∀ x H3, (Ite K a).yld i H2 x H3 → tt x H3 fun ws => tc (ws.map some ++ capS σ cap) H3 fun b H4 => if b = true then te (ws.map some ++ capS σ cap) H4 fun y H5 => N (ys ++ [y]) H5 else N ys H4) := by
  refine ⟨fun i m ys H => m = xs.length - i ∧ i ≤ xs.length ∧ Pv i ys H, ⟨xs.length, by simp, Nat.zero_le _, h0⟩, ?_⟩
  rintro i m ys H2 ⟨rfl, hi, p⟩
  obtain ⟨q, hy⟩ := hl i ys H2 hi p
  by_cases hlt : i < xs.length
  · refine .inr ⟨⟨xs, xs[i], q, by simp [hlt]⟩, Pv (i + 1), fun ys' H' r => ?_, fun x H3 y => ?_⟩
    · obtain ⟨_, h2⟩ := hl (i + 1) ys' H' hlt r
      exact ⟨by omega, xs.length - (i + 1), by omega, rfl, hlt, r⟩
    · obtain ⟨T, z, rfl, hT, y, rfl⟩ := y
      exact hs i z T ys _ (y xs q) p hT
  · have e : i = xs.length := by omega
    subst e
    exact .inl ⟨⟨xs, q, Nat.le_refl _⟩, by omega, hd ys H2 p⟩
end L2
set_option Elab.async false
set_option linter.all false
set_option maxRecDepth 100000
set_option maxHeartbeats 4000000
namespace L2
open PySem PySem.Spec PyProof.Rows
section
variable {X : Cx}
theorem call_int_text : CallR X (.type "int") (fun xs H Q => ∃ (x : Str) (n : Int), xs = [.str x] ∧ intText? x = some n ∧ x.length ≤ 640 ∧ Q (.int n) H) := by
  intro pins s σ H xs us Q I r h
  obtain ⟨x, n, rfl, hn, hl, q⟩ := h
  obtain ⟨u, rfl, t, rfl⟩ := vals1 r
  exact PySem.W.KIN.call_text hn hl ⟨.int n, H, I.tok _, ⟨_, rfl⟩, q⟩
theorem mt_startswith : MtM X "str.startswith" (fun x vs H Q => ∃ z y, x = .str z ∧ vs = [.str y] ∧ Q (.bl (0 + y.length ≤ z.length && Builtin.Str.subAt z y 0)) H) := by
  intro pins s σ H x vs v us Q I rx rv h
  obtain ⟨z, y, rfl, rfl, q⟩ := h
  obtain ⟨t, rfl⟩ := rx
  obtain ⟨u, rfl, t', rfl⟩ := rv.one
  exact call_meets F.slot_str_startswith (typeIs_str s z t) F.entry_str_startswith (F.args_str_startswith_2 _ _) (gives_str_startswith z y t t').meets ⟨.bl _, H, I, rfl, q⟩
def picked (x : Str) (lo hi : Option Int) : List Nat := Builtin.Str.strSliceIndices lo hi 1 x.length
def cutS (x : Str) (lo hi : Option Int) : Str := if (picked x lo hi).length = x.length then x else ⟨((picked x lo hi).filterMap (x.cps[·]?)).toArray⟩
theorem part_of {v : Value} {lo : Option Int} (h : IsPart v lo) : ∃ p : Option (Int × Tok), v = partValue p ∧ p.map (·.1) = lo := by
  cases h with
  | none => exact ⟨none, rfl, rfl⟩
  | int i t => exact ⟨some (i, t), rfl, rfl⟩
theorem sl_str : SlR X (fun x lo hi H Q => ∃ z, x = .str z ∧ (cutS z lo hi).length ≤ sizeLine ∧ Q (.str (cutS z lo hi)) H) := by
  intro pins s σ H x v vl vu lo hi sl Q I rx hs pl pu h
  obtain ⟨z, rfl, hz, q⟩ := h
  obtain ⟨t, rfl⟩ := rx
  obtain ⟨p1, rfl, rfl⟩ := part_of pl
  obtain ⟨p2, rfl, rfl⟩ := part_of pu
  refine ⟨"str", _, slot_str_getitem.lookup, typeIs_str s z t, ?_⟩
  refine getItem_meets (typeIs_str s z t) (by decide) F.slot_str_getitem F.entry_str_getitem (F.args_str_getitem_2 _ _) (meets_str_getitem_slice z t sl p1 p2 none rfl) ⟨hs, ?_⟩
  have e : slicePicked z p1 p2 none = picked z (p1.map (·.1)) (p2.map (·.1)) := rfl
  unfold sliceMade
  rw [e]
  unfold cutS at q hz
  by_cases c : (picked z (p1.map (·.1)) (p2.map (·.1))).length = z.length
  · rw [if_pos c] at q
    rw [if_pos (by rw [c]; simp)]
    exact ⟨.str z, H, I, ⟨_, rfl⟩, q⟩
  · rw [if_neg c] at q hz
    rw [if_neg (by simp [c])]
    exact ⟨hz, .str _, H, I.tok _, ⟨_, rfl⟩, q⟩
end
end L2
set_option linter.all false
namespace Law
open PySem L2
end Law
set_option Elab.async false
set_option linter.all false
set_option maxRecDepth 100000
set_option maxHeartbeats 4000000
namespace L2
open PySem PySem.Spec PyProof.Rows
theorem one_at {x : Str} {c i : Nat} : StrLaws.At x ⟨#[c]⟩ x.length i ↔ x.cps.toList[i]? = some c := by
  have hl : x.cps.toList.length = x.length := Array.length_toList
  unfold StrLaws.At Builtin.Str.subAt
  show i + 1 ≤ x.length ∧ (x.cps.extract i (i + 1) == #[c]) = true ↔ _
  have e : (x.cps.extract i (i + 1)).toList = (x.cps.toList.drop i).take 1 := by rw [Array.toList_extract, List.extract_eq_drop_take]; simp
  constructor
  · rintro ⟨h1, h2⟩
    have h3 : x.cps.extract i (i + 1) = #[c] := eq_of_beq h2
    rw [h3] at e
    have h4 : x.cps.toList[i]? = some (x.cps.toList[i]'(by omega)) := by simp
    rw [List.drop_eq_getElem_cons (show i < x.cps.toList.length by omega)] at e
    have h5 : c = x.cps.toList[i]'(by omega) := by simpa using e
    rw [h4, h5]
  · intro h
    obtain ⟨h1, h2⟩ := List.getElem?_eq_some_iff.mp h
    refine ⟨by omega, ?_⟩
    have h3 : x.cps.extract i (i + 1) = #[c] := by
      apply Array.toList_inj.mp
      rw [e, List.drop_eq_getElem_cons h1, h2]; simp
    rw [h3]; simp
theorem part_one {a b : List Nat} {c : Nat} (hc : c ∉ a) : Txt.partition ⟨(a ++ c :: b).toArray⟩ ⟨#[c]⟩ = (⟨a.toArray⟩, ⟨#[c]⟩, ⟨b.toArray⟩) := by
  have hl : (⟨(a ++ c :: b).toArray⟩ : Str).length = a.length + 1 + b.length := by show (a ++ c :: b).toArray.size = _; simp; omega
  have here : (a ++ c :: b)[a.length]? = some c := by simp
  unfold Txt.partition
  rcases StrLaws.occ_head (⟨(a ++ c :: b).toArray⟩ : Str) ⟨#[c]⟩ 1 (Nat.le_refl 1) with ⟨h0, hn⟩ | ⟨i, r, h0, hi, hn⟩
  · exact absurd (one_at.mpr (by simpa using here)) (hn a.length)
  · rw [h0]
    have hi' : (a ++ c :: b)[i]? = some c := by simpa using one_at.mp hi
    have e : i = a.length := by
      rcases Nat.lt_trichotomy i a.length with h | h | h
      · rw [List.getElem?_append_left h] at hi'
        exact absurd (List.mem_of_getElem? hi') hc
      · exact h
      · exact absurd (one_at.mpr (by simpa using here)) (hn _ h)
    subst e
    show (Builtin.Str.strSub _ 0 a.length, (⟨#[c]⟩ : Str), Builtin.Str.strSub _ (a.length + 1) _) = _
    unfold Builtin.Str.strSub
    rw [hl]
    refine Prod.ext ?_ (Prod.ext rfl ?_)
    · show (⟨_⟩ : Str) = ⟨_⟩
      congr 1
      apply Array.toList_inj.mp
      rw [Array.toList_extract]; simp
    · show (⟨_⟩ : Str) = ⟨_⟩
      congr 1
      apply Array.toList_inj.mp
      rw [Array.toList_extract]; simp
end L2
set_option Elab.async false
set_option linter.all false
set_option maxRecDepth 100000
set_option maxHeartbeats 4000000
namespace L2
open PySem PySem.Spec PyProof.Rows
theorem str_list {x : Str} {l : List Nat} (h : x.cps.toList = l) : x = ⟨l.toArray⟩ := by
  obtain ⟨a⟩ := x
  subst h
  rfl
theorem str_len (x : Str) : x.length = x.cps.toList.length := by rw [Array.length_toList]; rfl
theorem app_list (x y : Str) : (x ++ y).cps.toList = x.cps.toList ++ y.cps.toList := by
  show (x.cps ++ y.cps).toList = _
  simp
theorem sub_list (x : Str) (i j : Nat) : (Builtin.Str.strSub x i j).cps.toList = (x.cps.toList.drop i).take (j - i) := by
  unfold Builtin.Str.strSub
  show (x.cps.extract i j).toList = _
  rw [Array.toList_extract, List.extract_eq_drop_take]
theorem at_iff {x y : Str} {i : Nat} : StrLaws.At x y x.length i ↔ i + y.cps.toList.length ≤ x.cps.toList.length ∧ (x.cps.toList.drop i).take y.cps.toList.length = y.cps.toList := by
  have hl := str_len x
  have hy := str_len y
  unfold StrLaws.At Builtin.Str.subAt
  rw [hl, hy]
  refine and_congr_right fun h => ?_
  have e : (x.cps.extract i (i + y.cps.toList.length)).toList = (x.cps.toList.drop i).take y.cps.toList.length := by
    rw [Array.toList_extract, List.extract_eq_drop_take]; simp
  rw [← e]
  constructor
  · intro h; rw [eq_of_beq h]
  · intro h
    have := Array.toList_inj.mp h
    rw [this]; simp
theorem at_first {x y : Str} {c : Nat} {r : List Nat} {i : Nat} (hy : y.cps.toList = c :: r) (h : StrLaws.At x y x.length i) : x.cps.toList[i]? = some c := by
  obtain ⟨h1, h2⟩ := at_iff.mp h
  rw [hy] at h1 h2
  have hi : i < x.cps.toList.length := by simp at h1; simp; omega
  rw [List.drop_eq_getElem_cons hi] at h2
  rw [List.getElem?_eq_getElem hi]
  have := congrArg List.head? h2
  simpa using this
def flatL (s : List Nat) : List (List Nat) → List Nat
  | [] => []
  | [p] => p
  | p :: q :: r => p ++ s ++ flatL s (q :: r)
theorem flat_join (y : Str) : ∀ ps : List Str, (Txt.join y ps).cps.toList = flatL y.cps.toList (ps.map fun p => p.cps.toList) := by
  intro ps
  show (Builtin.Str.glued y ps).cps.toList = _
  rw [StrLaws.glued_eq_join]
  induction ps with
  | nil => rfl
  | cons p r ih =>
    cases r with
    | nil => rfl
    | cons q r =>
      rw [Str.join.eq_3 _ _ _ (fun z => by cases z), app_list, app_list, ih]; rfl
theorem parts_flat {x y : Str} {c : Nat} {s : List Nat} (hy : y.cps.toList = c :: s) : ∀ (ps : List (List Nat)) (a f : Nat) (cuts : List Nat), ps ≠ [] → (∀ p ∈ ps, c ∉ p) → a ≤ x.cps.toList.length → x.cps.toList.drop a = flatL (c :: s) ps → StrLaws.ChainG x y x.length a cuts f → (∀ k, f ≤ k → ¬ StrLaws.At x y x.length k) → StrLaws.partsFrom x y.length a cuts = ps.map fun p => ⟨p.toArray⟩
  | [], _, _, _, h, _, _, _, _, _ => absurd rfl h
  | [p], a, f, cuts, _, hp, ha, he, hc, hf => by
    have he' : x.cps.toList.drop a = p := he
    cases cuts with
    | nil =>
      rw [StrLaws.partsFrom.eq_1]
      refine congrArg (fun z => [z]) (str_list ?_)
      rw [sub_list, he', List.take_of_length_le]
      rw [str_len, ← he', List.length_drop]; omega
    | cons i r =>
      rw [StrLaws.ChainG.eq_2] at hc
      have h1 := at_first hy hc.2.1
      refine absurd ?_ (hp p List.mem_cons_self)
      rw [← he', List.mem_iff_getElem?]
      exact ⟨i - a, by rw [List.getElem?_drop, ← h1]; congr 1; omega⟩
  | p :: q :: r, a, f, cuts, _, hp, ha, he, hc, hf => by
    have he' : x.cps.toList.drop a = p ++ (c :: s) ++ flatL (c :: s) (q :: r) := he
    have hl : x.cps.toList.length - a = p.length + (s.length + 1) + (flatL (c :: s) (q :: r)).length := by
      rw [← List.length_drop, he']; simp; omega
    have here : StrLaws.At x y x.length (a + p.length) := by
      rw [at_iff, hy]
      refine ⟨by rw [List.length_cons]; omega, ?_⟩
      rw [← List.drop_drop, he', List.append_assoc, List.drop_left, List.take_left]
    cases cuts with
    | nil =>
      rw [StrLaws.ChainG.eq_1] at hc
      exact absurd here (hf _ (by omega))
    | cons i t =>
      rw [StrLaws.ChainG.eq_2] at hc
      obtain ⟨c1, c2, c3, c4⟩ := hc
      have h1 := at_first hy c2
      have ei : i = a + p.length := by
        rcases Nat.lt_trichotomy i (a + p.length) with h | h | h
        · refine absurd ?_ (hp p List.mem_cons_self)
          have e1 : (x.cps.toList.drop a)[i - a]? = some c := by rw [List.getElem?_drop, ← h1]; congr 1; omega
          rw [he', List.append_assoc, List.getElem?_append_left (by omega)] at e1
          exact List.mem_of_getElem? e1
        · exact h
        · exact absurd here (c3 _ (by omega) h)
      subst ei
      rw [StrLaws.partsFrom.eq_2, List.map_cons]
      have hyl : y.length = s.length + 1 := by rw [str_len, hy]; rfl
      refine congr (congrArg List.cons (str_list ?_)) ?_
      · rw [sub_list, he', List.append_assoc, Nat.add_sub_cancel_left, List.take_left]
      · refine parts_flat hy (q :: r) _ f t (fun z => by cases z) (fun p' h' => hp p' (List.mem_cons_of_mem _ h')) (by omega) ?_ c4 hf
        rw [hyl, Nat.add_assoc, ← List.drop_drop, he', List.append_assoc, ← List.drop_drop, List.drop_left]
        exact List.drop_left (l₁ := c :: s)
theorem split_join {y : Str} {c : Nat} {s : List Nat} (hy : y.cps.toList = c :: s) (hk : Builtin.Str.strKind y = 1) {ps : List Str} (hne : ps ≠ []) (hp : ∀ p ∈ ps, c ∉ p.cps.toList) : Txt.split (Txt.join y ps) y = ps := by
  obtain ⟨f, h1, h2⟩ := StrLaws.occ_tight (Txt.join y ps) y (by rw [str_len, hy]; simp)
  have key := parts_flat (x := Txt.join y ps) hy (ps.map fun p => p.cps.toList) 0 f _ (fun z => hne (List.map_eq_nil_iff.mp z)) (fun p h => by obtain ⟨q, hq, rfl⟩ := List.mem_map.mp h; exact hp q hq) (Nat.zero_le _) (by rw [List.drop_zero, flat_join, hy]) h1 h2
  have eq : (ps.map fun p => p.cps.toList).map (fun p => (⟨p.toArray⟩ : Str)) = ps := by
    rw [List.map_map]
    exact List.map_id'' (fun x => rfl) _
  rw [eq] at key
  have one : ∀ p, ps = [p] → Txt.join y ps = p := fun p e => by rw [e]; rfl
  unfold Txt.split
  by_cases c1 : (decide ((Txt.join y ps).length < y.length) || decide (Builtin.Str.strKind (Txt.join y ps) < Builtin.Str.strKind y)) = true
  · rw [if_pos c1]
    match hps : ps, hne with
    | [p], _ => rfl
    | p :: q :: r, _ =>
      exfalso
      rw [Bool.or_eq_true] at c1
      rcases c1 with c1 | c1
      · have c1 := of_decide_eq_true c1
        rw [str_len, str_len, flat_join] at c1
        have : flatL y.cps.toList ((p :: q :: r).map fun p => p.cps.toList) = p.cps.toList ++ y.cps.toList ++ flatL y.cps.toList ((q :: r).map fun p => p.cps.toList) := rfl
        rw [hps, this] at c1
        simp at c1
        omega
      · have c1 := of_decide_eq_true c1
        rw [hk] at c1
        unfold Builtin.Str.strKind at c1
        split at c1
        · omega
        · split at c1 <;> omega
  · rw [if_neg c1]
    by_cases c2 : (Builtin.Str.occurrences (Txt.join y ps) y 0 (Txt.join y ps).length ((Txt.join y ps).length + 1)).isEmpty = true
    · rw [if_pos c2]
      have e := List.isEmpty_iff.mp c2
      rw [e, StrLaws.partsFrom.eq_1] at key
      refine Eq.trans ?_ key
      refine congrArg (fun z => [z]) ?_
      symm
      refine (str_list (sub_list _ _ _)).trans ?_
      rw [str_len, List.drop_zero, Nat.sub_zero, List.take_length]
    · rw [if_neg c2, StrLaws.partsBetween_eq]; exact key
end L2
set_option Elab.async false
set_option linter.all false
set_option maxRecDepth 100000
set_option maxHeartbeats 4000000
namespace L2
open PySem PySem.Spec PyProof.Rows
end L2
set_option Elab.async false
set_option linter.all false
set_option maxRecDepth 100000
set_option maxHeartbeats 4000000
namespace L2
open PySem PySem.Spec PyProof.Rows
def dl (n : Nat) : List Nat := (Nat.toDigits 10 n).map Char.toNat
theorem dl_val (n : Nat) : NumText.digitsVal (dl n) = n := PySem.W.KIN.val_back n
theorem dl_len (n : Nat) : 1 ≤ (dl n).length := by unfold dl; rw [List.length_map]; exact Nat.length_toDigits_pos
theorem dl_le {n k : Nat} (hk : 0 < k) (h : n < 10 ^ k) : (dl n).length ≤ k := by unfold dl; rw [List.length_map]; exact (Nat.length_toDigits_le_iff (by decide) hk).mpr h
theorem dl_all (n : Nat) : NumText.AllDigits (dl n) := fun c hc => by
  obtain ⟨d, hd, rfl⟩ := List.mem_map.mp hc
  have := Nat.isDigit_of_mem_toDigits (b := 10) (by decide) (by decide) hd
  unfold Char.isDigit at this
  rw [Bool.and_eq_true] at this
  have h1 := of_decide_eq_true this.1
  have h2 := of_decide_eq_true this.2
  have e1 : (48 : UInt32) ≤ d.val := h1
  have e2 : d.val ≤ (57 : UInt32) := h2
  rw [UInt32.le_iff_toNat_le] at e1 e2
  exact ⟨e1, e2⟩
theorem dl_zero : dl 0 = [48] := by decide +kernel
theorem dl_head {n : Nat} {r : List Nat} (h : dl n = 48 :: r) : n = 0 := by
  have hv := dl_val n
  have ha := dl_all n
  have h1 := NumText.toDigits_all (dl n) ha
  rw [hv] at h1
  have hl : (Nat.toDigits 10 n).length = (dl n).length := by unfold dl; rw [List.length_map]
  rw [h1, h] at hl
  have hd : List.dropWhile (fun x => x == 48) (48 :: r) = List.dropWhile (fun x => x == 48) r := by rw [List.dropWhile_cons]; rfl
  rw [hd] at hl
  have hle : (List.dropWhile (fun x : Nat => x == 48) r).length ≤ r.length := List.Sublist.length_le (List.dropWhile_sublist _)
  cases e : List.dropWhile (fun x : Nat => x == 48) r with
  | nil =>
    rw [e] at hl
    have hr : r = [] := by
      have : 1 = r.length + 1 := by simpa using hl
      exact List.length_eq_zero_iff.mp (by omega)
    rw [hr] at h
    have : NumText.digitsVal (dl n) = 0 := by rw [h]; rfl
    omega
  | cons c t =>
    rw [e] at hl hle
    simp at hl hle
    omega
theorem neg_text {i : Int} (h : i < 0) : (Str.ofString (toString i)).cps.toList = 45 :: dl i.natAbs := by
  obtain ⟨m, rfl⟩ : ∃ m : Nat, i = Int.negSucc m := by
    cases i with
    | ofNat n => exact absurd h (by simp)
    | negSucc m => exact ⟨m, rfl⟩
  have e : toString (Int.negSucc m) = "-" ++ toString (m + 1) := rfl
  rw [e, Str.ofString_eq_toList]
  show ((("-" ++ toString (m + 1)).toList.map Char.toNat).toArray).toList = _
  rw [List.toList_toArray, String.toList_append, List.map_append]
  have e2 : (toString (m + 1)).toList = Nat.toDigits 10 (m + 1) := Nat.toList_repr
  rw [e2]; rfl
theorem pos_text {i : Int} (h : 0 ≤ i) : (Str.ofString (toString i)).cps.toList = dl i.natAbs := by
  obtain ⟨m, rfl⟩ : ∃ m : Nat, i = Int.ofNat m := ⟨i.toNat, by simp; omega⟩
  rw [text_ofNat]; rfl
theorem int_back (i : Int) (h : i.natAbs < 10 ^ 60) : intText? (Str.ofString (toString i)) = some i ∧ (Str.ofString (toString i)).length ≤ 61 := by
  have hl : (dl i.natAbs).length ≤ 60 := dl_le (by decide) h
  have hne : dl i.natAbs ≠ [] := fun z => by have := dl_len i.natAbs; rw [z] at this; simp at this
  by_cases hi : i < 0
  · have ht := neg_text hi
    have hL : (Str.ofString (toString i)).length ≤ 61 := by rw [str_len, ht, List.length_cons]; omega
    refine ⟨?_, hL⟩
    rw [intText_neg ht (dl_all _) hne (by omega), dl_val]
    congr 1; omega
  · have ht := pos_text (i := i) (by omega)
    have hL : (Str.ofString (toString i)).length ≤ 61 := by rw [str_len, ht]; omega
    refine ⟨?_, hL⟩
    rw [intText_digits (by rw [ht]; exact dl_all _) (by rw [ht]; exact hne) (by omega), ht, dl_val]
    congr 1; omega
end L2
set_option Elab.async false
set_option linter.all false
set_option maxRecDepth 100000
set_option maxHeartbeats 4000000
namespace L2
open PySem PySem.Spec PyProof.Rows
section
variable {P : Program} {w : World} {A : Around} {E : Value → Shared → Prop} {s : Shared}
end
end L2
set_option Elab.async false
set_option linter.all false
set_option maxRecDepth 100000
set_option maxHeartbeats 4000000
namespace L2
open PySem PySem.Spec PyProof.Rows
section
variable {X : Cx} {K : PySem.W.Frag}
theorem mtJoin (hK : X.K = K) : MtM X "str.join" (rJoin K) := by subst hK; exact mt_join
theorem pe_bmJ {o e : Expr} {es : List Expr} {to : TE} {t : TA} {name : Str} {apos cpos : Pos} {T id : String} {r : V → List V → Hp → VK → Prop} (hK : X.K = K) (pa : PlainAttrs T) (slot : Slot T name id) (hty : typeOf (.builtin id) = pure (.type "method_descriptor")) (hm : MtM X id r) (ho : PE X o to) (ha : PA X (e :: es) t)
    (hbase : attributeBase o name X.env (eval o X.env) = eval o X.env := by rfl)
    (hfew : ((backTo cpos (starEach (e :: es) X.env)).all (fun x => !x.1) && (backToKw cpos (keywordEach [] X.env)).all (fun x => x.1.isSome)
      && decide ((e :: es).length + ([] : List Keyword).length + (if ([] : List Keyword).isEmpty then 0 else 1) < 30)) = true := by rfl)
    (hline : (apos.endLine == cpos.line) = true := by rfl) (hs : starEach (e :: es) X.env = (false, eval e X.env) :: starEach es X.env := by rfl) (hplain : (backTo cpos (starEach es X.env)).any (·.1) = false := by rfl) :
    PE X (.Call (.Attribute o name apos) (e :: es) [] cpos) (tBM K T r to t) := by subst hK; exact pe_bm pa slot hty hm ho ha hbase hfew hline hs hplain
end
end L2
set_option Elab.async false
set_option linter.all false
set_option maxRecDepth 100000
set_option maxHeartbeats 4000000
namespace L2
open PySem PySem.Spec PyProof.Rows
end L2
set_option Elab.async false
set_option linter.all false
set_option maxRecDepth 100000
set_option maxHeartbeats 1000000
namespace L2
open PySem PySem.Spec PyProof.Rows
section
variable {M : Model} {A : Around} {E : Value → Shared → Prop} {s : Shared} {B : Heap} {env : Env} {outer : List Env} {l : List Env} {L e : Addr} {cls a0 fl : Value}
theorem flight_any {o : Option Addr} {Q : Unit → Shared → Prop} (hkb : B.StaysIn s.heap) (hl : s.heap.FunFrames B l) (ht : s.heap.TracedAtW B e cls a0 fl)
    (h : ∀ h', B.StaysIn h' → h'.FunFrames B l → h'.TracedAtW B e cls a0 (o.elim Value.none fun f => rawInt f) → s.heap.UpToSlots h' → Q () { s with heap := h' }) : wpAny M A (setFlight (.ref e) o) Q E s := by
  obtain ⟨oe, vs, T, oT, ts, he, hc, hd, h1, hnT, hTe, hT, hdT, h3⟩ := ht
  have sz : 3 < ts.size := (Array.getElem?_eq_some_iff.mp h3).1
  have away : ∀ b, b ≠ T → ∀ g, (s.heap.update T g).get? b = s.heap.get? b := fun b hb g => Heap.get?_update_other _ _ (Ne.symm hb)
  have rcd : ∀ b o, s.heap.get? b = some o → (∀ vs, o.data ≠ .fields vs) → b ≠ T := fun b o hb hn q => by
    subst q; rw [hT] at hb; cases hb; exact hn ts hdT
  unfold setFlight
  refine wpAny_bind (wpAny_field he hd h1 ?_)
  rw [if_pos (by simp)]
  refine wpAny_setField hT hdT sz (h _ (fun b o hb => ?_) (hl.of_keeps fun b o hb hn => ⟨o, (away b (rcd b o hb hn) _).trans hb, rfl⟩) ?_ fun b o hb hn => ⟨o.slots, (away b (rcd b o hb hn) _).trans hb⟩)
  · exact (away b (fun q => by rw [q, hnT] at hb; cases hb) _).trans (hkb b o hb)
  · exact ⟨oe, vs, T, _, _, (away e (Ne.symm hTe) _).trans he, hc, hd, h1, hnT, hTe, Heap.get?_update_self _ hT (Obj.isFreed_of_fields (Obj.data_mapFields hdT _)), Obj.data_mapFields hdT _, by simp [sz]⟩
theorem leaves_any {Q : Unit → Shared → Prop} (hfr : A.frames = some (env :: outer)) (hf : env.frame = some L) (hkb : B.StaysIn s.heap) (hen : B.get? e = none) (hl : s.heap.FunFrames B (env :: outer)) (ht : s.heap.TracedAtW B e cls a0 fl)
    (hQ : ∀ h', Heap.FlyingW B outer e cls a0 h' → s.heap.UpToSlots h' → Q () { s with heap := h' }) : wpAny M A (leaving env (.ref e)) Q E s := by
  by_cases hq : fl = rawInt L
  · subst hq
    unfold leaving
    refine wpAny_bind (wpAny_noteFrame_againW hf ht (wpAny_landsW ⟨hkb, hen, hl, ht⟩ fun h' x u => hQ h' ?_ u))
    obtain ⟨k1, k2, ⟨_, _, k3⟩, k4⟩ := x
    exact ⟨k1, k2, k3, k4⟩
  · -- the mark is taken off first: from there on as if there had been none
    refine wpAny_mono (Q := Q) (E := E) ?_ (fun _ _ q => q) fun _ _ q => q
    obtain ⟨oe, vs, T, oT, ts, he, ⟨hc, h0⟩, hd, h1, hnT, hTe, hT, hdT, h3⟩ := ht
    subst hc
    have away : ∀ b, b ≠ T → ∀ g, (s.heap.update T g).get? b = s.heap.get? b := fun b hb g => Heap.get?_update_other _ _ (Ne.symm hb)
    have rcd : ∀ b o, s.heap.get? b = some o → (∀ vs, o.data ≠ .fields vs) → b ≠ T := fun b o hb hn q => by
      subst q; rw [hT] at hb; cases hb; exact hn ts hdT
    unfold leaving noteFrame
    simp only [hf]
    refine wpAny_bind (wpAny_bind (wpAny_field he hd h1 ?_))
    rw [if_pos (by simp)]
    refine wpAny_bind (wpAny_field hT hdT h3 ?_)
    rw [if_neg (by simpa using hq)]
    refine wpAny_bind (wpAny_setField hT hdT (Array.getElem?_eq_some_iff.mp h3).1 ?_)
    refine wpAny_newEntryW hfr (hl.of_keeps fun b o hb hn => ⟨o, (away b (rcd b o hb hn) _).trans hb, rfl⟩) hf ((away e (Ne.symm hTe) _).trans he)
      (fun b o hb => (away b (fun q => by rw [q, hnT] at hb; cases hb) _).trans (hkb b o hb)) hen hd (Array.getElem?_eq_some_iff.mp h1).1 h0 fun h' x => ?_
    obtain ⟨x1, ⟨_, _, x2⟩, x3, x4⟩ := x
    exact hQ h' ⟨x1, hen, x2, x3⟩ fun b o hb hn => x4 b o ((away b (rcd b o hb hn) _).trans hb) hn
theorem pass_any {α : Type} {what : String} {Q : α → Shared → Prop} {cenv : Env} (hkb : B.StaysIn s.heap) (hl : s.heap.FunFrames B l) (ht : s.heap.TracedAtW B e cls a0 fl)
    (h : ∀ h' fl', B.StaysIn h' → h'.FunFrames B l → h'.TracedAtW B e cls a0 fl' → s.heap.UpToSlots h' → E (.ref e) { s with heap := h' }) : wpAny M A (PySem.passOn what (.ref e) cenv : Sem α) Q E s := by
  obtain ⟨oe, vs, T, oT, ts, he, hc, hd, h1, r⟩ := ht
  unfold PySem.passOn
  refine wpAny_bind (wpAny_field he hd h1 ?_)
  rw [if_neg (by simp)]
  refine wpAny_bind (flight_any hkb hl ⟨oe, vs, T, oT, ts, he, hc, hd, h1, r⟩ fun h' k1 k2 k3 k4 => wpAny_throw (h h' _ k1 k2 k3 k4))
end
theorem comp_loopX {prog : Program} {w : World} {A : Around} {R : Result → Shared → Prop} {s : Shared} {elt target iter : Expr} {ifs : List Expr} {scope : Scope} {pos : Pos} {it acc : Value} {env : Env} (I : Nat → Shared → Prop) (X : Value → Shared → Prop)
    (hX : ∀ x s, X x s → notedBy (model prog w) A env (fun x s' => R (.error x) s') x s)
    (turn : ∀ n s, I n s → wpAny (model prog w) A (pyNext it) (fun r s₁ => match r with
      | none => R (.ok .next) s₁
      | some v => wpAny (model prog w) A (letOwnedTupleGo target it v) (fun _ s₁' => wpAny (model prog w) A (assign target env v) (fun _ s₂ =>
          wpAny (model prog w) A (forIn ifs true fun c r => if r = true then do let ok ← isTrue c env (eval c env); pure (ForInStep.yield ok) else pure (ForInStep.yield r)) (fun ok s₃ =>
            if ok = true then wpAny (model prog w) A (eval elt env) (fun x s₄ =>
              wpAny (model prog w) A (call (.builtin "list.append") [acc, x]) (fun _ s₅ => ∃ m, m < n ∧ I m s₅) (fun _ _ => False) s₄) X s₃
            else ∃ m, m < n ∧ I m s₃) X s₂) X s₁') X s₁) X s)
    (n : Nat) (h : I n s) :
    codeAny (model prog w) A (.compLoop (.ListComp elt [⟨target, iter, ifs, 0⟩] scope pos) 0 it acc env) R s := by
  refine codeAny_loop rfl I (fun n s hI => ?_) n h
  show wpAny _ A ((compTurn (.ListComp elt [⟨target, iter, ifs, 0⟩] scope pos) 0 it acc env).onRaise (fun x => do noteFrame x env; theTreesLotGoes x)) _ _ s
  refine wpAny_noted ?_
  rw [compTurn_list]
  refine wpAny_bind (wpAny_standAt (wpAny_bind (wpAny_mono (turn n s hI) (fun r s₁ h₁ => ?_) fun x s' h' => hX x s' h')))
  cases r with
  | none => exact wpAny_pure h₁
  | some v =>
    refine wpAny_bind (wpAny_mono h₁ (fun _ s₁' h₁' => ?_) fun x s' h' => hX x s' h')
    refine wpAny_bind (wpAny_mono h₁' (fun _ s₂ h₂ => wpAny_bind (wpAny_mono h₂ (fun ok s₃ h₃ => ?_) fun x s' h' => hX x s' h')) fun x s' h' => hX x s' h')
    cases ok with
    | false => exact wpAny_pure ⟨rfl, h₃⟩
    | true =>
      exact wpAny_bind (wpAny_bind (wpAny_mono h₃ (fun x s₄ h₄ => wpAny_bind (wpAny_mono h₄ (fun _ s₅ h₅ => wpAny_pure (wpAny_pure ⟨rfl, h₅⟩)) fun _ _ h' => h'.elim)) fun x s' h' => hX x s' h'))
end L2
set_option Elab.async false
set_option linter.all false
set_option maxRecDepth 100000
set_option maxHeartbeats 1000000
namespace L2
open PySem PySem.Spec PyProof.Rows
section
variable {X : Cx} {pins : List (Addr × Obj)} {σ : St} {H : Hp} {s : Shared}
theorem leaves_onC {M : Model} {E2 : Value → Shared → Prop} {ea C t : Addr} {s' : Shared} {E : XK} {H' : Hp} {B : Heap} {fl : Value} (ch : List Addr) (hch : ∀ b ∈ ch, X.s₀.heap.objs.size ≤ b) (I : Inv X pins σ H s) (hst : X.stack = X.env :: X.outer) (hf : X.env.frame = some X.env.locals) (hex : X.ex = [])
    (os : s'.os = s.os) (bare : AllBare s'.gens) (un : Un (frs X.stack) ch H H' s.heap s'.heap) (hok : HOk X.prog X.w H' s'.heap) (hkb : B.StaysIn s'.heap) (hen : B.get? ea = none) (hl : s'.heap.FunFrames B X.stack) (ht : s'.heap.TracedAtW B ea (.ref C) (.ref t) fl)
    (b1 : ∀ b o, s.heap.get? b = some o → b ∉ frs X.stack → b ∉ ch → ∃ o', B.get? b = some o') (b2 : ∀ b u, H' b = some u → ∃ o, B.get? b = some o) (hE : E (.ref C) none H') : wpAny M X.A (leaving X.env (.ref ea)) (fun _ s'' => CXR X.prog X.w X.outer X.H₀ X.s₀ E (.ref ea) s'') E2 s' := by
  have noex : ∀ b, b ∉ X.ex := fun b z => by rw [hex] at z; cases z
  have nch : ∀ {b o}, X.s₀.heap.get? b = some o → b ∉ ch := fun q z => absurd (Heap.lt_size q) (Nat.not_lt.mpr (hch _ z))
  refine leaves_any (hst ▸ I.ok.frames) hf hkb hen (hst ▸ hl) ht fun h2 x1 x2 => ?_
  have old : ∀ b o, X.s₀.heap.get? b = some o → b ∉ X.fs → ∃ o', B.get? b = some o' := fun b o q n => by
    obtain ⟨o', ho⟩ := I.base.there b o q (noex b)
    exact b1 b o' ho (I.notStk q n) (nch q)
  have fr : ∀ b o, s'.heap.get? b = some o → b ∈ X.fs → ∃ sl, h2.get? b = some { o with slots := sl } := fun b o q hb => by
    obtain ⟨_, o', ho', hd⟩ := hl.mem (I.stkSup hb)
    rw [q] at ho'; cases ho'
    exact x2 b o q hd
  refine ⟨ea, C, t, H', B, rfl, os.trans I.os, bare, ⟨fun b o q n hb _ => ?_, fun b o q n hb _ => ?_, fun b o q n _ => ?_, fun b o q _ => ?_, fun b xs q => un.tups b xs (I.base.tups b xs q), fun b o u q => un.frzs b o u (I.base.frzs b o u q), fun b ps q => ?_⟩, hok.by b2 hkb x1.1, x1, old, b2, hE⟩
  · have e1 := I.base.keep b o q n hb (noex b)
    have e2 := un.keep b o e1 (I.base.free b o q n (noex b)) (I.notStk q hb) (nch q)
    obtain ⟨o', e3⟩ := old b o q hb
    have e4 := hkb b o' e3
    rw [e2] at e4; cases e4
    exact x1.1 b _ e3
  · obtain ⟨sl, e1⟩ := I.base.slot b o q n hb (noex b)
    obtain ⟨sl1, e2⟩ := un.slot b _ e1 (I.base.free b o q n (noex b)) (I.stkSup hb) (nch q)
    obtain ⟨sl2, e3⟩ := fr b _ e2 hb
    exact ⟨sl2, e3⟩
  · obtain ⟨o', e1⟩ := I.base.there b o q (noex b)
    exact un.free b o' e1 (I.base.free b o q n (noex b)) (nch q)
  · by_cases hb : b ∈ X.fs
    · obtain ⟨o', e1⟩ := I.base.there b o q (noex b)
      obtain ⟨o2, e2⟩ := un.there b o' e1 (nch q)
      obtain ⟨sl2, e3⟩ := fr b _ e2 hb
      exact ⟨_, e3⟩
    · obtain ⟨o', e1⟩ := old b o q hb
      exact ⟨_, x1.1 b o' e1⟩
  · obtain ⟨m1, e1⟩ := I.base.tbls b ps q
    obtain ⟨m2, e2⟩ := un.tbls b _ e1
    exact ⟨m1 ++ m2, by rw [e2, Array.append_assoc]⟩
end
end L2
set_option Elab.async false
set_option linter.all false
set_option maxRecDepth 100000
set_option maxHeartbeats 1000000
namespace L2
open PySem PySem.Spec PyProof.Rows
theorem none_less {B B' : Heap} (k : ∀ b o, B'.get? b = some o → B.get? b = some o) {L : Addr} (h : B.get? L = none) : B'.get? L = none := by
  cases q : B'.get? L with
  | none => rfl
  | some u => rw [k _ _ q] at h; cases h
theorem frames_move {h h' B B' : Heap} (k : ∀ b o, B'.get? b = some o → B.get? b = some o) : ∀ {l : List Env}, (∀ b ∈ frs l, h'.get? b = h.get? b) → h.FunFrames B l → h'.FunFrames B' l
  | [], _, _ => trivial
  | env :: rest, g, ⟨h1, ⟨L, o, h2, h3, h4⟩, h5⟩ => by
    have hm : L ∈ frs (env :: rest) := by unfold frs; rw [List.filterMap_cons, h2]; exact List.mem_cons_self
    refine ⟨h1, ⟨L, o, h2, none_less k h3, by rw [g L hm]; exact h4⟩, frames_move k (fun b hb => g b ?_) h5⟩
    unfold frs; rw [List.filterMap_cons, h2]; exact List.mem_cons_of_mem _ hb
theorem comp_leaves {X Y : Cx} {pins pinsY : List (Addr × Obj)} {σ σY : St} {H2 H3 : Hp} {s2 s3 s' : Shared} {E : XK} {e : Value} {C : Addr} {ex : List Addr} {ob : Obj} {env' : Env}
    (I2 : Inv X pins σ H2 s2) (IY : Inv Y pinsY σY H3 s3) (yl : Y.env.locals = C) (yos : Y.s₀.os = s2.os) (U : Un (frs X.stack) ex H2 H3 (s2.heap.push ob) s3.heap) (hC : s2.heap.objs.size ≤ C) (hexs : ∀ b ∈ ex, X.s₀.heap.objs.size ≤ b)
    (hst : X.stack = X.env :: X.outer) (hf : X.env.frame = some X.env.locals) (hex : X.ex = []) (henv : env'.frame = X.env.frame)
    (hxe : ∀ x s, wpAny (model X.prog X.w) X.A (leaving X.env x) (fun _ s'' => CXR X.prog X.w X.outer X.H₀ X.s₀ E x s'') (fun x' s'' => CXR X.prog X.w X.outer X.H₀ X.s₀ E x' s'') s → X.xe x s)
    (h : CXR X.prog X.w X.stack H3 s3 E e s') :
    notedBy (model X.prog X.w) X.A env' (fun x s'' => ∃ m, s''.heap.Ns C m ∧ ∀ h', Heap.SameBut C s''.heap h' → ∀ cenv : Env, cenv.locals = C → wpAny (model X.prog X.w) X.A (PySem.passOn "comprehension.variables-let-go" x cenv : Sem Value) (fun _ _ => False) X.xe { s'' with heap := h' }) e s' := by
  obtain ⟨ea, Cc, t, H', B, rfl, os, bare, un, hok, fl, b1, b2, hE⟩ := h
  have en : noteFrame (.ref ea) env' = noteFrame (.ref ea) X.env := by unfold noteFrame PySem.frameOf; rw [henv]
  unfold notedBy
  rw [en]
  have fl0 := fl
  rw [hst] at fl0
  refine wpAny_looks_onW (env := X.env) (outer := X.outer) (hst ▸ I2.ok.frames) hf fl0 fun h1 held up1 => ?_
  rw [← hst] at held
  have nil : ∀ b : Addr, b ∉ ([] : List Addr) := fun b z => by cases z
  have cNot : C ∉ frs X.stack := fun z => by
    obtain ⟨_, o, ho, _⟩ := I2.stack.mem z
    exact absurd (Heap.lt_size ho) (Nat.not_lt.mpr hC)
  obtain ⟨mC, nsC, _⟩ := IY.loc
  have cF := IY.free
  rw [yl] at nsC cF
  obtain ⟨oC, _, _, eC, _⟩ := id nsC
  have cF' : H' C = none := un.free C oC eC cF (nil C)
  have ns1 : h1.Ns C mC := up1.ns (nsC.at' fun o q => un.keep C o q cF cNot (nil C))
  refine ⟨mC, ns1, fun h2 sb cenv _ => ?_⟩
  have sub : ∀ b o, (PySem.W.hideAll B [C]).get? b = some o → B.get? b = some o := fun b o q => PySem.W.of_hideAll _ q
  have nC : ∀ {b o}, (PySem.W.hideAll B [C]).get? b = some o → b ≠ C := fun {b o} q z => by
    subst z; rw [PySem.W.hideAll_none [b] (List.mem_singleton.mpr rfl)] at q; cases q
  have into : ∀ {b o}, B.get? b = some o → b ≠ C → (PySem.W.hideAll B [C]).get? b = some o := fun q n => PySem.W.hideAll_get _ q fun z => n (List.mem_singleton.mp z)
  have st2 : (PySem.W.hideAll B [C]).StaysIn h2 := fun b o q => (sb.2 b (nC q)).trans (held.1 b o (sub b o q))
  have fr2 : h2.FunFrames (PySem.W.hideAll B [C]) X.stack := frames_move sub (fun b hb => sb.2 b fun z => cNot (z ▸ hb)) held.2.2.1
  have noF : ∀ b o vs, h1.get? b = some o → o.data = .fields vs → b ≠ C := fun b o vs q d z => by
    obtain ⟨o', es, ep, ho, hd, _⟩ := ns1
    subst z
    rw [q] at ho; cases ho
    rw [d] at hd; cases hd
  have tr2 : h2.TracedAtW (PySem.W.hideAll B [C]) ea (.ref Cc) (.ref t) (rawInt X.env.locals) := by
    obtain ⟨oe, vs, T, oT, ts, he, hc, hd, h1', hnT, hTe, hT, hdT, h3⟩ := held.2.2.2
    exact ⟨oe, vs, T, oT, ts, (sb.2 ea (noF _ _ _ he hd)).trans he, hc, hd, h1', none_less sub hnT, hTe, (sb.2 T (noF _ _ _ hT hdT)).trans hT, hdT, h3⟩
  refine pass_any (B := PySem.W.hideAll B [C]) (l := X.stack) st2 fr2 tr2 fun h3 fl' k1 k2 k3 k4 => hxe _ _ ?_
  have nonF : ∀ b ∈ frs X.stack, ∀ o, s'.heap.get? b = some o → ∃ sl, h3.get? b = some { o with slots := sl } := fun b hb o q => by
    obtain ⟨_, o', ho', hd⟩ := fl.2.2.1.mem hb
    rw [q] at ho'; cases ho'
    obtain ⟨sl, e1⟩ := up1 b o q hd
    have nb : b ≠ C := fun z => cNot (z ▸ hb)
    have e2 : h2.get? b = some { o with slots := sl } := (sb.2 b nb).trans e1
    obtain ⟨sl2, e3⟩ := k4 b _ e2 hd
    exact ⟨sl2, e3⟩
  have push : ∀ {b o}, s2.heap.get? b = some o → (s2.heap.push ob).get? b = some o := fun q => Heap.get?_push_of_some _ q
  have nbC : ∀ {b o}, s2.heap.get? b = some o → b ≠ C := fun q z => absurd (Heap.lt_size q) (Nat.not_lt.mpr (z ▸ hC))
  have inB : ∀ b o, s2.heap.get? b = some o → b ∉ frs X.stack → b ∉ ex → ∃ o', (PySem.W.hideAll B [C]).get? b = some o' := fun b o q hb hx => by
    obtain ⟨o3, e3⟩ := U.there b o (push q) hx
    obtain ⟨o', eB⟩ := b1 b o3 e3 hb
    exact ⟨o', into eB (nbC q)⟩
  have trk : ∀ b u, H' b = some u → ∃ o, (PySem.W.hideAll B [C]).get? b = some o := fun b u q => by
    obtain ⟨o, eB⟩ := b2 b u q
    exact ⟨o, into eB fun z => by rw [z, cF'] at q; cases q⟩
  have hen' : (PySem.W.hideAll B [C]).get? ea = none := by
    cases q : (PySem.W.hideAll B [C]).get? ea with
    | none => rfl
    | some o => have := sub _ _ q; rw [fl.2.1] at this; cases this
  refine leaves_onC (C := Cc) (t := t) (H' := H') (B := PySem.W.hideAll B [C]) (fl := fl') (C :: ex) (fun b hb => ?_) I2 hst hf hex (os.trans (IY.os.trans yos)) bare ⟨fun b o q n hb hx => ?_, fun b o q n hb hx => ?_, fun b o q n hx => ?_, fun b o q hx => ?_, fun b xs q => un.tups b xs (U.tups b xs q), fun b o u q => un.frzs b o u (U.frzs b o u q), fun b ps q => ?_⟩ (hok.by trk (fun b o q => fl.1 b o (sub b o q)) k1) k1 hen' k2 k3 (fun b o q hb hx => inB b o q hb fun z => hx (List.mem_cons_of_mem _ z)) trk hE
  · rcases List.mem_cons.mp hb with rfl | hb
    · exact Nat.le_trans I2.sz hC
    · exact hexs b hb
  · have hx' : b ∉ ex := fun z => hx (List.mem_cons_of_mem _ z)
    have e3 := U.keep b o (push q) n hb hx'
    have e4 := un.keep b o e3 (U.free b o (push q) n hx') hb (nil b)
    obtain ⟨o', eB⟩ := b1 b o e3 hb
    have := fl.1 b o' eB
    rw [e4] at this; cases this
    exact k1 b o (into eB (nbC q))
  · have hx' : b ∉ ex := fun z => hx (List.mem_cons_of_mem _ z)
    obtain ⟨sl, e3⟩ := U.slot b o (push q) n hb hx'
    obtain ⟨sl1, e4⟩ := un.slot b _ e3 (U.free b o (push q) n hx') hb (nil b)
    obtain ⟨sl2, e5⟩ := nonF b hb _ e4
    exact ⟨sl2, e5⟩
  · have hx' : b ∉ ex := fun z => hx (List.mem_cons_of_mem _ z)
    obtain ⟨o3, e3⟩ := U.there b o (push q) hx'
    exact un.free b o3 e3 (U.free b o (push q) n hx') (nil b)
  · have hx' : b ∉ ex := fun z => hx (List.mem_cons_of_mem _ z)
    by_cases hb : b ∈ frs X.stack
    · obtain ⟨o3, e3⟩ := U.there b o (push q) hx'
      obtain ⟨o4, e4⟩ := un.there b o3 e3 (nil b)
      obtain ⟨sl2, e5⟩ := nonF b hb _ e4
      exact ⟨_, e5⟩
    · obtain ⟨o', eB⟩ := inB b o q hb hx'
      exact ⟨o', k1 b o' eB⟩
  · obtain ⟨m1, e1⟩ := U.tbls b ps q
    obtain ⟨m2, e2⟩ := un.tbls b _ e1
    exact ⟨m1 ++ m2, by rw [e2, Array.append_assoc]⟩
end L2
set_option Elab.async false
set_option linter.all false
set_option maxRecDepth 100000
set_option maxHeartbeats 1000000
namespace L2
open PySem PySem.Spec PyProof.Rows
theorem comp_coreX {X : Cx} {E : XK} {elt tg iter : Expr} {ifs : List Expr} {scope : Scope} {pos : Pos} {N : List Str} {k : Nat} {cap : List Nat} {wi : TI} {tt : TTg} {tc : TT} {te : TE} {cl : List (Str × Addr)}
    (hc : X.calm = true) (hi : PI X tg iter wi) (hg : ∀ cl C s H ex pn xe, PTg ((compCx X scope N cl C s H ex pn).wish xe) k tg tt) (ht : ∀ cl C s H ex pn xe, PTs ((compCx X scope N cl C s H ex pn).wish xe) ifs tc)
    (he : ∀ cl C s H ex pn xe, Passes (CXR X.prog X.w) ((compCx X scope N cl C s H ex pn).wish xe) E → PE ((compCx X scope N cl C s H ex pn).wish xe) elt te)
    (hst : X.stack = X.env :: X.outer) (hf : X.env.frame = some X.env.locals) (hex : X.ex = [])
    (hxe : ∀ x s, wpAny (model X.prog X.w) X.A (leaving X.env x) (fun _ s'' => CXR X.prog X.w X.outer X.H₀ X.s₀ E x s'') (fun x' s'' => CXR X.prog X.w X.outer X.H₀ X.s₀ E x' s'') s → X.xe x s) (S : CompOk scope X.env.scope N X.N k cap)
    (hcl1 : ∀ x c, cl.lookup x = some c → X.env.cells.lookup x = some c) (hcl2 : ∀ x, (x, NameKind.free) ∈ scope.names → ∃ c, cl.lookup x = some c)
    {pins : List (Addr × Obj)} {s : Shared} {σ : St} {H : Hp} {Q : VK} (I : Inv X pins σ H s) (h : tComp wi tt tc te cap σ H Q) {RR : Value → Addr → Result → Shared → Prop}
    (hRR : ∀ D C s1 H', Inv X pins σ H' s1 → Blk X pins H' s1 C → Q (.ref D) H' → RR (.ref D) C (.ok .next) s1)
    (hRX : ∀ D C x s1, (∃ m, s1.heap.Ns C m ∧ ∀ h', Heap.SameBut C s1.heap h' → ∀ cenv : Env, cenv.locals = C → wpAny (model X.prog X.w) X.A (PySem.passOn "comprehension.variables-let-go" x cenv : Sem Value) (fun _ _ => False) X.xe { s1 with heap := h' }) → RR D C (.error x) s1) :
    wpAny (model X.prog X.w) X.A (eval iter X.env) (fun x s₁ => wpAny (model X.prog X.w) X.A (pyIter x) (fun it s₂ => wpAny (model X.prog X.w) X.A (newList []) (fun acc s₃ =>
      wpAny (model X.prog X.w) X.A (newFunctionEnv scope X.env.globals cl [] X.env.qual none .none (some X.env)) (fun cenv s₄ =>
        codeAny (model X.prog X.w) X.A (.compStart (.ListComp elt [⟨tg, iter, ifs, 0⟩] scope pos) 0 it acc { cenv with scope := relabel scope X.env }) (RR acc cenv.locals) s₄) X.xe s₃) X.xe s₂) X.xe s₁) X.xe s := by
  refine thn (hi pins s σ H _ I h) fun v s1 h1 => thn h1 fun itv s2 h2 => ?_
  obtain ⟨it, fp, tn, J, H2, e, I2, T, st2, f2, W, ⟨m0, w0⟩, turn⟩ := h2
  subst e
  refine wpAny_newObj_type (wpAny_newFunctionEnv S.cell (by intro y hy; simp at hy) (fun h₁ hns₁ hsb₁ => ?_) S.kind)
  dsimp only at hns₁ hsb₁ ⊢
  have hP : s2.heap.push { cls := .type "list", dict := none, data := .seq ([] : List Value).toArray } = s2.heap.push { cls := .type "list", data := .seq #[] } := rfl
  rw [hP] at hns₁ hsb₁ ⊢
  have hC : (s2.heap.push { cls := .type "list", data := .seq #[] }).objs.size = s2.heap.objs.size + 1 := Heap.size_push ..
  rw [hC] at hns₁ hsb₁ ⊢
  have hsb : ∀ b o, (s2.heap.push { cls := .type "list", data := .seq #[] }).get? b = some o → h₁.get? b = some o := fun b o e =>
    hsb₁.extBut b o (by have := Heap.lt_size e; rw [hC] at this; exact Nat.ne_of_lt this) (Heap.get?_push_of_some _ e)
  have hob : ∀ b ∈ fp, ∃ o, s2.heap.get? b = some o := fun b hb => by obtain ⟨o, e, _⟩ := T.obj _ _ st2 b hb; exact ⟨o, e⟩
  have IY := comp_start (N := N) (k := k) (cap := cap) (tk := s2.toks + ([] : List (Str × Value)).length) I2 S hcl1 hcl2 f2 hob hns₁ hsb
  obtain ⟨xb, hxb⟩ : ∃ xb : Value → Shared → Prop, xb = fun x s' => ∃ (pl : List (Addr × Obj)) (σ' : St) (H' : Hp) (s3 : Shared), Inv (compCx X scope N cl (s2.heap.objs.size + 1) { s2 with heap := s2.heap.push { cls := .type "list", data := .seq #[] } } H2 (s2.heap.objs.size :: fp) (X.pn ++ pins)) pl σ' H' s3 ∧ CXR X.prog X.w X.stack H' s3 E x s' := ⟨_, rfl⟩
  replace IY := IY.wish xb
  have pB : Passes (CXR X.prog X.w) ((compCx X scope N cl (s2.heap.objs.size + 1) { s2 with heap := s2.heap.push { cls := .type "list", data := .seq #[] } } H2 (s2.heap.objs.size :: fp) (X.pn ++ pins)).wish xb) E := fun pl σ' H' s3 x s' I h => by rw [hxb]; exact ⟨pl, σ', H', s3, I.unwish, h⟩
  have lv : ∀ x s', xb x s' → notedBy (model X.prog X.w) X.A (compEnvC scope cl (s2.heap.objs.size + 1) X.env) (fun x s' => RR (.ref s2.heap.objs.size) (s2.heap.objs.size + 1) (.error x) s') x s' := fun x s' z => by
    rw [hxb] at z
    obtain ⟨pl, σ', H', s3, I3, z⟩ := z
    refine wpAny_mono (comp_leaves I2 I3 rfl rfl I3.base (Nat.le_succ _) (fun b hb => ?_) hst hf hex rfl hxe z) (fun _ s'' q => hRX _ _ _ _ q) fun _ s'' q => hRX _ _ _ _ q
    rcases List.mem_cons.mp hb with rfl | hb
    · exact I2.sz
    · exact (f2 b hb).2.2.2.1.elim (fun z => by rw [hex] at z; cases z) id
  generalize hY : (compCx X scope N cl (s2.heap.objs.size + 1) { s2 with heap := s2.heap.push { cls := .type "list", data := .seq #[] } } H2 (s2.heap.objs.size :: fp) (X.pn ++ pins)).wish xb = Y at IY
  have yp : Y.prog = X.prog := by rw [← hY]
  have yw : Y.w = X.w := by rw [← hY]
  have yK : Y.K = X.K := by rw [← hY]
  have yA : Y.A = X.A := by rw [← hY]
  have yc : Y.calm = true := by rw [← hY]; exact hc
  have yl : Y.env.locals = s2.heap.objs.size + 1 := by rw [← hY]; rfl
  have yenv : Y.env = compEnvC scope cl (s2.heap.objs.size + 1) X.env := by rw [← hY]
  have yex : Y.ex = s2.heap.objs.size :: fp := by rw [← hY]
  have yfs : Y.fs = frs X.stack := by rw [← hY]
  have ypn : Y.pn = X.pn ++ pins := by rw [← hY]
  have ycl : Y.env.cells = cl := by rw [← hY]; rfl
  have yxe : Y.xe = xb := by rw [← hY]
  have gT : PTg Y k tg tt := by rw [← hY]; exact hg _ _ _ _ _ _ _
  have gC : PTs Y ifs tc := by rw [← hY]; exact ht _ _ _ _ _ _ _
  have gE : PE Y elt te := by rw [← hY]; exact he _ _ _ _ _ _ _ pB
  have yH : Y.H₀ = H2 := by rw [← hY]
  have ys0 : Y.s₀ = { s2 with heap := s2.heap.push { cls := .type "list", data := .seq #[] } } := by rw [← hY]
  have fpLt : ∀ b ∈ fp, b < s2.heap.objs.size := fun b hb => by obtain ⟨o, e⟩ := hob b hb; exact Heap.lt_size e
  have pinLt : ∀ p ∈ X.pn ++ pins, p.1 < s2.heap.objs.size := fun p hp => Heap.lt_size (I2.pin p hp).1
  have cellLt : ∀ x c, X.env.cells.lookup x = some c → c < s2.heap.objs.size := fun x c e => by
    obtain ⟨v, q⟩ := I2.cell x c e
    exact q.lt
  have stkNe : ∀ b, b ≠ X.env.locals → b ∉ X.fs → b ∉ frs X.stack := fun b h1 h2 hb => (List.mem_cons.mp (I2.stkSub b hb)).elim h1 h2
  have fpY : ∀ {H' : Hp} {pl : List (Addr × Obj)}, (∀ b ∈ fp, H' b = none) → (∀ p ∈ pl, p.1 = s2.heap.objs.size) → ∀ b ∈ fp, FpOk Y pl H' b := fun {H' pl} hn hpl b hb => by
    refine ⟨hn b hb, ?_, ?_, .inl ?_, fun x c e => ?_, fun p hp => ?_⟩
    · rw [yl]; exact Nat.ne_of_lt (Nat.lt_succ_of_lt (fpLt b hb))
    · rw [yfs]; exact stkNe b (f2 b hb).2.1 (f2 b hb).2.2.1
    · rw [yex]; exact List.mem_cons_of_mem _ hb
    · rw [ycl] at e; exact (f2 b hb).2.2.2.2.1 x c (hcl1 x c e)
    · rcases List.mem_append.mp hp with hp | hp
      · rw [ypn] at hp; exact (f2 b hb).2.2.2.2.2 p hp
      · rw [hpl p hp]; exact Nat.ne_of_gt (fpLt b hb)
  have loop : ∀ s₃ : Shared, s₃ = { s2 with heap := h₁, toks := s2.toks + ([] : List (Str × Value)).length } →
      codeAny (model X.prog X.w) X.A (.compLoop (.ListComp elt [⟨tg, iter, ifs, 0⟩] scope pos) 0 (.ref it) (.ref s2.heap.objs.size) (compEnvC scope cl (s2.heap.objs.size + 1) X.env)) (RR (.ref s2.heap.objs.size) (s2.heap.objs.size + 1)) s₃ := by
    rintro s₃ rfl
    refine comp_loopX (X := xb) (hX := lv) (fun n s' => ∃ i ys its H' c, Inv Y [(s2.heap.objs.size, { cls := .type "list", data := .seq (List.toArray its) c })] (List.replicate k none ++ capS σ cap) H' s' ∧ tn i s'.heap ∧ (∀ b ∈ fp, H' b = none) ∧ Vals ys its ∧ W i n ys H') ?_ m0
      ⟨0, [], [], H2, _, IY, T.keep _ _ _ st2 fun b hb o e => hsb b o (Heap.get?_push_of_some _ e), fun b hb => (f2 b hb).1, .nil, w0⟩
    rintro n s3 ⟨i, ys, its, H3, c3, I3, st3, fr3, rv3, w3⟩
    have onlyD : ∀ p ∈ [(s2.heap.objs.size, ({ cls := .type "list", data := .seq its.toArray c3 } : Obj))], p.1 = s2.heap.objs.size := fun p hp => by
      have : p = (s2.heap.objs.size, { cls := .type "list", data := .seq its.toArray c3 }) := by simpa using hp
      rw [this]
    have pinD : ∀ {pl : List (Addr × Obj)} {σ' : St} {H' : Hp} {s' : Shared}, Inv Y ([(s2.heap.objs.size, ({ cls := .type "list", data := .seq its.toArray c3 } : Obj))] ++ pl) σ' H' s' → s'.heap.get? s2.heap.objs.size = some { cls := .type "list", data := .seq its.toArray c3 } ∧ H' s2.heap.objs.size = none := fun I' => by
      obtain ⟨e, n, _⟩ := I'.pin (s2.heap.objs.size, { cls := .type "list", data := .seq its.toArray c3 }) (List.mem_append_right _ (List.mem_append_left _ (by simp)))
      exact ⟨e, n⟩
    rcases turn i n ys H3 w3 with ⟨stop, hz, qn⟩ | ⟨go, Nx, hNx, step⟩
    · have hd := T.done Y yp yw yK yc i _ s3 _ H3 xb I3 (fpY fr3 onlyD) st3 stop
      rw [yA] at hd
      refine thn hd fun r s4 hm0 => ?_
      obtain ⟨hr, I4⟩ := hm0
      subst hr
      obtain ⟨eD, nD⟩ := pinD (pl := []) (by simpa using I4)
      have nC : H3 (s2.heap.objs.size + 1) = none := by have := I4.free; rw [yl] at this; exact this
      obtain ⟨mC, nsC, _⟩ := I4.loc
      rw [yl] at nsC
      have U := I4.base
      rw [yfs, yex, yH, ys0] at U
      have old : ∀ {b o}, s2.heap.get? b = some o → b < s2.heap.objs.size := fun e => Heap.lt_size e
      have Un2 : Un (frs X.stack) (s2.heap.objs.size :: fp) H2 (upd H3 s2.heap.objs.size (.lst ys)) s2.heap s4.heap :=
        ⟨fun b o e n hb hx => U.keep b o (Heap.get?_push_of_some _ e) n hb hx, fun b o e n hb hx => U.slot b o (Heap.get?_push_of_some _ e) n hb hx,
          fun b o e n hx => by rw [upd_ne (Nat.ne_of_lt (old e))]; exact U.free b o (Heap.get?_push_of_some _ e) n hx, fun b o e hx => U.there b o (Heap.get?_push_of_some _ e) hx,
          fun b xs e => by have q := U.tups b xs e; rw [upd_ne (ne_of_none q nD)]; exact q, fun b o u e => by have q := U.frzs b o u e; rw [upd_ne (ne_of_none q nD)]; exact q,
          fun b ps e => by obtain ⟨mo, q⟩ := U.tbls b ps e; exact ⟨mo, by rw [upd_ne (ne_of_none q nD)]; exact q⟩⟩
      have hok4 := I4.hok
      rw [yp, yw] at hok4
      have IX : Inv X pins σ (upd H3 s2.heap.objs.size (.lst ys)) s4 := by
        refine I2.call' (ch := s2.heap.objs.size :: fp) ?_ Un2 (hok4.adopt nD ⟨hz, its, c3, rv3, eD⟩) I4.bare fun b hb => ?_
        · have := I4.os; rw [ys0] at this; exact this
        · rcases List.mem_cons.mp hb with rfl | hb
          · exact ⟨.inr I2.sz, Nat.ne_of_gt I2.lt, fun x c e => Nat.ne_of_lt (cellLt x c e), fun p hp => Nat.ne_of_lt (pinLt p hp)⟩
          · exact ⟨(f2 b hb).2.2.2.1, (f2 b hb).2.1, (f2 b hb).2.2.2.2.1, (f2 b hb).2.2.2.2.2⟩
      refine hRR _ _ s4 _ IX ⟨⟨mC, nsC⟩, ?_, ?_, Nat.le_succ_of_le I2.sz, fun x c e => Nat.ne_of_lt (Nat.lt_succ_of_lt (cellLt x c e)), fun p hp => Nat.ne_of_lt (Nat.lt_succ_of_lt (pinLt p hp))⟩ (qn _ nD)
      · rw [upd_ne (Nat.succ_ne_self _)]; exact nC
      · exact Nat.ne_of_gt (Nat.lt_succ_of_lt I2.lt)
    · have hd := T.item Y yp yw yK yc i _ s3 _ H3 xb I3 (fpY fr3 onlyD) st3 go
      rw [yA] at hd
      refine thn hd fun r s4 hm0 => ?_
      obtain ⟨u, hr, h4⟩ := hm0
      subst hr
      refine thn h4 fun _ s5 hm0 => ?_
      obtain ⟨x, H5, I5, r5, y5, st5, fr5⟩ := hm0
      have I5' := I5.pinned (fpY fr5 onlyD) (T.obj _ _ st5)
      have a5 := gT _ s5 _ H5 x u _ I5' (by simp) r5 (step x H5 y5)
      rw [yp, yw, yA, yxe, yenv] at a5
      refine thn a5 fun _ s6 hm0 => ?_
      obtain ⟨ws, hlw, q6, I6⟩ := hm0
      have dr : (List.replicate k (none : Option V) ++ capS σ cap).drop k = capS σ cap := by
        rw [List.drop_append_of_le_length (by simp)]; simp
      rw [dr] at I6
      have a6 := gC _ s6 _ H5 _ I6 q6
      rw [yp, yw, yA, yxe, yenv] at a6
      refine thn a6 fun ok s7 hm0 => ?_
      obtain ⟨H7, I7, q7⟩ := hm0
      have wk : ∀ (j : Nat) v, (List.replicate k (none : Option V) ++ capS σ cap)[j]? = some (some v) → (ws.map some ++ capS σ cap)[j]? = some (some v) := fun j v e => by
        have hik : k ≤ j := by
          refine Nat.le_of_not_lt fun hlt => ?_
          rw [List.getElem?_append_left (by simpa using hlt), List.getElem?_replicate] at e
          split at e <;> cases e
        rw [List.getElem?_append_right (by simpa using hik), List.length_replicate] at e
        rw [List.getElem?_append_right (by simpa [hlw] using hik), List.length_map, hlw]
        exact e
      have wl : (List.replicate k (none : Option V) ++ capS σ cap).length = (ws.map some ++ capS σ cap).length := by simp [hlw]
      have stn : ∀ {H' : Hp} {s' : Shared}, Inv Y ([(s2.heap.objs.size, ({ cls := .type "list", data := .seq its.toArray c3 } : Obj))] ++ pinsAt fp s5.heap) (ws.map some ++ capS σ cap) H' s' → tn (i + 1) s'.heap ∧ ∀ b ∈ fp, H' b = none := fun {H' s'} I' => by
        refine ⟨T.keep _ _ _ st5 fun b hb o e => (I'.pin (b, o) (List.mem_append_right _ (List.mem_append_right _ (mem_pinsAt hb e)))).1, fun b hb => ?_⟩
        obtain ⟨o, e, d⟩ := T.obj _ _ st5 b hb
        exact (I'.pin (b, o) (List.mem_append_right _ (List.mem_append_right _ (mem_pinsAt hb e)))).2.1
      cases ok with
      | false =>
        obtain ⟨_, m', hm, w'⟩ := hNx _ _ q7
        obtain ⟨t7, f7⟩ := stn I7
        exact ⟨m', hm, i + 1, ys, its, H7, c3, (I7.weak wl wk).unpinned, t7, f7, rv3, w'⟩
      | true =>
        have a7 := gE _ s7 _ H7 _ I7 q7
        rw [yp, yw, yA, yxe, yenv] at a7
        rw [if_pos rfl]
        refine thn a7 fun yv s8 hm0 => ?_
        obtain ⟨y, H8, I8, r8, q8⟩ := hm0
        obtain ⟨hz8, m', hm, w'⟩ := hNx _ _ q8
        rw [List.length_append, List.length_singleton] at hz8
        obtain ⟨eD, nD⟩ := pinD I8
        obtain ⟨t8, f8⟩ := stn I8
        refine wpAny_list_append_plain (hsz := by rw [List.size_toArray, ← rv3.length]; omega) ⟨c3, eD⟩ fun h9 pl9 sb9 => ?_
        obtain ⟨c9, e9⟩ := pl9
        have I8' : Inv Y [] (List.replicate k none ++ capS σ cap) H8 s8 := (I8.weak wl wk).pins_of fun p hp => by cases hp
        have I9 : Inv Y [] (List.replicate k none ++ capS σ cap) H8 { s8 with heap := h9 } :=
          I8'.turned (t' := s8.toks) (it := s2.heap.objs.size) (fun b o hb e => sb9.extBut b o hb e) nD (by rw [yl]; exact Nat.ne_of_lt (Nat.lt_succ_self _)) (.inl (by rw [yex]; exact List.mem_cons_self)) (fun x c e => by rw [ycl] at e; exact Nat.ne_of_lt (cellLt x c (hcl1 x c e)))
            fun p hp => by
              rw [List.append_nil, ypn] at hp
              exact Nat.ne_of_lt (pinLt p hp)
        have e9' : h9.get? s2.heap.objs.size = some { cls := .type "list", data := .seq (its ++ [yv]).toArray c9 } := by rw [e9]; simp
        refine ⟨m', hm, i + 1, ys ++ [y], its ++ [yv], H8, c9, I9.pins_of fun p hp => ?_, T.keep _ _ _ t8 fun b hb o e => sb9.extBut b o (Nat.ne_of_lt (fpLt b hb)) e, f8, rv3.append (.cons r8 .nil), w'⟩
        have : p = (s2.heap.objs.size, { cls := .type "list", data := .seq (its ++ [yv]).toArray c9 }) := by simpa using hp
        subst this
        refine ⟨e9', nD, ?_, ?_, fun v z => by cases z⟩
        · rw [yl]; exact Nat.ne_of_lt (Nat.lt_succ_self _)
        · rw [yfs]; exact stkNe _ (Nat.ne_of_gt I2.lt) (I2.nofs (Nat.le_refl _))
  exact codeAny_compStart_list (loop _ rfl) (T.self _ 0 _ _ _ (T.keep _ _ _ st2 fun b hb o e => hsb b o (Heap.get?_push_of_some _ e)) (loop _ rfl))
section
variable {X : Cx} {elt tg iter : Expr} {ifs : List Expr} {scope : Scope} {pos : Pos} {N : List Str} {k : Nat} {cap : List Nat} {wi : TI} {tt : TTg} {tc : TT} {te : TE}
theorem pe_compX {E : XK} (hc : X.calm = true) (S : CompOk scope X.env.scope N X.N k cap) (hi : PI X tg iter wi) (hg : ∀ cl C s H ex pn xe, PTg ((compCx X scope N cl C s H ex pn).wish xe) k tg tt) (ht : ∀ cl C s H ex pn xe, PTs ((compCx X scope N cl C s H ex pn).wish xe) ifs tc)
    (he : ∀ cl C s H ex pn xe, Passes (CXR X.prog X.w) ((compCx X scope N cl C s H ex pn).wish xe) E → PE ((compCx X scope N cl C s H ex pn).wish xe) elt te)
    (hst : X.stack = X.env :: X.outer) (hf : X.env.frame = some X.env.locals) (hex : X.ex = [])
    (hxe : ∀ x s, wpAny (model X.prog X.w) X.A (leaving X.env x) (fun _ s'' => CXR X.prog X.w X.outer X.H₀ X.s₀ E x s'') (fun x' s'' => CXR X.prog X.w X.outer X.H₀ X.s₀ E x' s'') s → X.xe x s) (hs : ∀ x, foldedSetIterable iter X.env x = pure x := by intro _; rfl) :
    PE X (.ListComp elt [⟨tg, iter, ifs, 0⟩] scope pos) (tComp wi tt tc te cap) := by
  intro pins s σ H Q I h
  obtain ⟨cl, hclos, hcl1, hcl2⟩ := clos_of (scope := scope) (env := X.env) fun y hy hf => I.ok.has y.1 (S.free y hy hf)
  rw [eval_ListComp]
  refine wpAny_comprehension_free (use := none) rfl hs hclos S.kind S.loc ?_
  refine comp_coreX hc hi hg ht he hst hf hex hxe S hcl1 hcl2 I h (fun D C s1 H' I1 B q => ?_) fun _ _ _ _ z => z
  obtain ⟨m, hm⟩ := B.ns
  exact ⟨m, hm, fun h' sb => ⟨.ref D, H', B.turn I1 sb, rfl, q⟩⟩
end
end L2
set_option Elab.async false
set_option linter.all false
set_option maxRecDepth 100000
set_option maxHeartbeats 1000000
namespace L2
open PySem PySem.Spec PyProof.Rows
section
variable {X : Cx} {elt tg iter : Expr} {ifs : List Expr} {scope : Scope} {pos : Pos} {N : List Str} {k : Nat} {cap : List Nat} {wi : TI} {tt : TTg} {tc : TT} {te : TE}
theorem ps_setCX {E : XK} {i : Nat} {y : Str} {py spos : Pos} (hc : X.calm = true) (S : CompOk scope X.env.scope N X.N k cap) (hN : X.N.Nodup) (hiy : X.N[i]? = some y) (hy : X.env.scope.names.lookup y = some .local) (hi : PI X tg iter wi)
    (hg : ∀ cl C s H ex pn xe, PTg ((compCx X scope N cl C s H ex pn).wish xe) k tg tt) (ht : ∀ cl C s H ex pn xe, PTs ((compCx X scope N cl C s H ex pn).wish xe) ifs tc)
    (he : ∀ cl C s H ex pn xe, Passes (CXR X.prog X.w) ((compCx X scope N cl C s H ex pn).wish xe) E → PE ((compCx X scope N cl C s H ex pn).wish xe) elt te)
    (hst : X.stack = X.env :: X.outer) (hf : X.env.frame = some X.env.locals) (hex : X.ex = [])
    (hxe : ∀ x s, wpAny (model X.prog X.w) X.A (leaving X.env x) (fun _ s'' => CXR X.prog X.w X.outer X.H₀ X.s₀ E x s'') (fun x' s'' => CXR X.prog X.w X.outer X.H₀ X.s₀ E x' s'') s → X.xe x s)
    (hsw : swapsWith (.ListComp elt [⟨tg, iter, ifs, 0⟩] scope pos) (some (.Name y py)) spos.line X.env = pure true := by rfl) (hs : ∀ x, foldedSetIterable iter X.env x = pure x := by intro _; rfl) :
    PS X (.Assign [.Name y py] (.ListComp elt [⟨tg, iter, ifs, 0⟩] scope pos) spos) (tAsg (tComp wi tt tc te cap) (gName i)) := by
  intro pins s σ H D I h
  obtain ⟨cl, hclos, hcl1, hcl2⟩ := clos_of (scope := scope) (env := X.env) fun y hy hf => I.ok.has y.1 (S.free y hy hf)
  rw [exec_Assign_Name_used _ _ _ _ hsw]
  refine wpAny_bind (wpAny_standAt (wpAny_bind ?_))
  show wpAny _ X.A (do let _ ← comprehension (.ListComp elt [⟨tg, iter, ifs, 0⟩] scope pos) scope X.env _ (newList []) false (eval iter X.env) (some (assign (.Name y py) X.env))) _ _ s
  refine wpAny_bind (wpAny_mono (wpAny_comprehension_free (use := some (assign (.Name y py) X.env)) (Q := fun _ s' => SP X pins D .next s') rfl hs hclos S.kind S.loc ?_) (fun _ s' hq => wpAny_pure (wpAny_pure hq)) fun _ _ e => e)
  refine comp_coreX hc hi hg ht he hst hf hex hxe S hcl1 hcl2 I h (fun Da C s1 H' I1 B q => ?_) fun _ _ _ _ z => z
  show wpAny _ X.A (assign (.Name y py) X.env (.ref Da)) _ _ _
  refine wpAny_assign_Name (store_ok2 (v := .ref Da) I1 hN hiy (.inl hy) rfl (fun s' I' z => ?_) (.inr hy))
  obtain ⟨a, hsb, ha⟩ := z
  have hCa : C ≠ a := by
    rcases ha with rfl | ha
    · exact B.ne
    · exact fun e => B.cells _ _ ha e.symm
  obtain ⟨m, hm⟩ := B.ns
  refine ⟨m, hm.sameBut hsb hCa, fun h' sb => ?_⟩
  exact ⟨_, H', I'.turned (t' := s'.toks) (fun b o hb e => sb.extBut b o hb e) B.un B.ne (.inr B.new) B.cells B.pins, q⟩
end
section
variable {X : Cx} {elt tg iter : Expr} {ifs : List Expr} {scope : Scope} {pos : Pos} {wi : TI} {tt : TTg} {tc : TT} {te : TE}
theorem pe_lcX {E : XK} (psc : Scope) (PN N : List Str) (k : Nat) (cap : List Nat) (hi : PI X tg iter wi) (hg : ∀ cl C s H ex pn xe, PTg ((compCx X scope N cl C s H ex pn).wish xe) k tg tt) (ht : ∀ cl C s H ex pn xe, PTs ((compCx X scope N cl C s H ex pn).wish xe) ifs tc)
    (he : ∀ cl C s H ex pn xe, Passes (CXR X.prog X.w) ((compCx X scope N cl C s H ex pn).wish xe) E → PE ((compCx X scope N cl C s H ex pn).wish xe) elt te)
    (hxe : ∀ x s, wpAny (model X.prog X.w) X.A (leaving X.env x) (fun _ s'' => CXR X.prog X.w X.outer X.H₀ X.s₀ E x s'') (fun x' s'' => CXR X.prog X.w X.outer X.H₀ X.s₀ E x' s'') s → X.xe x s := by intro _ _ h; exact h) (hst : X.stack = X.env :: X.outer := by rfl) (hf : X.env.frame = some X.env.locals := by rfl) (hex : X.ex = [] := by rfl) (hc : X.calm = true := by rfl) (h1 : X.env.scope = psc := by rfl) (h2 : X.N = PN := by rfl) (S : compOkB scope psc N PN k cap = true := by decide +kernel)
    (hs : ∀ x, foldedSetIterable iter X.env x = pure x := by intro _; rfl) :
    PE X (.ListComp elt [⟨tg, iter, ifs, 0⟩] scope pos) (tComp wi tt tc te cap) := pe_compX hc (by rw [h1, h2]; exact compOk_of S) hi hg ht he hst hf hex hxe hs
theorem ps_lcX {E : XK} {i : Nat} {y : Str} {py spos : Pos} (psc : Scope) (PN N : List Str) (k : Nat) (cap : List Nat) (hN : X.N.Nodup) (hiy : X.N[i]? = some y) (hy : X.env.scope.names.lookup y = some .local) (hi : PI X tg iter wi)
    (hg : ∀ cl C s H ex pn xe, PTg ((compCx X scope N cl C s H ex pn).wish xe) k tg tt) (ht : ∀ cl C s H ex pn xe, PTs ((compCx X scope N cl C s H ex pn).wish xe) ifs tc)
    (he : ∀ cl C s H ex pn xe, Passes (CXR X.prog X.w) ((compCx X scope N cl C s H ex pn).wish xe) E → PE ((compCx X scope N cl C s H ex pn).wish xe) elt te)
    (hxe : ∀ x s, wpAny (model X.prog X.w) X.A (leaving X.env x) (fun _ s'' => CXR X.prog X.w X.outer X.H₀ X.s₀ E x s'') (fun x' s'' => CXR X.prog X.w X.outer X.H₀ X.s₀ E x' s'') s → X.xe x s := by intro _ _ h; exact h) (hst : X.stack = X.env :: X.outer := by rfl) (hf : X.env.frame = some X.env.locals := by rfl) (hex : X.ex = [] := by rfl) (hc : X.calm = true := by rfl) (h1 : X.env.scope = psc := by rfl) (h2 : X.N = PN := by rfl) (S : compOkB scope psc N PN k cap = true := by decide +kernel)
    (hsw : swapsWith (.ListComp elt [⟨tg, iter, ifs, 0⟩] scope pos) (some (.Name y py)) spos.line X.env = pure true := by rfl) (hs : ∀ x, foldedSetIterable iter X.env x = pure x := by intro _; rfl) :
    PS X (.Assign [.Name y py] (.ListComp elt [⟨tg, iter, ifs, 0⟩] scope pos) spos) (tAsg (tComp wi tt tc te cap) (gName i)) := ps_setCX hc (by rw [h1, h2]; exact compOk_of S) hN hiy hy hi hg ht he hst hf hex hxe hsw hs
end
end L2
set_option Elab.async false
set_option linter.all false
set_option maxRecDepth 100000
set_option maxHeartbeats 1000000
namespace L2
open PySem PySem.Spec PyProof.Rows
section
variable {P : Program} {w : World} {K : PySem.W.Frag} {mg : Str → Option Value} {base : Heap}
end
section
variable {X : Cx} {E : XK}
end
end L2
set_option Elab.async false
set_option linter.all false
set_option maxRecDepth 100000
set_option maxHeartbeats 1000000
namespace L2
open PySem PySem.Spec PyProof.Rows
section
variable {X : Cx} {k n : Nat} {f C : Addr} {fd : FuncData} {ps fs : List Str} {sp : Sp} {x m : Str} {p pos apos : Pos} {e o : Expr} {es : List Expr} {ta : TE} {t : TA}
end
section
variable {X : Cx}
end
end L2
set_option Elab.async false
set_option linter.all false
set_option maxRecDepth 100000
set_option maxHeartbeats 1000000
namespace L2
open PySem PySem.Spec PyProof.Rows
end L2
set_option Elab.async false
set_option linter.all false
set_option maxRecDepth 100000
namespace L2
open PySem PySem.W PySem.Calls PyProof.Rows
def topRunT (tb : String → Option Builtin) (p : Program) (w : World) (n₀ : Nat) (ann : Option Value) : Nat → SharedT → Thread → Option SharedT
  | 0, _, _ => none
  | n + 1, s, t => match through t with
    | true => some s
    | false => match stepOk n₀ ann t with
      | false => none
      | true => match stepT (denote tb) p w s t with
        | some (s', t') => topRunT tb p w n₀ ann n s' t'
        | none => none
theorem topRun_of {tb : String → Option Builtin} {p : Program} {w : World} {n₀ : Nat} {ann : Option Value} : ∀ {n : Nat} {s s' : SharedT} {t : Thread}, topRunT tb p w n₀ ann n s t = some s' → topRun tb p w n₀ ann n s.abs t = some s'.abs
  | 0, _, _, _, h => by cases h
  | n + 1, s, s', t, h => by
    unfold topRunT at h
    unfold topRun
    cases he : through t with
    | true => rw [he] at h; cases h; rfl
    | false =>
      rw [he] at h
      cases hk : stepOk n₀ ann t with
      | false => rw [hk] at h; cases h
      | true =>
        rw [hk] at h
        cases hs : stepT (denote tb) p w s t with
        | none => rw [hs] at h; cases h
        | some r => obtain ⟨s₂, t₂⟩ := r; rw [hs] at h; rw [stepT_spec hs]; exact topRun_of h
noncomputable def topRunQ (p : Program) (w : World) (n₀ : Nat) (ann : Option Value) : Nat → SharedT → Thread → Option SharedT
  | 0, _, _ => none
  | n + 1, s, t => match through t with
    | true => some s
    | false => match PySem.W.Fast.tw6613529449190102663 n₀ ann t with
      | false => none
      | true => match PySem.W.Fast.tw10156331382660048174 (PySem.W.Fast.tw11892475500146522536 PySem.W.Fast.tw14364793385576792824) p w s t with
        | some (s', t') => topRunQ p w n₀ ann n s' t'
        | none => none
theorem topRunQ_eq {p : Program} {w : World} {n₀ : Nat} {ann : Option Value} : ∀ (n : Nat) (s : SharedT) (t : Thread), topRunQ p w n₀ ann n s t = topRunT treeTable p w n₀ ann n s t
  | 0, _, _ => rfl
  | n + 1, s, t => by
    unfold topRunQ topRunT
    rw [← PySem.W.Fast.te6613529449190102663, ← PySem.W.Fast.te10156331382660048174, ← PySem.W.Fast.te11892475500146522536, ← PySem.W.Fast.te14364793385576792824]
    cases through t with
    | true => rfl
    | false =>
      dsimp only
      cases stepOk n₀ ann t with
      | false => rfl
      | true =>
        dsimp only
        cases stepT (denote treeTable) p w s t with
        | none => rfl
        | some r => exact topRunQ_eq n r.1 r.2
def treeOf : List Obj → Nat → BT → BT
  | [], _, t => t
  | o :: l, n, t => treeOf l (n + 1) (t.ins n o)
noncomputable def boot_tree (P : Params) : BT := treeOf (boot_heap P).objs.toList 0 .nil
noncomputable def topLook {α : Type} (p q : Program) (loose : List Str) (Xt : Shared → Bool) (g0 : Bool) (Yf : Shared → α) (H : Heap) (s : Shared) :=
  ((staticsOk (importedModules p.main.body) H s.heap && namesBound p s.heap && gensDone s && laidKept H s.heap), PySem.W.Fast.tw4187177175401517315 q loose (importedModules p.main.body) Xt g0 s, Yf s)
theorem left_tree {p q : Program} {loose : List Str} {Xt : Shared → Bool} {α : Type} {Yf : Shared → α} {Ya : World → α} {N : Nat} {g0 : Bool} {H₀ : Params → Heap} {gs₀ : Array GenState} {d₀ : Drawn} {k₀ : Nat} {m₀ : Nat} {ann : Option Value} {M : Nat} {T₀ : Params → BT} {n₀ : Nat} {life : Life}
    (open_ : ∀ w : World, (fencedOpening treeTable p w N).map (fun s => (s.heap, s.gens, s.drawn, s.toks)) = some (H₀ w.params, gs₀, d₀, k₀))
    (size : ∀ w : World, ((H₀ w.params).isNs mainGlobals && gs₀.size == 0, (H₀ w.params).objs.size, (H₀ w.params).nsMap mainGlobals "__annotations__") = (true, m₀, ann))
    (tree : ∀ P : Params, absHeap (T₀ P) n₀ life = H₀ P)
    (run : ∀ (w : World) (os : OsState), (topRunQ p w m₀ ann M ⟨T₀ w.params, n₀, life, gs₀, d₀, k₀, os⟩ (topStub p)).map (fun r => topLook p q loose Xt g0 Yf (H₀ w.params) r.abs) = some (true, openGood q loose, Ya w))
    (le : Nat.ble M N = true) : LeftO p q loose Xt Yf Ya N g0 := fun w => by
  obtain ⟨⟨h, gs, d, k, os⟩, e, e'⟩ := Option.map_eq_some_iff.mp (open_ w)
  obtain ⟨rfl, rfl, rfl, rfl⟩ : h = H₀ w.params ∧ gs = gs₀ ∧ d = d₀ ∧ k = k₀ := by simpa using e'
  obtain ⟨z1, z2, z3⟩ : _ ∧ _ ∧ _ := by simpa only [Prod.mk.injEq] using size w
  obtain ⟨r, hr, hl⟩ := Option.map_eq_some_iff.mp (run w os)
  obtain ⟨l1, l2, l3⟩ : _ ∧ _ ∧ _ := by simpa only [topLook, ← PySem.W.Fast.te4187177175401517315, Prod.mk.injEq] using hl
  rw [topRunQ_eq] at hr
  have r2 := topRun_of hr
  have ea : SharedT.abs ⟨T₀ w.params, n₀, life, gs, d, k, os⟩ = ⟨H₀ w.params, gs, d, k, os⟩ := by
    unfold SharedT.abs
    rw [tree]
  rw [ea] at r2
  have r3 := topRun_mono (N - M) _ _ _ _ r2
  rw [show M + (N - M) = N by have := Nat.le_of_ble_eq_true le; omega] at r3
  have t : topFrom treeTable p w N ⟨H₀ w.params, gs, d, k, os⟩ = some r.abs := by
    unfold topFrom
    dsimp only
    rw [z1, z2, z3, r3]
    show (match staticsOk (importedModules p.main.body) (H₀ w.params) r.abs.heap && namesBound p r.abs.heap && gensDone r.abs && laidKept (H₀ w.params) r.abs.heap with | true => _ | false => _) = _
    rw [l1]
  unfold openEnds
  rw [e]
  show (topFrom treeTable p w N _).map _ = _
  rw [t]
  exact congrArg some (Prod.ext l2 l3)
end L2
set_option Elab.async false
set_option linter.all false
set_option maxRecDepth 100000
set_option maxHeartbeats 1000000
namespace L2
open PySem PySem.W PySem.Calls PyProof.Rows
def partOf (as : List Addr) (h : Heap) : Frag := as.filterMap fun a => (h.get? a).map fun o => (a, o)
theorem partOf_in (h : Heap) : ∀ as : List Addr, (partOf as h).In h
  | [], a, o, e => by cases e
  | b :: l, a, o, e => by
    unfold partOf at e
    rw [List.filterMap_cons] at e
    cases hb : h.get? b with
    | none => rw [hb] at e; exact partOf_in h l a o e
    | some x =>
      rw [hb] at e
      have e : List.lookup a ((b, x) :: l.filterMap fun a => (h.get? a).map fun o => (a, o)) = some o := e
      rw [List.lookup_cons] at e
      cases q : a == b with
      | true =>
        rw [q] at e
        have eab : a = b := eq_of_beq q
        have e : some x = some o := e
        rw [eab, hb, e]
      | false => rw [q] at e; exact partOf_in h l a o e
def posOf (s : Stmt) : Pos := match s with
  | .FunctionDef _ _ _ _ _ _ _ _ _ p => p
  | _ => ⟨0, 0, 0, 0⟩
def dfOf (K : Frag) : Value → Option (Option (List Value))
  | .none => some none
  | .ref T => match K.lookup T with
    | some ⟨_, _, .seq vs _, _⟩ => some (some vs.toList)
    | _ => none
  | _ => none
abbrev Sig := (Str × Str × Addr × List (Str × Addr) × Option (Option (List Value)) × Addr) × (Bool × Bool) × Arguments × FuncBody × Scope
def fnLook (K : Frag) (v : Option (Option Value)) (qual : Str) : Option Sig := match v with
  | some (some (.ref f)) => match K.lookup f with
    | some ⟨_, _, .func fd, _⟩ => some ((fd.name, fd.qualname, fd.globals, fd.closure, dfOf K fd.defaults, fd.builtins), (codeIn K fd.code qual, isFn K (.ref f)), fd.params, fd.body, fd.scope)
    | _ => none
  | _ => none
def sigW (x qual : Str) (st : Stmt) (df : Option (List Value)) : Sig := ((x, qual, mainGlobals, [], some df, builtinsNs), (true, true), defArgs st, .stmts (defBody st), defScope st)
theorem keep_fn {K : Frag} {f : Addr} {oc : Value} {od : Option Addr} {fd : FuncData} {sl : Array (Option Value)} (l : K.lookup f = some ⟨oc, od, .func fd, sl⟩) : keepIn K (.ref f) = true := by
  unfold keepIn
  simp only [l]
theorem fnLook_ex {K : Frag} {v : Option (Option Value)} {x qual : Str} {st : Stmt} {df : Option (List Value)} (e : fnLook K v qual = some (sigW x qual st df)) :
    ∃ (f : Addr) (oc : Value) (od : Option Addr) (dV kV doc pm : Value) (an : Option Addr) (cdv ct : Value) (sl : Array (Option Value)), v = some (some (.ref f)) ∧ K.lookup f = some ⟨oc, od, .func (fnOf x qual (defArgs st) (defBody st) (defScope st) dV kV doc pm an cdv ct), sl⟩ ∧
      codeIn K cdv qual = true ∧ isFn K (.ref f) = true ∧ dfOf K dV = some df := by
  unfold fnLook at e
  split at e
  · rename_i f
    split at e
    · rename_i oc od fd sl hl
      obtain ⟨nm, qn, ps, bd, sc, gl, cl, dV, kV, doc, pm, an, cd, ct, bl⟩ := fd
      injection e with e
      injection e with e1 e2
      injection e1 with a1 e1
      injection e1 with a2 e1
      injection e1 with a3 e1
      injection e1 with a4 e1
      injection e1 with a5 a6
      injection e2 with e3 e4
      injection e3 with b1 b2
      injection e4 with c1 e4
      injection e4 with c2 c3
      dsimp only at a1 a2 a3 a4 a5 a6 b1 b2 c1 c2 c3
      subst a1 a2 a3 a4 a6 c1 c2 c3
      exact ⟨f, oc, od, dV, kV, doc, pm, an, cd, ct, sl, rfl, hl, b1, b2, a5⟩
    · cases e
  · cases e
theorem dfOf_none {K : Frag} {v : Value} (e : dfOf K v = some none) : v = .none := by
  unfold dfOf at e
  split at e
  · rfl
  · split at e <;> cases e
  · cases e
theorem fnLook_fun {K : Frag} {v : Option (Option Value)} {x qual : Str} {st : Stmt} (e : fnLook K v qual = some (sigW x qual st none)) : ∃ f fd, v = some (some (.ref f)) ∧ Fun K x qual st f fd ∧ isFn K (.ref f) = true := by
  obtain ⟨f, oc, od, dV, kV, doc, pm, an, cdv, ct, sl, hv, l, c, i, d⟩ := fnLook_ex e
  obtain rfl := dfOf_none d
  exact ⟨f, _, hv, fun_mk l c (keep_fn l), i⟩
inductive Ky where
  | df (x : Str)
  | me (c m qual : Str)
def Ky.val (K : Frag) : Ky → Option (Option Value)
  | .df x => nsIn K mainGlobals x
  | .me c m _ => match nsIn K mainGlobals c with
    | some (some v) => findIn K v m
    | _ => none
def Ky.qual : Ky → Str
  | .df x => x
  | .me _ _ q => q
def Ky.nm : Ky → Str
  | .df x => x
  | .me _ m _ => m
def clsLook (K : Frag) (c : Str × List Str) : Option (Bool × Option (Option Value) × List (Option (Option Value))) := match nsIn K mainGlobals c.1 with
  | some (some (.ref C)) => some (plainGet K C Str.empty && hasDictIn K C && plainOver K C && makesIn K C && keepIn K (.ref C), findIn K (.ref C) "__setattr__", c.2.map fun f => findIn K (.ref C) f)
  | _ => none
def intLook (K : Frag) (x : Str) : Option Int := match nsIn K mainGlobals x with
  | some (some (.int v _)) => some v
  | _ => none
def strLook (K : Frag) (x : Str) : Option Str := match nsIn K mainGlobals x with
  | some (some (.str v _)) => some v
  | _ => none
structure Asked (β : Type) where
  ks : List (Ky × Stmt × Option (List Value))
  cs : List (Str × List Str) := []
  is : List (Str × Int) := []
  ss : List (Str × Str) := []
  bs : List Str := []
  xc : Frag → Bool := fun _ => true
  ext : Frag → β
  extW : World → β
section
variable {β : Type} (A : Asked β)
def Asked.look (K : Frag) := (A.ks.map fun k => fnLook K (k.1.val K) k.1.qual, A.cs.map (clsLook K), A.is.map fun x => intLook K x.1, A.ss.map fun x => strLook K x.1, A.bs.map fun x => nsIn K mainGlobals x, A.xc K, A.ext K)
def Asked.want (w : World) := (A.ks.map fun k => some (sigW k.1.nm k.1.qual k.2.1 k.2.2), A.cs.map fun c => some (true, some (some (Value.builtin "object.__setattr__")), c.2.map fun _ => some (none : Option Value)), A.is.map fun x => some x.2, A.ss.map fun x => some x.2, A.bs.map fun _ => some (none : Option Value), true, A.extW w)
def Asked.Ok (w : World) (K : Frag) : Prop := A.look K = A.want w
end
theorem map_at {α γ : Type} {l : List α} {f g : α → γ} (e : l.map f = l.map g) {i : Nat} {a : α} (h : l[i]? = some a) : f a = g a := by
  have z := congrArg (fun l => l[i]?) e
  simp only [List.getElem?_map, h, Option.map_some] at z
  injection z
section
variable {β : Type} {A : Asked β} {w : World} {K : Frag} {h : Heap} {mg : Str → Option Value}
theorem Asked.Ok.fn (e : A.Ok w K) {i : Nat} {k : Ky} {st : Stmt} {df : Option (List Value)} (hi : A.ks[i]? = some (k, st, df)) : fnLook K (k.val K) k.qual = some (sigW k.nm k.qual st df) := map_at (f := fun k : Ky × Stmt × Option (List Value) => fnLook K (k.1.val K) k.1.qual) (g := fun k => some (sigW k.1.nm k.1.qual k.2.1 k.2.2)) (congrArg Prod.fst e) hi
theorem Asked.Ok.defAt (e : A.Ok w K) (X : K.In h) (G : h.Ns mainGlobals mg) (i : Nat) {x : Str} {st : Stmt} {ps : List Str} (hi : A.ks[i]? = some (.df x, st, none))
    (hb : ∀ (kV doc pm : Value) (an : Option Addr) (cdv ct : Value) (us : List Value), us.length = ps.length → bindArgs (fnOf x x (defArgs st) (defBody st) (defScope st) .none kV doc pm an cdv ct) ⟨us, []⟩ = pure (ps.zip us)) : DefAt K mg x st ps := by
  obtain ⟨f, fd, hv, F, _⟩ := fnLook_fun (e.fn hi)
  exact ⟨f, fd, F, mg_of X G hv, F.binds hb⟩
theorem Asked.Ok.law (e : A.Ok w K) (X : K.In h) (G : h.Ns mainGlobals mg) (i : Nat) {x : Str} {st : Stmt} {fa : Addr} (hi : A.ks[i]? = some (.df x, st, none)) (hm : mg x = some (.ref fa)) :
    ∃ kV doc pm an cdv ct, Fun K x x st fa (fnOf x x (defArgs st) (defBody st) (defScope st) .none kV doc pm an cdv ct) := by
  obtain ⟨f, oc, od, dV, kV, doc, pm, an, cdv, ct, sl, hv, l, c, _, d⟩ := fnLook_ex (e.fn hi)
  obtain rfl := dfOf_none d
  have z := hm.symm.trans (mg_of X G hv)
  injection z with z
  injection z with z
  subst z
  exact ⟨kV, doc, pm, an, cdv, ct, fun_mk l c (keep_fn l)⟩
theorem Asked.Ok.int (e : A.Ok w K) (X : K.In h) (G : h.Ns mainGlobals mg) (i : Nat) {x : Str} {v : Int} (hi : A.is[i]? = some (x, v)) : ∃ t, mg x = some (.int v t) := by
  have z := map_at (f := fun x : Str × Int => intLook K x.1) (g := fun x => some x.2) (congrArg (fun p => p.2.2.1) e) hi
  unfold intLook at z
  split at z
  · rename_i u t hC
    injection z with z
    dsimp only at z hC
    subst z
    exact ⟨t, mg_of X G hC⟩
  · cases z
theorem Asked.Ok.str (e : A.Ok w K) (X : K.In h) (G : h.Ns mainGlobals mg) (i : Nat) {x : Str} {v : Str} (hi : A.ss[i]? = some (x, v)) : ∃ t, mg x = some (.str v t) := by
  have z := map_at (f := fun x : Str × Str => strLook K x.1) (g := fun x => some x.2) (congrArg (fun p => p.2.2.2.1) e) hi
  unfold strLook at z
  split at z
  · rename_i u t hC
    injection z with z
    dsimp only at z hC
    subst z
    exact ⟨t, mg_of X G hC⟩
  · cases z
theorem Asked.Ok.noneAt (e : A.Ok w K) (X : K.In h) (G : h.Ns mainGlobals mg) (i : Nat) {x : Str} (hi : A.bs[i]? = some x) : mg x = Option.none :=
  mg_none_of X G (map_at (f := fun x => nsIn K mainGlobals x) (g := fun _ => some (none : Option Value)) (congrArg (fun p => p.2.2.2.2.1) e) hi)
theorem Asked.Ok.exc (e : A.Ok w K) : A.xc K = true := congrArg (fun p => p.2.2.2.2.2.1) e
end
theorem walk_ex {l : OpenLaw} {n k : Nat} {q : Program} {loose : List Str} {XP : (Str → Option Value) → Heap → Prop} {d : DefRec} {Fc : World → Frag → Prop} {sp : Frag → Sp} {x nm : Str}
    (hn : l.most = some n) (hn2 : n ≤ sizeLine) (hdf : d.params.defaults = []) (hr : Room k callerA) (hnm : d.name = nm)
    (F : ∀ (w : World) (K : Frag) (mg : Str → Option Value) (fa : Addr) (h : Heap), Fc w K → K.In h → h.Ns mainGlobals mg → mg nm = some (.ref fa) →
      ∃ fd : FuncData, (∀ (s : Shared) (u : Value), BindsTo s fd ⟨[u], []⟩ [(x, u)]) ∧ ∀ base : Heap, K.In base → base.Ns mainGlobals mg → FnOk l.prog w K mg base CX0 k fa fd [x] (sp K))
    (hsp : ∀ (K : Frag) (H : Hp) (a : Addr) (ns : List Int), ns.length ≤ n → Only H → SqL K H a (ns.map V.int) → sp K [.ref a] H (fun v _ => v = .bl true) fun _ _ _ => False)
    (hCX : ∀ (H : Hp) (s : Shared) (e : Value) (s' : Shared), CX0 [] H s (fun _ _ _ => False) e s' → False) :
    WalkO q loose XP (fun w h => ∃ K : Frag, K.In h ∧ Fc w K) l.row.toRowW d [] (fun f vs => PySem.call f vs) := by
  refine Att.attach_call hn hdf fun w s₀ s₁ mg mb fa o pm cd doc a vs ns G Y ho hd hcd hmg hobj hints hlen hg => ?_
  obtain ⟨K, KX, fc⟩ := Y
  rw [hnm] at hmg
  obtain ⟨fd, hb, hF⟩ := F w K mg fa _ fc KX G.T.g hmg
  exact law_call KX G.T.g G.T.b G.T.builtins G.T.nolimit hg hobj hints (Nat.le_trans hlen hn2) hr hF hb (fun H hO hS => hsp K H a ns hlen hO hS) fun H e s' => hCX H s₁ e s'
end L2
set_option Elab.async false
set_option linter.all false
set_option maxRecDepth 100000
set_option maxHeartbeats 1000000
namespace L2
open PySem PySem.W PySem.Calls PyProof.Rows
section
variable {w : World} {K : Frag} {h : Heap} {mg : Str → Option Value} {x : Str}
end
end L2
set_option Elab.async false
set_option linter.all false
set_option maxRecDepth 100000
set_option maxHeartbeats 1000000
namespace L2
open PySem PySem.Spec PyProof.Rows
end L2
set_option Elab.async false
set_option linter.all false
set_option maxRecDepth 100000
set_option maxHeartbeats 1000000
namespace L2
open PySem PySem.Spec PyProof.Rows
end L2
set_option Elab.async false
set_option linter.all false
set_option maxRecDepth 100000
set_option maxHeartbeats 1000000
namespace L2
open PySem PySem.Spec PyProof.Rows
section
variable {X : Cx} {pos : Pos}
end
section
variable {X : Cx} {pins : List (Addr × Obj)} {σ : St} {H : Hp} {s : Shared}
end
section
variable {X : Cx}
end
end L2
set_option Elab.async false
set_option linter.all false
set_option maxRecDepth 100000
set_option maxHeartbeats 1000000
namespace L2
open PySem PySem.Spec PyProof.Rows Builtin Builtin.Str
def rep1 (x y z : Str) : Str := if ((occurrences x y 0 x.length 1).isEmpty || (y.length == 0 && z.length == 0)) = true then x else glued z (partsBetween x (occurrences x y 0 x.length 1) y.length)
theorem gives_replace1 (x y z : Str) (t u v w : Tok) (h0 : (u == 0 || v == 0) = false) (huv : (u == v) = false) (hyz : (y == z) = false) (hl : tooLong (x.length + (occurrences x y 0 x.length 1).length * z.length) = false) :
    Gives («str.replace» ⟨[.str x t, .str y u, .str z v, .int 1 w], []⟩) (if ((occurrences x y 0 x.length 1).isEmpty || (y.length == 0 && z.length == 0)) = true then .val (.str x t) else .str (glued z (partsBetween x (occurrences x y 0 x.length 1) y.length))) := by
  show Gives (if ((occurrences x y 0 x.length 1).isEmpty || (y.length == 0 && z.length == 0)) = true then (do rule "str.replace.nothing"; ret (.str x t)) else
          (do let same ← isSame (.str y u) (.str z v)
              if same = true then (do rule "str.replace.old-is-new"; ret (.str x t)) else
              if tooLong (x.length + (occurrences x y 0 x.length 1).length * z.length) = true then unsupported "str.replace:memory" else
              retStr (glued z (partsBetween x (occurrences x y 0 x.length 1) y.length)))) _
  cases hc : ((occurrences x y 0 x.length 1).isEmpty || (y.length == 0 && z.length == 0))
  · rw [isSame_str_other y z u v h0 huv hyz, hl]
    exact .of_eq rfl
  · exact .rule (.of_eq rfl)
section
variable {prog : Program} {w : World} {A : Around} {E : Value → Shared → Prop} {s : Shared} {x y z : Str} {t u v k : Tok} {Q : Value → Shared → Prop}
theorem call_replace1 (hu : u ≠ 0) (hv : v ≠ 0) (huv : u ≠ v) (hyz : (y == z) = false) (hb : x.length ≤ 100000) (hz : z.length ≤ 100) (hr : (rep1 x y z).length ≤ sizeLine)
    (hq : ∀ t' k, Q (.str (rep1 x y z) t') { s with toks := k }) : wpAny (model prog w) A (call (.builtin "str.replace") [.str x t, .str y u, .str z v, .int 1 k]) Q E s := by
  have hl : tooLong (x.length + (occurrences x y 0 x.length 1).length * z.length) = false := by
    have h1 := StrLaws.occ_length_le x y 0 x.length 1
    have h2 : (occurrences x y 0 x.length 1).length * z.length ≤ 1 * 100 := Nat.mul_le_mul h1 hz
    unfold tooLong
    rw [sizeLine_eq]
    exact decide_eq_false (by omega)
  refine call_gives F.slot_str_replace (typeIs_str _ _ _) F.entry_str_replace (F.args_str_replace_4 _ _ _ _) (gives_replace1 x y z t u v k (by simp [hu, hv]) (by simp [huv]) hyz hl) ?_
  unfold rep1 at hq hr
  cases hc : ((occurrences x y 0 x.length 1).isEmpty || (y.length == 0 && z.length == 0))
  · rw [hc] at hq hr
    simp only [Bool.false_eq_true, if_false] at hq hr ⊢
    exact ⟨hr, hq _ _⟩
  · rw [hc] at hq
    simp only [if_true] at hq ⊢
    exact hq t s.toks
end
section
variable {X : Cx}
def PCs (X : Cx) (es : List Expr) (zs : List Str) : Prop := ∀ (pos' : Pos) (E : Value → Shared → Prop) (s : Shared) (Q : List Value → Shared → Prop), (∀ (its : List Value) (k : Nat), Paired (fun z v => ∃ t, v = Value.str z t ∧ s.toks ≤ t) zs its → s.toks ≤ k → Q its { s with toks := k }) → wpAny (model X.prog X.w) X.A (spliced (backTo pos' (starEach es X.env))) Q E s
theorem pcs_nil : PCs X [] [] := fun pos' E s Q h => Calls.spliced_nil (h [] s.toks .nil (Nat.le_refl _))
theorem pcs_cons {z : Str} {j : Nat} {p : Pos} {es : List Expr} {zs : List Str} (h : PCs X es zs) (hs : starEach (.Constant (.str z) j p :: es) X.env = (false, eval (.Constant (.str z) j p) X.env) :: starEach es X.env := by rfl) : PCs X (.Constant (.str z) j p :: es) (z :: zs) := by
  intro pos E s Q h'
  rw [hs]
  show wpAny _ _ (spliced ((false, eval _ X.env) :: backTo pos (starEach es X.env))) _ _ s
  refine Calls.spliced_cons (Calls.Constant_str ?_)
  refine h pos E _ _ fun its k pr le => ?_
  have le' : s.toks + 1 ≤ k := le
  exact h' _ k (.cons ⟨_, rfl, Nat.le_refl _⟩ (Paired.mapP pr fun _ _ ⟨t, e, q⟩ => ⟨t, e, by have : s.toks + 1 ≤ t := q; omega⟩)) (by omega)
theorem ld_var {pins : List (Addr × Obj)} {s : Shared} {σ : St} {H : Hp} {E : Value → Shared → Prop} {i : Nat} {x : Str} {pos : Pos} {v : V} {Q : Value → Shared → Prop} (I : Inv X pins σ H s) (hN : X.N[i]? = some x) (hv : Vis X.env.scope x) (e : σ[i]? = some (some v)) (h : ∀ u, RelV v u → Q u s)
    (hd : (x == ("__debug__" : Str)) = false := by decide) (hcd : (x == ("__classdict__" : Str)) = false := by decide) : wpAny (model X.prog X.w) X.A (eval (.Name x pos) X.env) Q E s := by
  obtain ⟨m, hn, hl⟩ := I.loc
  obtain ⟨u, r, l⟩ := hl i x v hN e hv
  rcases l with ⟨hk, hm⟩ | ⟨hk, c, hc, hcell⟩
  · exact wpAny_Name (wpAny_loadName_local I.ok.kind hk hn hm (h u r)) hd
  · rcases hk with hk | hk
    · exact wpAny_Name (wpAny_loadName_cell I.ok.kind hk hc hcell (h u r)) hd
    · exact wpAny_Name (wpAny_loadName_free I.ok.kind hk hc hcell (h u r) hcd) hd
def tIfRep (i o : Nat) (c : Int) (y : Str) (zs : List Str) (tix : TE) : TS := fun D σ H => ∃ z, σ[i]? = some (some (.int z)) ∧ (z = c → ∃ x, σ[o]? = some (some (.str x)) ∧ tix σ H fun v H1 => ∃ (n : Nat) (zz : Str), v = .int n ∧ zs[n]? = some zz ∧ (y == zz) = false ∧ x.length ≤ 100000 ∧ zz.length ≤ 100 ∧ (rep1 x y zz).length ≤ sizeLine ∧ D.rt (.str (rep1 x y zz)) H1) ∧ (z ≠ c → D.nx σ H)
theorem ps_ifRep {i o : Nat} {kx ox : Str} {c : Int} {y : Str} {es : List Expr} {zs : List Str} {ix : Expr} {tix : TE} {j1 j2 j3 : Nat} {p1 p2 p3 p4 p5 p6 p7 p8 p9 p10 apos cpos : Pos} (hi : X.N[i]? = some kx) (hvi : Vis X.env.scope kx) (ho : X.N[o]? = some ox) (hvo : Vis X.env.scope ox) (hcs : PCs X es zs) (hix : PE X ix tix) (hs : PlainIx ix) (hz : zs.length ≤ 100)
    (hd1 : (kx == ("__debug__" : Str)) = false := by decide) (hcd1 : (kx == ("__classdict__" : Str)) = false := by decide) (hd2 : (ox == ("__debug__" : Str)) = false := by decide) (hcd2 : (ox == ("__classdict__" : Str)) = false := by decide)
    (hbase : attributeBase (.Name ox p4) "replace" X.env (eval (.Name ox p4) X.env) = eval (.Name ox p4) X.env := by rfl)
    (hfew : ((backTo cpos (starEach [.Constant (.str y) j2 p5, .Subscript (.List es p6) ix p7, .Constant (.int 1) j3 p8] X.env)).all (fun x => !x.1) && (backToKw cpos (keywordEach [] X.env)).all (fun x => x.1.isSome)
      && decide (([.Constant (.str y) j2 p5, .Subscript (.List es p6) ix p7, .Constant (.int 1) j3 p8] : List Expr).length + ([] : List Keyword).length + (if ([] : List Keyword).isEmpty then 0 else 1) < 30)) = true := by rfl)
    (hline : (apos.endLine == cpos.line) = true := by rfl)
    (htr : backTo cpos (starEach [.Constant (.str y) j2 p5, .Subscript (.List es p6) ix p7, .Constant (.int 1) j3 p8] X.env) = [(false, eval (.Constant (.str y) j2 p5) X.env), (false, eval (.Subscript (.List es p6) ix p7) X.env), (false, eval (.Constant (.int 1) j3 p8) X.env)] := by rfl) :
    PS X (.If (.Compare (.Name kx p1) [.Eq] [.Constant (.int c) j1 p2] p3) [.Return (some (.Call (.Attribute (.Name ox p4) "replace" apos) [.Constant (.str y) j2 p5, .Subscript (.List es p6) ix p7, .Constant (.int 1) j3 p8] [] cpos)) p9] [] p10) (tIfRep i o c y zs tix) := by
  intro pins s σ H D I h
  obtain ⟨z, ez, h1, h2⟩ := h
  refine wpAny_If (wpAny_isTrue_Compare1 (ld_var I hi hvi ez (fun u ru => ?_) hd1 hcd1) (nobehind _ (by decide) (by decide)))
  obtain ⟨t, rfl⟩ := ru
  refine wpAny_Constant_int (eq_int (wpAny_truthy_bool ?_))
  have I1 : Inv X pins σ H { s with toks := s.toks + 1 } := I.tok _
  cases hb : (z == c) with
  | false => exact wpAny_execs_nil ⟨σ, H, I1, h2 (by simpa using hb)⟩
  | true =>
    obtain ⟨x, ex, h3⟩ := h1 (by simpa using hb)
    refine wpAny_execs_cons (wpAny_Return_some (wpAny_Call_method_late hbase hfew hline htr (ld_var I1 ho hvo ex (fun u ru => ?_) hd2 hcd2)))
    obtain ⟨tx, rfl⟩ := ru
    refine ⟨"str", "str.replace", PySem.F.plainAttrs_str, PySem.F.slot_str_replace, PySem.F.type_str_replace, typeIs_str _ _ _, (fun a e => by cases e), ?_⟩
    refine Calls.callWith_builtin rfl (Calls.evalArgs_plain (Calls.spliced_cons (Calls.Constant_str ?_)))
    refine Calls.spliced_cons (Subscript_ (wpAny_List_spliced (hcs _ _ _ _ fun its k pr le => ⟨?_, ?_⟩)))
    · rw [← pr.length]; exact Nat.le_trans hz (small (m := 1000) (by omega))
    have s1h : ∀ b o, s.heap.get? b = some o → (s.heap.push { cls := .type "list", data := .seq its.toArray }).get? b = some o := fun b o e => Heap.get?_push_of_some _ e
    have I2 : Inv X pins σ H { s with heap := s.heap.push { cls := .type "list", data := .seq its.toArray }, toks := k } := I.kept s1h
    have here : (s.heap.push { cls := .type "list", data := .seq its.toArray }).get? s.heap.objs.size = some { cls := .type "list", data := .seq its.toArray } := Heap.get?_push_size _ rfl
    have I3 := I2.pinned (fp := [s.heap.objs.size]) (fun b hb => by rw [List.mem_singleton.mp hb]; exact I.fpOk (Nat.le_refl _) (I.hok.fresh (Nat.le_refl _))) (fun b hb => by
      rw [List.mem_singleton.mp hb]
      exact ⟨_, here, fun v e => by cases e⟩)
    refine thn (hix _ _ σ H _ I3 h3) fun iv s3 hm0 => ?_
    obtain ⟨v, H1, I4, rv, n, zz, rfl, hn, hyz, hx, hzz, hr, q⟩ := hm0
    obtain ⟨ti, rfl⟩ := rv
    have pin : s3.heap.get? s.heap.objs.size = some { cls := .type "list", data := .seq its.toArray } := (I4.pin (s.heap.objs.size, { cls := .type "list", data := .seq its.toArray }) (by
      refine List.mem_append_right _ (List.mem_append_right _ ?_)
      unfold pinsAt
      simp [here])).1
    have il : s3.heap.IsList s.heap.objs.size its.toArray := ⟨_, pin, rfl, _, rfl⟩
    obtain ⟨it, hit, tz, rfl, htz⟩ := L2.Paired.at pr hn
    have nl : n < 100 := by have := (List.getElem?_eq_some_iff.mp hn).1; omega
    refine item_listR il (by omega) (by omega) (by simpa using hit) ?_ (hs _ _)
    refine Calls.spliced_cons (wpAny_Constant_int (Calls.spliced_nil ?_))
    have I5 := I4.unpinned
    have tz' : s.toks + 1 + 1 ≤ tz := htz
    have hu : s.toks + 1 ≠ 0 := by omega
    have hv : tz ≠ 0 := fun e => by
      rw [e] at tz'
      exact absurd tz' (Nat.not_succ_le_zero _)
    have huv : s.toks + 1 ≠ tz := fun e => by
      rw [← e] at tz'
      exact absurd tz' (Nat.not_succ_le_self _)
    exact call_replace1 hu hv huv hyz hx hzz hr fun t' k' => ⟨.str (rep1 x y zz), σ, H1, I5.tok _, ⟨_, rfl⟩, q⟩
end
def repS (x : Str) (n : Int) : Str := ⟨(List.replicate n.toNat x.cps).foldl (· ++ ·) #[]⟩
theorem op_mul_str {X : Cx} : OpR X (binaryOp .Mult) (fun x y H Q => ∃ (z : Str) (n : Int), x = .str z ∧ y = .int n ∧ 1 < n ∧ n ≤ 100 ∧ 1 ≤ z.length ∧ z.length ≤ 1000 ∧ (repS z n).length ≤ sizeLine ∧ Q (.str (repS z n)) H) := by
  intro pins s σ H x y v u Q I rx ry h
  obtain ⟨z, n, rfl, rfl, n1, n2, z1, z2, hr, q⟩ := h
  obtain ⟨t, rfl⟩ := rx
  obtain ⟨t', rfl⟩ := ry
  have e1 : (n == 1 || z.length == 0) = false := by simp; omega
  refine PySem.P.mul_str (by simp; omega) (fun _ _ => by
    have h1 : (z.length : Int) * n ≤ 2 ^ 63 - 1 := Int.le_trans (Int.mul_le_mul (show (z.length : Int) ≤ 1000 by omega) n2 (by omega) (by decide)) (by decide)
    have := Int.le_ediv_of_mul_le (by omega) h1
    omega) (fun _ _ => ?_) ?_
  · unfold tooLong
    rw [sizeLine_eq]
    refine decide_eq_false ?_
    have : z.length * n.toNat ≤ 1000 * 100 := Nat.mul_le_mul z2 (by omega)
    omega
  · rw [if_neg (by omega), e1]
    exact ⟨hr, .str (repS z n), H, I.tok _, ⟨_, rfl⟩, q⟩
section
variable {X : Cx} {K : PySem.W.Frag}
theorem call_isiEK (hK : X.K = K) : CallR X (.builtin "isinstance") (fun xs H Q => ∃ e C D b, xs = [.ref e, .ref D] ∧ H e = some (xcO e C) ∧ XcK K C ∧ PySem.W.kitOne K (.ref C) (.ref D) = some b ∧ Q (.bl b) H) := by subst hK; exact call_isiE
theorem call_isiVK {T : String} (hK : X.K = K) : CallR X (.builtin "isinstance") (fun xs H Q => ∃ e C b, xs = [.ref e, .ty T] ∧ H e = some (xcO e C) ∧ XcK K C ∧ PySem.W.kitOne K (.ref C) (.type T) = some b ∧ Q (.bl b) H) := by subst hK; exact call_isiV
theorem call_isiTK (hK : X.K = K) : CallR X (.builtin "isinstance") (fun xs H Q => ∃ e C tp, ∃ cs : List Addr, xs = [.ref e, .ref tp] ∧ H e = some (xcO e C) ∧ XcK K C ∧ H tp = some (.tup (cs.map V.ref)) ∧ (∀ c ∈ cs, PySem.W.kitOne K (.ref C) (.ref c) = some false) ∧ Q (.bl false) H) := by subst hK; exact call_isiT
end
end L2
set_option Elab.async false
set_option linter.all false
set_option maxRecDepth 100000
set_option maxHeartbeats 4000000
namespace L2
open PySem PySem.Spec PyProof.Rows
inductive Lits : List Expr → List Str → Prop where
  | nil : Lits [] []
  | cons {z : Str} {p : Pos} {es : List Expr} {zs : List Str} (h : Lits es zs) : Lits (.Constant (.str z) 0 p :: es) (z :: zs)
def tLits (zs : List Str) : TA := fun _ H Q => Q (zs.map V.str) H
theorem pa_lits {X : Cx} {es : List Expr} {zs : List Str} (h : Lits es zs) : PA X es (tLits zs) := by
  induction h with
  | nil => exact pa_nil
  | @cons z p es zs _ ih => exact pa_cons (e := .Constant (.str z) 0 p) (es := es) (te := tC _) pe_str ih rfl
theorem pe_strs {X : Cx} {es : List Expr} {zs : List Str} {pos : Pos} (h : Lits es zs) : PE X (.List es pos) (tLst (tLits zs)) := pe_lst (pa_lits h)
structure QA (X : Cx) (es : List Expr) (t : TA) : Prop where
  h : PA X es t
theorem qa_nil {X : Cx} : QA X [] tNil := ⟨pa_nil⟩
theorem qa_cons {X : Cx} {e : Expr} {es : List Expr} {te : TE} {t : TA} (he : PE X e te) (hr : QA X es t) (hs : starEach (e :: es) X.env = (false, eval e X.env) :: starEach es X.env := by rfl) : QA X (e :: es) (tCons te t) := ⟨pa_cons he hr.h hs⟩
theorem qa_weak {X : Cx} {es : List Expr} {t t' : TA} (h : QA X es t) (k : ∀ σ H Q, t' σ H Q → t σ H Q) : QA X es t' := ⟨fun pos pins s σ H Q I h' => h.h pos pins s σ H Q I (k σ H Q h')⟩
theorem pe_lstQ {X : Cx} {es : List Expr} {t : TA} {pos : Pos} (h : QA X es t) : PE X (.List es pos) (tLst t) := pe_lst h.h
theorem pcs_lits {X : Cx} {es : List Expr} {zs : List Str} (h : Lits es zs) : PCs X es zs := by
  induction h with
  | nil => exact pcs_nil
  | @cons z p es zs _ ih => exact pcs_cons ih rfl
def putL (s : Stmt) (L : List Expr) : Stmt := match s with
  | .If t [.Assign tg (.Subscript (.List _ p) i q) r] o u => .If t [.Assign tg (.Subscript (.List L p) i q) r] o u
  | .If t [.Assign tg (.List _ p) r, s2] o u => .If t [.Assign tg (.List L p) r, s2] o u
  | s => s
def getL (s : Stmt) : List Expr := match s with
  | .If _ [.Assign _ (.Subscript (.List l _) _ _) _] _ _ => l
  | .If _ [.Assign _ (.List l _) _, _] _ _ => l
  | _ => []
def stN (s : Stmt) (k : Nat) : Stmt := (defBody s).getD k (.Pass ⟨0, 0, 0, 0⟩)
end L2
set_option Elab.async false
set_option linter.all false
set_option maxRecDepth 100000
set_option maxHeartbeats 4000000
namespace L2
open PySem PySem.Spec PyProof.Rows
def isL (c : Nat) : Bool := decide (97 ≤ c) && decide (c ≤ 122)
def isG (c : Nat) : Bool := decide (48 ≤ c) && decide (c ≤ 57)
structure NameL (l : List Nat) : Prop where
  one : 1 ≤ l.length
  few : l.length ≤ 8
  all : ∀ c ∈ l, isL c = true
def wL (ws : List (List Nat)) : List Nat := (ws.map (32 :: ·)).flatten
theorem wL_cons (w : List Nat) (ws : List (List Nat)) : wL (w :: ws) = 32 :: (w ++ wL ws) := rfl
end L2
set_option Elab.async false
set_option linter.all false
set_option maxRecDepth 100000
set_option maxHeartbeats 4000000
namespace L2
open PySem PySem.Spec PyProof.Rows
end L2
set_option Elab.async false
set_option linter.all false
set_option maxRecDepth 100000
set_option maxHeartbeats 4000000
namespace L2
open PySem PySem.Spec PyProof.Rows
def preG (ps : List (List Nat)) : List Nat := (ps.map (· ++ [59, 32])).flatten
theorem flatG_mid : ∀ (as : List (List Nat)) (p : List Nat) (bs : List (List Nat)), flatL [59, 32] (as ++ p :: bs) = preG as ++ flatL [59, 32] (p :: bs)
  | [], _, _ => rfl
  | [a], p, bs => by
    show a ++ [59, 32] ++ flatL [59, 32] (p :: bs) = (a ++ [59, 32]) ++ [] ++ flatL [59, 32] (p :: bs)
    rw [List.append_nil]
  | a :: b :: as, p, bs => by
    show a ++ [59, 32] ++ flatL [59, 32] (b :: as ++ p :: bs) = (a ++ [59, 32]) ++ preG (b :: as) ++ flatL [59, 32] (p :: bs)
    rw [flatG_mid (b :: as) p bs, List.append_assoc, List.append_assoc, List.append_assoc]
theorem flatG_head (p : List Nat) (bs : List (List Nat)) : ∃ t, flatL [59, 32] (p :: bs) = p ++ t ∧ (t = [] ∨ ∃ r, t = 59 :: r) := by
  cases bs with
  | nil => exact ⟨[], (List.append_nil p).symm, .inl rfl⟩
  | cons b bs => exact ⟨59 :: 32 :: flatL [59, 32] (b :: bs), by show p ++ [59, 32] ++ flatL [59, 32] (b :: bs) = _; rw [List.append_assoc]; rfl, .inr ⟨_, rfl⟩⟩
theorem rep_two {a b s : List Nat} {c : Nat} {y : Str} (hy : y.cps.toList = c :: s) (hc : c ∉ a) (zz : Str) : (rep1 ⟨(a ++ (c :: s) ++ b).toArray⟩ y zz).cps.toList = a ++ zz.cps.toList ++ b := by
  have hyl : y.length = s.length + 1 := by rw [str_len, hy]; rfl
  have hl : (⟨(a ++ (c :: s) ++ b).toArray⟩ : Str).length = a.length + (s.length + 1) + b.length := by
    rw [str_len]
    show (a ++ (c :: s) ++ b).length = _
    rw [List.length_append, List.length_append, List.length_cons]
  have here : StrLaws.At (⟨(a ++ (c :: s) ++ b).toArray⟩ : Str) y (⟨(a ++ (c :: s) ++ b).toArray⟩ : Str).length a.length := by
    rw [at_iff, hy]
    show a.length + (c :: s).length ≤ (a ++ (c :: s) ++ b).length ∧ ((a ++ (c :: s) ++ b).drop a.length).take (c :: s).length = c :: s
    refine ⟨by rw [List.length_append, List.length_append]; omega, ?_⟩
    rw [List.append_assoc, List.drop_left, List.take_left]
  unfold rep1
  have le := StrLaws.occ_length_le (⟨(a ++ (c :: s) ++ b).toArray⟩ : Str) y 0 (⟨(a ++ (c :: s) ++ b).toArray⟩ : Str).length 1
  rcases StrLaws.occ_head (⟨(a ++ (c :: s) ++ b).toArray⟩ : Str) y 1 (by omega) with ⟨h0, hn⟩ | ⟨i, r, h0, hi, hn⟩
  · exact absurd here (hn a.length)
  · rw [h0] at le ⊢
    have er : r = [] := List.length_eq_zero_iff.mp (by rw [List.length_cons] at le; omega)
    subst er
    have hi' : (a ++ (c :: s) ++ b)[i]? = some c := at_first hy hi
    have e : i = a.length := by
      rcases Nat.lt_trichotomy i a.length with h | h | h
      · rw [List.append_assoc, List.getElem?_append_left h] at hi'
        exact absurd (List.mem_of_getElem? hi') hc
      · exact h
      · exact absurd here (hn _ h)
    subst e
    rw [if_neg (by rw [hyl]; simp)]
    rw [StrLaws.partsBetween_eq, StrLaws.glued_eq_join, StrLaws.partsFrom.eq_2, StrLaws.partsFrom.eq_1, Str.join.eq_3 _ _ _ (fun z => by cases z), app_list, app_list]
    show _ ++ _ ++ (Builtin.Str.strSub _ _ _).cps.toList = _
    rw [sub_list, sub_list, hl, hyl]
    show (((a ++ (c :: s) ++ b).drop 0).take (a.length - 0)) ++ _ ++ (((a ++ (c :: s) ++ b).drop (a.length + (s.length + 1))).take _) = _
    have e1 : ((a ++ (c :: s) ++ b).drop 0).take (a.length - 0) = a := by rw [List.drop_zero, Nat.sub_zero, List.append_assoc, List.take_left]
    have e2 : (a ++ (c :: s) ++ b).drop (a.length + (s.length + 1)) = b := by
      have : a.length + (s.length + 1) = (a ++ (c :: s)).length := by rw [List.length_append, List.length_cons]
      rw [this, List.drop_left]
    rw [e1, e2, List.take_of_length_le (by omega)]
end L2
set_option Elab.async false
set_option linter.all false
set_option maxRecDepth 100000
set_option maxHeartbeats 4000000
namespace L2
open PySem PySem.Spec PyProof.Rows
inductive Ap where
  | t0 | t1 | nm (k : Nat) | sg | bl | wn (k : Nat) | co | mi | zr | dg (k : Nat) | sc | dead
  deriving DecidableEq
def stepP : Ap → Nat → Ap
  | .t0, c => if isL c = true then .nm 1 else .dead
  | .t1, c => if isL c = true then .nm 1 else .dead
  | .nm k, c => if isL c = true then (if k < 8 then .nm (k + 1) else .dead) else if c = 43 then .sg else if c = 45 then .sg else .dead
  | .sg, c => if c = 32 then .bl else if c = 59 then .sc else .dead
  | .bl, c => if isL c = true then .wn 1 else .dead
  | .wn k, c => if isL c = true then (if k < 8 then .wn (k + 1) else .dead) else if c = 58 then .co else .dead
  | .co, c => if c = 45 then .mi else if c = 48 then .zr else if isG c = true then .dg 1 else .dead
  | .mi, c => if c = 48 then .dead else if isG c = true then .dg 1 else .dead
  | .zr, c => if c = 32 then .bl else if c = 59 then .sc else .dead
  | .dg k, c => if isG c = true then (if k < 60 then .dg (k + 1) else .dead) else if c = 32 then .bl else if c = 59 then .sc else .dead
  | .sc, c => if c = 32 then .t1 else .dead
  | .dead, _ => .dead
def runP (q : Ap) (l : List Nat) : Ap := l.foldl stepP q
def accP : Ap → Bool
  | .t0 => true | .sg => true | .zr => true | .dg _ => true | _ => false
def midP : Ap → Bool
  | .sg => true | .zr => true | .dg _ => true | _ => false
theorem runp_app (q : Ap) (a b : List Nat) : runP q (a ++ b) = runP (runP q a) b := List.foldl_append
theorem runp_cons (q : Ap) (c : Nat) (l : List Nat) : runP q (c :: l) = runP (stepP q c) l := rfl
theorem runp_dead : ∀ l, runP .dead l = .dead
  | [] => rfl
  | _ :: l => runp_dead l
theorem midP_acc {q : Ap} (h : midP q = true) : accP q = true := by cases q <;> first | rfl | cases h
theorem midP_32 {q : Ap} (h : midP q = true) : stepP q 32 = .bl := by cases q <;> first | rfl | (cases h; done)
theorem midP_59 {q : Ap} (h : midP q = true) : stepP q 59 = .sc := by cases q <;> first | rfl | (cases h; done)
theorem midP_10 {q : Ap} (h : midP q = true) : stepP q 10 = .dead := by cases q <;> first | rfl | (cases h; done)
theorem midP_44 {q : Ap} (h : midP q = true) : stepP q 44 = .dead := by cases q <;> first | rfl | (cases h; done)
theorem runp_nm : ∀ (l : List Nat) (k : Nat), (∀ c ∈ l, isL c = true) → k + l.length ≤ 8 → runP (.nm k) l = .nm (k + l.length)
  | [], _, _, _ => rfl
  | c :: l, k, h, hk => by
    have hk' : k + (l.length + 1) ≤ 8 := hk
    rw [runp_cons]
    have e : stepP (.nm k) c = .nm (k + 1) := by
      show (if isL c = true then (if k < 8 then Ap.nm (k + 1) else .dead) else _) = _
      rw [if_pos (h c List.mem_cons_self), if_pos (by omega)]
    rw [e, runp_nm l (k + 1) (fun d hd => h d (List.mem_cons_of_mem _ hd)) (by omega), List.length_cons]
    congr 1; omega
theorem runp_wn : ∀ (l : List Nat) (k : Nat), (∀ c ∈ l, isL c = true) → k + l.length ≤ 8 → runP (.wn k) l = .wn (k + l.length)
  | [], _, _, _ => rfl
  | c :: l, k, h, hk => by
    have hk' : k + (l.length + 1) ≤ 8 := hk
    rw [runp_cons]
    have e : stepP (.wn k) c = .wn (k + 1) := by
      show (if isL c = true then (if k < 8 then Ap.wn (k + 1) else .dead) else _) = _
      rw [if_pos (h c List.mem_cons_self), if_pos (by omega)]
    rw [e, runp_wn l (k + 1) (fun d hd => h d (List.mem_cons_of_mem _ hd)) (by omega), List.length_cons]
    congr 1; omega
theorem runp_dg : ∀ (l : List Nat) (k : Nat), (∀ c ∈ l, isG c = true) → k + l.length ≤ 60 → runP (.dg k) l = .dg (k + l.length)
  | [], _, _, _ => rfl
  | c :: l, k, h, hk => by
    have hk' : k + (l.length + 1) ≤ 60 := hk
    rw [runp_cons]
    have e : stepP (.dg k) c = .dg (k + 1) := by
      show (if isG c = true then (if k < 60 then Ap.dg (k + 1) else .dead) else _) = _
      rw [if_pos (h c List.mem_cons_self), if_pos (by omega)]
    rw [e, runp_dg l (k + 1) (fun d hd => h d (List.mem_cons_of_mem _ hd)) (by omega), List.length_cons]
    congr 1; omega
def ahp (q : Ap) : Prop := q = .t0 ∨ q = .t1
theorem runp_name {q : Ap} (hq : ahp q) {l : List Nat} (h : NameL l) : ∃ k, runP q l = .nm k ∧ 1 ≤ k ∧ k ≤ 8 := by
  obtain ⟨h1, h2, h3⟩ := h
  cases l with
  | nil => simp at h1
  | cons c l =>
    have h2' : l.length + 1 ≤ 8 := h2
    rw [runp_cons]
    have e : stepP q c = .nm 1 := by rcases hq with rfl | rfl <;> exact if_pos (h3 c List.mem_cons_self)
    rw [e, runp_nm l 1 (fun d hd => h3 d (List.mem_cons_of_mem _ hd)) (by omega)]
    exact ⟨_, rfl, by omega, by omega⟩
theorem runp_way {l : List Nat} (h : NameL l) : ∃ k, runP .bl l = .wn k ∧ 1 ≤ k ∧ k ≤ 8 := by
  obtain ⟨h1, h2, h3⟩ := h
  cases l with
  | nil => simp at h1
  | cons c l =>
    have h2' : l.length + 1 ≤ 8 := h2
    rw [runp_cons]
    have e : stepP .bl c = .wn 1 := if_pos (h3 c List.mem_cons_self)
    rw [e, runp_wn l 1 (fun d hd => h3 d (List.mem_cons_of_mem _ hd)) (by omega)]
    exact ⟨_, rfl, by omega, by omega⟩
structure FigL (l : List Nat) : Prop where
  one : 1 ≤ l.length
  few : l.length ≤ 60
  all : ∀ c ∈ l, isG c = true
  lead : l = [48] ∨ ∀ r, l ≠ 48 :: r
def AmtL (l : List Nat) : Prop := FigL l ∨ ∃ r, l = 45 :: r ∧ FigL r ∧ r ≠ [48]
theorem runp_figs {q : Ap} (hq : q = .co ∨ q = .mi) {l : List Nat} (h : FigL l) (h0 : q = .mi → l ≠ [48]) : midP (runP q l) = true := by
  obtain ⟨h1, h2, h3, h4⟩ := h
  cases l with
  | nil => simp at h1
  | cons c l =>
    have h2' : l.length + 1 ≤ 60 := h2
    have hc := h3 c List.mem_cons_self
    by_cases c0 : c = 48
    · subst c0
      rcases h4 with h4 | h4
      · injection h4 with _ h4
        subst h4
        rcases hq with rfl | rfl
        · rfl
        · exact absurd rfl (h0 rfl)
      · exact absurd rfl (h4 l)
    · have c45 : c ≠ 45 := fun e => by rw [e] at hc; exact absurd hc (by decide)
      rw [runp_cons]
      have e : stepP q c = .dg 1 := by
        rcases hq with rfl | rfl
        · show (if c = 45 then Ap.mi else if c = 48 then .zr else if isG c = true then .dg 1 else .dead) = _
          rw [if_neg c45, if_neg c0, if_pos hc]
        · show (if c = 48 then Ap.dead else if isG c = true then .dg 1 else .dead) = _
          rw [if_neg c0, if_pos hc]
      rw [e, runp_dg l 1 (fun d hd => h3 d (List.mem_cons_of_mem _ hd)) (by omega)]
      rfl
theorem runp_amt {l : List Nat} (h : AmtL l) : midP (runP .co l) = true := by
  rcases h with h | ⟨r, rfl, h, h0⟩
  · exact runp_figs (.inl rfl) h (fun z => by cases z)
  · rw [runp_cons]
    exact runp_figs (.inr rfl) h fun _ => h0
def WayL (l : List Nat) : Prop := ∃ nm am, NameL nm ∧ AmtL am ∧ l = nm ++ 58 :: am
theorem runp_wl {l : List Nat} (h : WayL l) : midP (runP .bl l) = true := by
  obtain ⟨nm, am, h1, h2, rfl⟩ := h
  obtain ⟨k, ek, _⟩ := runp_way h1
  rw [runp_app, ek, runp_cons]
  exact runp_amt h2
theorem runp_ways : ∀ (ws : List (List Nat)) (q : Ap), midP q = true → (∀ m ∈ ws, WayL m) → midP (runP q (wL ws)) = true
  | [], _, h, _ => h
  | m :: ms, q, h, hm => by
    rw [wL_cons, runp_cons, midP_32 h, runp_app]
    exact runp_ways ms _ (runp_wl (hm m List.mem_cons_self)) fun x hx => hm x (List.mem_cons_of_mem _ hx)
structure PPartL (p : List Nat) : Prop where
  ex : ∃ nm s ws, NameL nm ∧ (s = 43 ∨ s = 45) ∧ (∀ w ∈ ws, WayL w) ∧ p = nm ++ s :: wL ws
theorem runp_sign {k : Nat} {s : Nat} (h : s = 43 ∨ s = 45) : stepP (.nm k) s = .sg := by rcases h with rfl | rfl <;> rfl
theorem runp_part {q : Ap} (hq : ahp q) {p : List Nat} (h : PPartL p) : midP (runP q p) = true := by
  obtain ⟨nm, s, ws, h1, h2, h4, rfl⟩ := h.ex
  obtain ⟨k, ek, _⟩ := runp_name hq h1
  rw [runp_app, ek, runp_cons, runp_sign h2]
  exact runp_ways ws _ rfl h4
theorem runp_pre : ∀ (ps : List (List Nat)) (q : Ap), ahp q → (∀ p ∈ ps, PPartL p) → ahp (runP q (preG ps))
  | [], _, h, _ => h
  | p :: ps, q, h, hp => by
    have e : preG (p :: ps) = p ++ 59 :: 32 :: preG ps := by
      show (p ++ [59, 32]) ++ preG ps = _
      rw [List.append_assoc]; rfl
    rw [e, runp_app, runp_cons, midP_59 (runp_part h (hp p List.mem_cons_self)), runp_cons]
    exact runp_pre ps .t1 (.inr rfl) fun x hx => hp x (List.mem_cons_of_mem _ hx)
theorem runp_parts {ps : List (List Nat)} {q : Ap} (hq : ahp q) (hne : ps ≠ []) (h : ∀ p ∈ ps, PPartL p) : midP (runP q (flatL [59, 32] ps)) = true := by
  obtain ⟨as, l, rfl⟩ : ∃ as l, ps = as ++ [l] := ⟨ps.dropLast, ps.getLast hne, (List.dropLast_concat_getLast hne).symm⟩
  rw [flatG_mid as l [], runp_app]
  exact runp_part (runp_pre as q hq fun p hp => h p (List.mem_append_left _ hp)) (h l (List.mem_append_right _ (List.mem_singleton.mpr rfl)))
def stopP (q : Ap) : Prop := q = .dead ∨ q = .bl ∨ q = .sc ∨ q = .t1 ∨ q = .co ∨ q = .mi ∨ (∃ k, q = .nm k) ∨ ∃ k, q = .wn k
theorem stopp_59 {q : Ap} (h : stopP q) : stepP q 59 = .dead := by
  rcases h with rfl | rfl | rfl | rfl | rfl | rfl | ⟨k, rfl⟩ | ⟨k, rfl⟩ <;> rfl
theorem stopp_acc {q : Ap} (h : stopP q) : accP q = false := by
  rcases h with rfl | rfl | rfl | rfl | rfl | rfl | ⟨k, rfl⟩ | ⟨k, rfl⟩ <;> rfl
theorem stopp_suf {q : Ap} (h : stopP q) {suf : List Nat} (hs : suf = [] ∨ ∃ r, suf = 59 :: r) : stopP (runP q suf) := by
  rcases hs with rfl | ⟨r, rfl⟩
  · exact h
  · rw [runp_cons, stopp_59 h, runp_dead]; exact .inl rfl
theorem badP_part {as : List (List Nat)} {p : List Nat} {bs : List (List Nat)} {q : Ap} (hq : ahp q) (ha : ∀ x ∈ as, PPartL x) (hp : ∀ r, ahp r → stopP (runP r p)) (suf : List Nat) (hs : suf = [] ∨ ∃ r, suf = 59 :: r) : accP (runP q (flatL [59, 32] (as ++ p :: bs) ++ suf)) = false := by
  obtain ⟨t, et, ht⟩ := flatG_head p bs
  rw [flatG_mid, et, runp_app, runp_app, runp_app]
  exact stopp_acc (stopp_suf (stopp_suf (hp _ (runp_pre as q hq ha)) ht) hs)
end L2
set_option Elab.async false
set_option linter.all false
set_option maxRecDepth 100000
set_option maxHeartbeats 4000000
namespace Law
open PySem L2
def top (i : Nat) : Stmt := PySem.Challenge.pw_rankgarth_k71_texts_of_purse_games_refus.main.body.getD i (.Pass ⟨0, 0, 0, 0⟩)
abbrev s_is_whole : Stmt := top 9
abbrev s_is_place : Stmt := top 10
abbrev s_check_hand : Stmt := top 11
abbrev s_check_ways : Stmt := top 12
abbrev s_check_purse_ways : Stmt := top 15
abbrev s_check_amounts : Stmt := top 16
abbrev s_check_purse_rows : Stmt := top 17
abbrev s_purse_game : Stmt := top 18
abbrev s_is_made_of : Stmt := top 25
abbrev s_is_name : Stmt := top 26
abbrev s_is_figures : Stmt := top 27
abbrev s_is_amount : Stmt := top 28
abbrev s_check_form : Stmt := top 29
abbrev s_places_told : Stmt := top 30
abbrev s_read_head : Stmt := top 31
abbrev s_read_purse_way : Stmt := top 32
abbrev s_read_purse_place : Stmt := top 33
abbrev s_numbered : Stmt := top 34
abbrev s_number_of : Stmt := top 35
abbrev s_read_purses : Stmt := top 36
abbrev s_law_cell_at : Stmt := top 38
abbrev s_law_parts : Stmt := top 39
abbrev s_law_text : Stmt := top 40
abbrev s_law_spoiled_text : Stmt := top 41
abbrev s_law_spoiled_rows : Stmt := top 42
abbrev s_law_many : Stmt := top 43
abbrev s_law_marks : Stmt := top 44
abbrev s_law : Stmt := top 45
structure Txt (mg : Str → Option Value) : Prop where
  b_ValueError : mg "ValueError" = none
  b_abs : mg "abs" = none
  b_all : mg "all" = none
  b_bool : mg "bool" = none
  b_dict : mg "dict" = none
  b_enumerate : mg "enumerate" = none
  b_int : mg "int" = none
  b_isinstance : mg "isinstance" = none
  b_len : mg "len" = none
  b_range : mg "range" = none
  b_set : mg "set" = none
  b_sorted : mg "sorted" = none
  b_str : mg "str" = none
  b_tuple : mg "tuple" = none
  g_FIGURES : ∃ t, mg "FIGURES" = some (.str "0123456789" t)
  g_HAND_SIGNS : ∃ t, mg "HAND_SIGNS" = some (.str "+-" t)
  g_LETTERS : ∃ t, mg "LETTERS" = some (.str "abcdefghijklmnopqrstuvwxyz" t)
  g_MOST_AMOUNT_FIGURES : ∃ t, mg "MOST_AMOUNT_FIGURES" = some (.int 60 t)
  g_MOST_LETTERS : ∃ t, mg "MOST_LETTERS" = some (.int 8 t)
  g_MOST_PURSE_PLACES : ∃ t, mg "MOST_PURSE_PLACES" = some (.int 16 t)
abbrev xRs : List Str := ["NoText", "NoName", "NoHand", "NoWay", "NoAmount", "TooMany"]
abbrev xNs : List Str := ["NoText", "NoName", "NoWay", "TooMany", "NoAmount", "NoHand"]
theorem sc_is_whole : FnScope ["value"] ["value"] (defScope s_is_whole) := ⟨rfl, rfl, rfl, by decide +kernel, rfl, by decide +kernel, by decide +kernel⟩
theorem sc_is_place : FnScope ["value", "count"] ["value", "count"] (defScope s_is_place) := ⟨rfl, rfl, rfl, by decide +kernel, rfl, by decide +kernel, by decide +kernel⟩
theorem sc_check_hand : FnScope ["hand"] ["hand"] (defScope s_check_hand) := ⟨rfl, rfl, rfl, by decide +kernel, rfl, by decide +kernel, by decide +kernel⟩
theorem sc_check_ways : FnScope ["ways", "count", "way"] ["ways", "count"] (defScope s_check_ways) := ⟨rfl, rfl, rfl, by decide +kernel, rfl, by decide +kernel, by decide +kernel⟩
theorem sc_check_purse_ways : FnScope ["ways", "count", "places"] ["ways", "count"] (defScope s_check_purse_ways) := ⟨rfl, rfl, rfl, by decide +kernel, rfl, by decide +kernel, by decide +kernel⟩
theorem sc_check_amounts : FnScope ["ways", "way"] ["ways"] (defScope s_check_amounts) := ⟨rfl, rfl, rfl, by decide +kernel, rfl, by decide +kernel, by decide +kernel⟩
theorem sc_check_purse_rows : FnScope ["rows", "row"] ["rows"] (defScope s_check_purse_rows) := ⟨rfl, rfl, rfl, by decide +kernel, rfl, by decide +kernel, by decide +kernel⟩
theorem sc_purse_game : FnScope ["rows"] ["rows"] (defScope s_purse_game) := ⟨rfl, rfl, rfl, by decide +kernel, rfl, by decide +kernel, by decide +kernel⟩
theorem sc_is_made_of : FnScope ["word", "signs", "most"] ["word", "signs", "most"] (defScope s_is_made_of) := ⟨rfl, rfl, rfl, by decide +kernel, rfl, by decide +kernel, by decide +kernel⟩
theorem sc_is_name : FnScope ["word"] ["word"] (defScope s_is_name) := ⟨rfl, rfl, rfl, by decide +kernel, rfl, by decide +kernel, by decide +kernel⟩
theorem sc_is_figures : FnScope ["word", "most"] ["word", "most"] (defScope s_is_figures) := ⟨rfl, rfl, rfl, by decide +kernel, rfl, by decide +kernel, by decide +kernel⟩
theorem sc_is_amount : FnScope ["word"] ["word"] (defScope s_is_amount) := ⟨rfl, rfl, rfl, by decide +kernel, rfl, by decide +kernel, by decide +kernel⟩
theorem sc_check_form : FnScope ["right"] ["right"] (defScope s_check_form) := ⟨rfl, rfl, rfl, by decide +kernel, rfl, by decide +kernel, by decide +kernel⟩
theorem sc_places_told : FnScope ["text"] ["text"] (defScope s_places_told) := ⟨rfl, rfl, rfl, by decide +kernel, rfl, by decide +kernel, by decide +kernel⟩
theorem sc_read_head : FnScope ["word", "found", "parts"] ["word"] (defScope s_read_head) := ⟨rfl, rfl, rfl, by decide +kernel, rfl, by decide +kernel, by decide +kernel⟩
theorem sc_read_purse_way : FnScope ["word", "parts"] ["word"] (defScope s_read_purse_way) := ⟨rfl, rfl, rfl, by decide +kernel, rfl, by decide +kernel, by decide +kernel⟩
theorem sc_read_purse_place : FnScope ["text", "words", "head"] ["text"] (defScope s_read_purse_place) := ⟨rfl, rfl, rfl, by decide +kernel, rfl, by decide +kernel, by decide +kernel⟩
theorem sc_numbered : FnScope ["names", "numbers"] ["names"] (defScope s_numbered) := ⟨rfl, rfl, rfl, by decide +kernel, rfl, by decide +kernel, by decide +kernel⟩
theorem sc_number_of : FnScope ["numbers", "name"] ["numbers", "name"] (defScope s_number_of) := ⟨rfl, rfl, rfl, by decide +kernel, rfl, by decide +kernel, by decide +kernel⟩
theorem sc_read_purses : FnScope ["text", "places", "names", "numbers", "rows", "place"] ["text"] (defScope s_read_purses) := ⟨rfl, rfl, rfl, by decide +kernel, rfl, by decide +kernel, by decide +kernel⟩
theorem sc_law_cell_at : FnScope ["_law_script", "_law_k"] ["_law_script", "_law_k"] (defScope s_law_cell_at) := ⟨rfl, rfl, rfl, by decide +kernel, rfl, by decide +kernel, by decide +kernel⟩
theorem sc_law_parts : FnScope ["_law_script", "_law_many_here", "_law_letters", "_law_cell", "_law_size", "_law_at", "_law_names", "_law_k", "_law_word", "_law_j", "_law_parts_here", "_law_first", "_law_amount", "_law_ways"] ["_law_script", "_law_many_here"] (defScope s_law_parts) := ⟨rfl, rfl, rfl, by decide +kernel, rfl, by decide +kernel, by decide +kernel⟩
theorem sc_law_text : FnScope ["_law_parts_here", "_law_some", "_law_part"] ["_law_parts_here"] (defScope s_law_text) := ⟨rfl, rfl, rfl, by decide +kernel, rfl, by decide +kernel, by decide +kernel⟩
theorem sc_law_spoiled_text : FnScope ["_law_parts_here", "_law_kind", "_law_cell", "_law_part", "_law_some", "_law_line"] ["_law_parts_here", "_law_kind", "_law_cell"] (defScope s_law_spoiled_text) := ⟨rfl, rfl, rfl, by decide +kernel, rfl, by decide +kernel, by decide +kernel⟩
theorem sc_law_spoiled_rows : FnScope ["_law_parts_here", "_law_kind", "_law_cell", "_law_at", "_law_other", "_law_used", "_law_names", "_law_ways"] ["_law_parts_here", "_law_kind", "_law_cell"] (defScope s_law_spoiled_rows) := ⟨rfl, rfl, rfl, by decide +kernel, rfl, by decide +kernel, by decide +kernel⟩
theorem sc_law_many : FnScope ["_law_parts_here", "_law_kind", "_law_cell", "_law_letters", "_law_k"] ["_law_parts_here", "_law_kind", "_law_cell"] (defScope s_law_many) := ⟨rfl, rfl, rfl, by decide +kernel, rfl, by decide +kernel, by decide +kernel⟩
theorem sc_law_marks : FnScope ["_law_line", "_law_marks_here", "e"] ["_law_line"] (defScope s_law_marks) := ⟨rfl, rfl, rfl, by decide +kernel, rfl, by decide +kernel, by decide +kernel⟩
theorem sc_law : FnScope ["_law_script", "_law_cell", "_law_parts_here", "_law_good", "_law_kind", "_law_due", "_law_line", "_law_more", "_law_some", "_law_words"] ["_law_script"] (defScope s_law) := ⟨rfl, rfl, rfl, by decide +kernel, rfl, by decide +kernel, by decide +kernel⟩
section
variable {P : Program} {w : World} {K : PySem.W.Frag} {mg : Str → Option Value} {base : Heap}
def spWhole : Sp := fun vs H Q _ => ∃ z : Int, vs = [.int z] ∧ Q (.bl true) H
theorem ok_is_whole (F : DefAt K mg "is_whole" s_is_whole ["value"]) (T : Txt mg) : Dn P w K mg base "is_whole" 1 ["value"] spWhole := by
  have sc := sc_is_whole
  refine F.ok sc (fun vs H Q E h => ?_) (fun f cdv A outer s H vs Q E hr h => ?_)
  · obtain ⟨z, rfl, _⟩ := h; rfl
  obtain ⟨z, rfl, q⟩ := h
  refine ⟨_, (pss_one (ps_ret (pe_and (pe_callB (clIsi (K := K) rfl (T := "int")) rfl T.b_isinstance PyProof.Rows.boot_isinstance (pa_cons (pv 0) (pa_cons (pe_bltn (v := .ty "int") rfl T.b_int PyProof.Rows.boot_int rfl) pa_nil))) (pe_one (pe_not (pe_callB (clIsi (K := K) rfl (T := "bool")) rfl T.b_isinstance PyProof.Rows.boot_isinstance (pa_cons (pv 0) (pa_cons (pe_bltn (v := .ty "bool") rfl T.b_bool PyProof.Rows.boot_bool rfl) pa_nil)))))))), ?_⟩
  refine ⟨_, rfl, _, "int", _, rfl, rfl, isi_same _, true, rfl, ?_⟩
  refine iteT ?_
  exact ⟨_, rfl, _, "int", _, rfl, rfl, isi_int_bool, false, rfl, q⟩
def spPlace : Sp := fun vs H Q _ => ∃ z n : Int, vs = [.int z, .int n] ∧ Q (.bl (decide (0 ≤ z ∧ z < n))) H
theorem ok_is_place (F : DefAt K mg "is_place" s_is_place ["value", "count"]) (T : Txt mg) (D_is_whole : Dn P w K mg base "is_whole" 1 ["value"] spWhole) : Dn P w K mg base "is_place" 2 ["value", "count"] spPlace := by
  have sc := sc_is_place
  refine F.ok sc (fun vs H Q E h => ?_) (fun f cdv A outer s H vs Q E hr h => ?_)
  · obtain ⟨_, _, rfl, _⟩ := h; rfl
  obtain ⟨z, n, rfl, q⟩ := h
  refine ⟨_, (pss_one (ps_ret (pe_and (pe_dn D_is_whole hr (pa_cons (pv 0) pa_nil)) (pe_one (pe_chain op_le op_lt pe_int (pv 0) (pv 1)))))), ?_⟩
  refine ⟨_, rfl, z, rfl, true, rfl, ?_⟩
  refine iteT ?_
  refine ⟨_, rfl, _, _, rfl, rfl, decide (0 ≤ z), rfl, ?_⟩
  refine ite2 (fun c => ?_) (fun c => ?_)
  · have h0 : 0 ≤ z := of_decide_eq_true c
    refine ⟨_, rfl, _, _, rfl, rfl, ?_⟩
    show Q (V.bl (decide (z < n))) H
    have e : decide (z < n) = decide (0 ≤ z ∧ z < n) := by
      by_cases h : z < n
      · rw [decide_eq_true h, decide_eq_true ⟨h0, h⟩]
      · rw [decide_eq_false h, decide_eq_false fun k => h k.2]
    rw [e]; exact q
  · have e : decide (0 ≤ z ∧ z < n) = false := decide_eq_false fun k => c (decide_eq_true k.1)
    rw [e] at q; exact q
def HandOk (z : Int) : Prop := z = 0 ∨ z = 1
def WG (n : Int) (ws : List Int) : Prop := ws ≠ [] ∧ ∀ x ∈ ws, 0 ≤ x ∧ x < n
def spHand (K : PySem.W.Frag) : Sp := fun vs H Q E => ∃ z : Int, vs = [.int z] ∧ (HandOk z → ∀ H', Same H H' → Q .non H') ∧ (¬ HandOk z → ∀ H', Same H H' → E (.ref (clK K "NoHand")) none H')
theorem ok_check_hand (F : DefAt K mg "check_hand" s_check_hand ["hand"]) (T : Txt mg) (XC : XT K mg "GarthError" xRs xNs) (D_is_whole : Dn P w K mg base "is_whole" 1 ["value"] spWhole) : DnX P w K mg base "check_hand" 2 ["hand"] (spHand K) := by
  have sc := sc_check_hand
  refine F.okX sc (fun vs H Q E h => ?_) (fun f cdv A outer s H vs Q E hr h => ?_)
  · obtain ⟨z, rfl, _⟩ := h; rfl
  obtain ⟨z, rfl, q1, q2⟩ := h
  refine ⟨_, (pss_one (ps_if (PW.pt (pw_or (pt_not (pt_val (pe_dn D_is_whole hr (pa_cons (pv 0) pa_nil)))) (pw_or1 (pt_cmpR (notInS (K := K) rfl) (pv 0) (pe_tup (pa_cons pe_int (pa_cons pe_int pa_nil))) rfl))))
      (pss_one (ps_raise raisesR (XC.m "NoHand" (by decide)) (XC.exc "NoHand" (by decide)) (pa_cons pe_str pa_nil)))
      pss_nil)), ?_⟩
  refine ⟨_, rfl, z, rfl, _, rfl, ?_⟩
  refine iteF ?_
  refine ⟨_, rfl, (by show 2 ≤ sizeLine; decide), fun t ht => ?_⟩
  refine ⟨t, _, rfl, .inr (SqT.of upd_same), rfl, rfl, _, rfl, ?_⟩
  show if (!inV (.int z) (([0, 1] : List Int).map V.int)) = true then _ else _
  rw [inV_ints]
  refine ite2 (fun c => ?_) (fun c => ?_)
  · exact ⟨(by show 1 ≤ sizeLine; decide), q2 (fun k => by simp at c; rcases k with k | k <;> omega) _ (same_upd ht _)⟩
  · refine q1 ?_ _ (same_upd ht _)
    have h : ¬ z = 0 → z = 1 := by simpa using c
    by_cases e : z = 0
    · exact .inl e
    · exact .inr (h e)
def spCheckWays (K : PySem.W.Frag) : Sp := fun vs H Q E => ∃ (wa : Addr) (ws : List Int) (n : Int), vs = [.ref wa, .int n] ∧ H wa = some (.lst (ws.map V.int)) ∧ (WG n ws → Q .non H) ∧ (¬ WG n ws → E (.ref (clK K "NoWay")) none H)
theorem ok_check_ways (F : DefAt K mg "check_ways" s_check_ways ["ways", "count"]) (T : Txt mg) (XC : XT K mg "GarthError" xRs xNs) (D_is_place : Dn P w K mg base "is_place" 2 ["value", "count"] spPlace) : DnX P w K mg base "check_ways" 3 ["ways", "count"] (spCheckWays K) := by
  have sc := sc_check_ways
  refine F.okX sc (fun vs H Q E h => ?_) (fun f cdv A outer s H vs Q E hr h => ?_)
  · obtain ⟨_, _, _, rfl, _⟩ := h; rfl
  obtain ⟨wa, ws, n, rfl, hw, q1, q2⟩ := h
  refine ⟨_, (pss_cons (ps_if (pt_cmpR op_eq (pe_callB (clLen (K := K) rfl) rfl T.b_len PySem.boot_len (pa_cons (pv 0) pa_nil)) pe_int (nomark _))
      (pss_one (ps_raise raisesR (XC.m "NoWay" (by decide)) (XC.exc "NoWay" (by decide)) (pa_cons pe_str pa_nil)))
      pss_nil)
      (pss_one (ps_for PassesOwn.leaving rfl (pi_list (pv 0)) (pg_name (i := 2) sc.nd rfl (Or.inl rfl))
      (pss_one (ps_if (pt_not (pt_val (pe_dn D_is_place hr (pa_cons (pv 2) (pa_cons (pv 1) pa_nil)))))
      (pss_one (ps_raise raisesR (XC.m "NoWay" (by decide)) (XC.exc "NoWay" (by decide)) (pa_cons pe_str pa_nil)))
      pss_nil))))), ?_⟩
  have hl : (ws.map V.int).length = ws.length := List.length_map _
  refine ⟨_, rfl, wa, _, rfl, .inl (SqL.of hw), rfl, _, rfl, ?_⟩
  refine ite2 (fun c => ?_) (fun c => ?_)
  · have c' := of_decide_eq_true c
    have c2 : (((ws.map V.int).length : Nat) : Int) = 0 := by injection c'
    refine ⟨(by show 1 ≤ sizeLine; decide), q2 fun k => k.1 (List.length_eq_zero_iff.mp (by omega))⟩
  have hne : ws ≠ [] := fun z => c (by rw [z]; rfl)
  refine ⟨_, rfl, wa, rfl, ⟨_, SqL.of hw⟩, for_list (K := K) (a := wa) (xs := ws.map V.int) (fun i σ H2 => H2 = H ∧ (∃ y : Option V, σ = [some (.ref wa), some (.int n), y]) ∧ ∀ x ∈ ws.take i, 0 ≤ x ∧ x < n) ⟨rfl, ⟨_, rfl⟩, fun _ z => by cases z⟩ (fun i σ H2 _ h => ?_) (fun i x σ H2 hi h => ?_) (fun σ H2 h => ?_)⟩
  · obtain ⟨rfl, _⟩ := h; exact SqL.of hw
  · obtain ⟨rfl, ⟨y, rfl⟩, hk⟩ := h
    obtain ⟨z, hz, rfl⟩ := int_of_at hi
    refine ⟨_, rfl, _, rfl, z, n, rfl, _, rfl, ?_⟩
    refine ite2 (fun c => ?_) (fun c => ?_)
    · exact ⟨(by show 1 ≤ sizeLine; decide), q2 fun k => by have := k.2 z (List.mem_of_getElem? hz); simp [this] at c⟩
    · refine ⟨rfl, ⟨_, rfl⟩, fun x hx => ?_⟩
      rcases (mem_take_snoc hz).mp hx with h | h
      · exact hk x h
      · rw [h]; simpa using c
  · obtain ⟨rfl, _, hk⟩ := h
    rw [List.length_map, List.take_length] at hk
    exact q1 ⟨hne, hk⟩
def PWayOk (n : Nat) (w : Int × Int) : Prop := 0 ≤ w.1 ∧ w.1 < n ∧ -(10 ^ 60) < w.2 ∧ w.2 < 10 ^ 60
def PRowOk (n : Nat) (r : PRow) : Prop := HandOk r.1 ∧ r.2 ≠ [] ∧ (∀ w ∈ r.2, PWayOk n w) ∧ (r.2.map fun w => w.1).Nodup ∧ r.2.length ≤ 60
def PGood (G : List PRow) : Prop := G.length ≤ 16 ∧ ∀ r ∈ G, PRowOk G.length r
theorem pair_at {ts : List (Addr × Int × Int)} {i : Nat} {x : V} (h : (ts.map fun t => V.ref t.1)[i]? = some x) : ∃ t, ts[i]? = some t ∧ x = .ref t.1 := by
  rw [List.getElem?_map] at h
  cases e : ts[i]? with
  | none => rw [e] at h; cases h
  | some t => rw [e] at h; cases h; exact ⟨t, rfl, rfl⟩
def srt (l : List (Int × Int)) : List (Int × Int) := l.mergeSort (fun a b => decide (a.1 ≤ b.1))
theorem srt_perm (l : List (Int × Int)) : (srt l).Perm l := List.mergeSort_perm l _
theorem srt_lt {l : List (Int × Int)} (h : (l.map fun w => w.1).Nodup) : (srt l).Pairwise (fun a b => a.1 < b.1) := by
  have h1 : (srt l).Pairwise (fun a b => decide (a.1 ≤ b.1) = true) := List.pairwise_mergeSort (le := fun a b : Int × Int => decide (a.1 ≤ b.1)) (fun a b c h1 h2 => decide_eq_true (Int.le_trans (of_decide_eq_true h1) (of_decide_eq_true h2))) (fun a b => by rcases Int.le_total a.1 b.1 with h | h <;> simp [h]) l
  have h2 : ((srt l).map fun w => w.1).Nodup := ((srt_perm l).map _).nodup_iff.mpr h
  have h3 : (srt l).Pairwise (fun a b => a.1 ≠ b.1) := by
    unfold List.Nodup at h2
    rwa [List.pairwise_map] at h2
  exact (h1.and h3).imp fun h => by
    have := of_decide_eq_true h.1
    have := h.2
    omega
theorem srt_is {l l' : List (Int × Int)} (h : (l.map fun w => w.1).Nodup) (pm : l'.Perm l) (pw : l'.Pairwise (fun a b => a.1 < b.1)) : l' = srt l := rise_eq (pm.trans (srt_perm l).symm) pw (srt_lt h)
def ptold (G : List PRow) : List PRow := G.map fun r => (r.1, srt r.2)
theorem ptold_len (G : List PRow) : (ptold G).length = G.length := List.length_map _
theorem ptold_at {G : List PRow} {i : Nat} {r : PRow} (h : G[i]? = some r) : (ptold G)[i]? = some (r.1, srt r.2) := by unfold ptold; rw [List.getElem?_map, h]; rfl
def inT (signs : Str) (c : Nat) : Bool := !(Builtin.Str.occurrences signs ⟨#[c]⟩ 0 signs.length 1).isEmpty
def spMade : Sp := fun vs H Q _ => ∃ (z signs : Str) (m : Int), vs = [.str z, .str signs, .int m] ∧ z.length ≤ 100000 ∧ ∀ H', Same H H' → Q (.bl (decide (1 ≤ z.length ∧ (z.length : Int) ≤ m) && z.cps.toList.all (inT signs))) H'
theorem ok_made (F : DefAt K mg "is_made_of" s_is_made_of ["word", "signs", "most"]) (T : Txt mg) : Dn P w K mg base "is_made_of" 1 ["word", "signs", "most"] spMade := by
  have sc := sc_is_made_of
  refine F.ok sc (fun vs H Q E h => ?_) (fun f cdv A outer s H vs Q E hr h => ?_)
  · obtain ⟨_, _, _, rfl, _⟩ := h; rfl
  obtain ⟨z, signs, m, rfl, hz, q⟩ := h
  refine ⟨_, (pss_one (ps_ret (pe_and (pe_chain op_le op_le pe_int (pe_callB call_len_str rfl T.b_len PySem.boot_len (pa_cons (pv 0) pa_nil)) (pv 2)) (pe_one (pe_callB (call_allL rfl) rfl T.b_all PyProof.Rows.boot_all (pa_cons (pe_lc (defScope s_is_made_of) ["word", "signs", "most"] ["sign", "signs"] 1 [1] (pi_str (pv 0)) (fun _ _ _ _ _ _ => (ptg_name (show List.Nodup (["sign", "signs"] : List Str) by decide +kernel) rfl rfl)) (fun _ _ _ _ _ _ => pts_nil) (fun _ _ _ _ _ _ => (pe_cmpR op_in_str (pv 0) (pv 1) rfl))) pa_nil)))))), ?_⟩
  refine ⟨_, rfl, z, rfl, small (m := 100000) hz, _, _, rfl, rfl, ?_⟩
  have fin : decide (1 ≤ z.length ∧ (z.length : Int) ≤ m) = false → Q (.bl false) H := fun e => by
    have := q H (Same.refl _)
    rw [e] at this; exact this
  refine ⟨_, rfl, ?_⟩
  refine ite2 (fun c => ?_) (fun c => ?_)
  · have c1 : (1 : Int) ≤ z.length := of_decide_eq_true c
    refine ⟨_, rfl, _, _, rfl, rfl, _, rfl, ?_⟩
    refine ite2 (fun c => ?_) (fun c => ?_)
    · have c2 : (z.length : Int) ≤ m := of_decide_eq_true c
      refine ⟨_, rfl, z, rfl, comp_strD (z := z) (fun i ys H3 => H3 = H ∧ ys = ((z.cps.toList.take i).map (inT signs)).map V.bl) ⟨rfl, rfl⟩ (small (m := 100000) hz) (fun i ys H3 hi h => ?_) (fun i c ys H3 hi h => ?_) (fun ys H3 h p hp => ?_)⟩
      · obtain ⟨rfl, rfl⟩ := h
        simp; omega
      · obtain ⟨rfl, rfl⟩ := h
        refine comp_yes ?_
        refine ⟨_, rfl, _, rfl, _, _, rfl, rfl, rfl, ?_⟩
        have hi' : z.cps.toList[i]? = some c := by simpa using hi
        rw [List.take_add_one, hi', List.map_append, List.map_append]; rfl
      · obtain ⟨rfl, rfl⟩ := h
        refine ⟨p, _, rfl, SqL.of upd_same, ?_⟩
        have e := q _ (same_upd hp (.lst (((z.cps.toList.take z.cps.size).map (inT signs)).map V.bl)))
        rw [decide_eq_true ⟨by omega, c2⟩, Bool.true_and] at e
        have el : z.cps.toList.take z.cps.size = z.cps.toList := List.take_of_length_le (by simp)
        rw [el] at e ⊢
        rw [show ((z.cps.toList.map (inT signs)).all id) = z.cps.toList.all (inT signs) by rw [List.all_map]; rfl]
        exact e
    · exact fin (decide_eq_false fun h => c (decide_eq_true h.2))
  · refine ⟨_, rfl, ?_⟩
    refine iteF ?_
    exact fin (decide_eq_false fun h => c (decide_eq_true (by have := h.1; omega)))
def isName (z : Str) : Bool := decide (1 ≤ z.length ∧ (z.length : Int) ≤ 8) && z.cps.toList.all (inT "abcdefghijklmnopqrstuvwxyz")
def spName : Sp := fun vs H Q _ => ∃ z : Str, vs = [.str z] ∧ z.length ≤ 100000 ∧ ∀ H', Same H H' → Q (.bl (isName z)) H'
theorem ok_name (F : DefAt K mg "is_name" s_is_name ["word"]) (T : Txt mg) (D_is_made_of : Dn P w K mg base "is_made_of" 1 ["word", "signs", "most"] spMade) : Dn P w K mg base "is_name" 2 ["word"] spName := by
  have sc := sc_is_name
  refine F.ok sc (fun vs H Q E h => ?_) (fun f cdv A outer s H vs Q E hr h => ?_)
  · obtain ⟨_, rfl, _⟩ := h; rfl
  obtain ⟨z, rfl, hz, q⟩ := h
  refine ⟨_, (pss_one (ps_ret (pe_dn D_is_made_of hr (pa_cons (pv 0) (pa_cons (pe_gstr T.g_LETTERS) (pa_cons (pe_gint T.g_MOST_LETTERS) pa_nil)))))), ?_⟩
  exact ⟨_, rfl, z, _, _, rfl, hz, fun H' s' => q _ s'⟩
def isFig (z : Str) (m : Int) : Bool := (decide (1 ≤ z.length ∧ (z.length : Int) ≤ m) && z.cps.toList.all (inT "0123456789")) && (z == "0" || !(z.cps.toList[0]? == some 48))
def spFig : Sp := fun vs H Q _ => ∃ (z : Str) (m : Int), vs = [.str z, .int m] ∧ z.length ≤ 100000 ∧ ∀ H', Same H H' → Q (.bl (isFig z m)) H'
theorem ok_fig (F : DefAt K mg "is_figures" s_is_figures ["word", "most"]) (T : Txt mg) (D_is_made_of : Dn P w K mg base "is_made_of" 1 ["word", "signs", "most"] spMade) : Dn P w K mg base "is_figures" 2 ["word", "most"] spFig := by
  have sc := sc_is_figures
  refine F.ok sc (fun vs H Q E h => ?_) (fun f cdv A outer s H vs Q E hr h => ?_)
  · obtain ⟨_, _, rfl, _⟩ := h; rfl
  obtain ⟨z, m, rfl, hz, q⟩ := h
  refine ⟨_, (pss_one (ps_ret (pe_and (pe_dn D_is_made_of hr (pa_cons (pv 0) (pa_cons (pe_gstr T.g_FIGURES) (pa_cons (pv 1) pa_nil)))) (pe_one (pe_or (pe_cmpR op_eq (pv 0) pe_str (nomark _)) (pe_one (pe_cmpR op_ne (pe_ix ix_str (pv 0) pe_int (fun _ _ => rfl)) pe_str (nomark _)))))))), ?_⟩
  refine ⟨_, rfl, _, rfl, z, _, _, rfl, hz, fun H1 s1 => ?_⟩
  have fin : ∀ b c : Bool, isFig z m = (b && c) → Q (.bl (b && c)) H1 := fun b c e => by rw [← e]; exact q _ s1
  refine ⟨_, rfl, ?_⟩
  refine ite2 (fun c => ?_) (fun c => ?_)
  · have c1 := c
    rw [Bool.and_eq_true] at c1
    have l1 : 1 ≤ z.length := (of_decide_eq_true c1.1).1
    obtain ⟨c0, hc0⟩ : ∃ c0, z.cps.toList[0]? = some c0 := ⟨z.cps.toList[0]'(by rw [Array.length_toList]; exact l1), by simp⟩
    have ef : isFig z m = (z == "0" || !(some c0 == some 48)) := by unfold isFig; rw [c, hc0, Bool.true_and]
    refine ⟨_, rfl, rfl, ?_⟩
    refine ⟨_, rfl, ?_⟩
    refine ite2 (fun d => ?_) (fun d => ?_)
    · have e : z = "0" := by have := of_decide_eq_true d; injection this
      have := q _ s1
      rw [ef, e, show (("0" : Str) == ("0" : Str)) = true from rfl, Bool.true_or] at this; exact this
    · have e : (z == "0") = false := by
        rw [dec_str] at d
        exact Bool.eq_false_iff.mpr d
      refine ⟨_, rfl, z, 0, c0, rfl, rfl, small (m := 100000) hz, atI_nat (j := 0) hc0, rfl, ?_⟩
      have := q _ s1
      rw [ef, e, Bool.false_or] at this
      have e2 : decide (V.str ⟨#[c0]⟩ = V.str "0") = (some c0 == some 48) := by
        rw [dec_str]
        by_cases h : c0 = 48
        · subst h; rfl
        · have h1 : (some c0 == some 48) = false := by simp [h]
          rw [h1]
          refine Bool.eq_false_iff.mpr fun k => h ?_
          have := eq_of_beq k
          have e3 : (⟨#[c0]⟩ : Str).cps = (Str.ofString "0").cps := by rw [this]
          have e4 : (#[c0] : Array Nat) = #[48] := e3
          simpa using e4
      rw [e2]; exact this
  · have e : isFig z m = false := by unfold isFig; rw [Bool.eq_false_iff.mpr c, Bool.false_and]
    have := q _ s1
    rw [e] at this; exact this
theorem inT_mem (x : Str) (c : Nat) : inT x c = decide (c ∈ x.cps.toList) := PySem.StrLaws.found_one x c
def intS (i : Int) : Str := toString i
theorem name_few {z : Str} (h : isName z = true) : 1 ≤ z.length ∧ z.length ≤ 8 ∧ ∀ c ∈ z.cps.toList, 97 ≤ c ∧ c ≤ 122 := by
  unfold isName at h
  rw [Bool.and_eq_true] at h
  have h1 := of_decide_eq_true h.1
  refine ⟨h1.1, by omega, fun c hc => ?_⟩
  have h2 := List.all_eq_true.mp h.2 c hc
  rw [inT_mem] at h2
  have h3 := of_decide_eq_true h2
  have h4 : ("abcdefghijklmnopqrstuvwxyz" : Str).cps.toList.all (fun c => decide (97 ≤ c ∧ c ≤ 122)) = true := by decide +kernel
  exact of_decide_eq_true (List.all_eq_true.mp h4 c h3)
theorem sum_le (B : Nat) : ∀ (l : List Str), (∀ x ∈ l, x.length ≤ B) → (l.map fun x => x.length).sum ≤ l.length * B
  | [], _ => by simp
  | x :: r, h => by
    have := sum_le B r fun y hy => h y (List.mem_cons_of_mem _ hy)
    have h0 := h x List.mem_cons_self
    rw [List.map_cons, List.sum_cons, List.length_cons, Nat.succ_mul]
    omega
theorem join_few {y : Str} {ps : List Str} {B : Nat} (h : ∀ x ∈ ps, x.length ≤ B) : (Txt.join y ps).length ≤ ps.length * (B + y.length) := by
  have h1 := StrLaws.join_length_le y ps
  have h2 := sum_le B ps h
  show (Builtin.Str.glued y ps).length ≤ _
  rw [StrLaws.glued_eq_join, Nat.mul_add]
  omega
theorem app_len (x y : Str) : (x ++ y).length = x.length + y.length := by rw [str_len, app_list, List.length_append, ← str_len, ← str_len]
def sgn (hand : Int) : Nat := if hand = 0 then 43 else 45
def numKV (names : List Str) : List (Key × V) := names.zipIdx.map fun p => (.inr p.1, .int (p.2 : Nat))
theorem put_new : ∀ (l c : List (Key × V)), (∀ p ∈ l, p.1 ∉ c.map (·.1)) → (l.map (·.1)).Nodup → putAll c l = c ++ l
  | [], c, _, _ => by rw [List.append_nil]; rfl
  | p :: r, c, h, hn => by
    show putAll (putK c p.1 p.2) r = _
    have h1 : ¬ (c.any fun kv => decide (kv.1 = p.1)) = true := fun z => by
      obtain ⟨q, hq, e⟩ := List.any_eq_true.mp z
      exact h p List.mem_cons_self (List.mem_map.mpr ⟨q, hq, of_decide_eq_true e⟩)
    have e : putK c p.1 p.2 = c ++ [p] := by unfold putK; rw [if_neg h1]
    rw [List.map_cons, List.nodup_cons] at hn
    rw [e, put_new r (c ++ [p]) (fun q hq z => ?_) hn.2, List.append_assoc]; rfl
    rw [List.map_append] at z
    rcases List.mem_append.mp z with z | z
    · exact h q (List.mem_cons_of_mem _ hq) z
    · have z : q.1 = p.1 := by simpa using z
      exact hn.1 (by rw [← z]; exact List.mem_map.mpr ⟨q, hq, rfl⟩)
theorem num_find : ∀ (names : List Str) (i k : Nat) (z : Str), names.Nodup → names[i]? = some z → valV ((names.zipIdx k).map fun p => ((.inr p.1 : Key), V.int (p.2 : Nat))) (.inr z) = some (.int ((k + i : Nat)))
  | [], i, k, z, _, h => by cases h
  | y :: r, i, k, z, hn, h => by
    rw [List.zipIdx_cons, List.map_cons]
    rw [List.nodup_cons] at hn
    unfold valV
    cases i with
    | zero =>
      have e : y = z := by simpa using h
      subst e
      rw [List.find?_cons_of_pos (by simp)]; rfl
    | succ i =>
      have h' : r[i]? = some z := by simpa using h
      have hne : y ≠ z := fun e => hn.1 (by rw [e]; exact List.mem_of_getElem? h')
      rw [List.find?_cons_of_neg (by simp [hne])]
      have := num_find r i (k + 1) z hn.2 h'
      unfold valV at this
      rw [this, show k + 1 + i = k + (i + 1) by omega]
def lt1 (t : Int) : Nat := 97 + t.toNat
def abc : Str := "abcdefghijklmnopqrstuvwxyz"
theorem abc_at : ∀ t : Int, 0 ≤ t → t < 26 → atI abc.cps.toList t = some (lt1 t) := by
  have h : (List.range 26).all (fun k => decide (atI abc.cps.toList ((k : Nat) : Int) = some (lt1 ((k : Nat) : Int)))) = true := by decide +kernel
  intro t h0 h1
  have := List.all_eq_true.mp h t.toNat (List.mem_range.mpr (by omega))
  rw [show ((t.toNat : Nat) : Int) = t by omega] at this
  exact of_decide_eq_true this
theorem name_back {l : List Nat} (h1 : 1 ≤ l.length) (h8 : l.length ≤ 8) (h : ∀ c ∈ l, 97 ≤ c ∧ c ≤ 122) : isName ⟨l.toArray⟩ = true := by
  have hb : (List.range 26).all (fun k => decide (97 + k ∈ abc.cps.toList)) = true := by decide +kernel
  have el : (⟨l.toArray⟩ : Str).length = l.length := by rw [str_len]
  unfold isName
  rw [Bool.and_eq_true]
  refine ⟨decide_eq_true (by rw [el]; omega), List.all_eq_true.mpr fun c hc => ?_⟩
  rw [inT_mem]
  refine decide_eq_true ?_
  have hc' := h c hc
  have := of_decide_eq_true (List.all_eq_true.mp hb (c - 97) (List.mem_range.mpr (by omega)))
  rw [show 97 + (c - 97) = c by omega] at this
  exact this
theorem lt1_in {t : Int} (h0 : 0 ≤ t) (h1 : t < 26) : 97 ≤ lt1 t ∧ lt1 t ≤ 122 := by unfold lt1; omega
def wrd (l : List Int) : Str := ⟨(l.map lt1).toArray⟩
theorem wrd_list (l : List Int) : (wrd l).cps.toList = l.map lt1 := rfl
theorem wrd_len (l : List Int) : (wrd l).length = l.length := by rw [str_len, wrd_list, List.length_map]
theorem wrd_snoc (l : List Int) (t : Int) : wrd l ++ ⟨#[lt1 t]⟩ = wrd (l ++ [t]) := by
  have := app_list (wrd l) ⟨#[lt1 t]⟩
  rw [wrd_list] at this
  rw [str_list this]
  unfold wrd
  rw [List.map_append]; rfl
theorem wrd_name {l : List Int} (h1 : 1 ≤ l.length) (h8 : l.length ≤ 8) (h : ∀ t ∈ l, 0 ≤ t ∧ t < 26) : isName (wrd l) = true := by
  refine name_back (by rw [List.length_map]; exact h1) (by rw [List.length_map]; exact h8) fun c hc => ?_
  obtain ⟨t, ht, rfl⟩ := List.mem_map.mp hc
  exact lt1_in (h t ht).1 (h t ht).2
theorem wrd_inj {l l' : List Int} (h : ∀ t ∈ l, 0 ≤ t) (h' : ∀ t ∈ l', 0 ≤ t) (e : wrd l = wrd l') : l = l' := by
  have e1 : l.map lt1 = l'.map lt1 := by rw [← wrd_list, ← wrd_list, e]
  have back : ∀ l : List Int, (∀ t ∈ l, 0 ≤ t) → (l.map lt1).map (fun c : Nat => (c : Int) - 97) = l := fun l hl => by
    rw [List.map_map]
    have : l.map ((fun c : Nat => (c : Int) - 97) ∘ lt1) = l.map id := List.map_congr_left fun t ht => by
      have := hl t ht
      show ((lt1 t : Nat) : Int) - 97 = t
      unfold lt1; omega
    rw [this, List.map_id]
  rw [← back l h, ← back l' h', e1]
theorem map_nodup {f : Nat → Str} {n : Nat} (h : ∀ i j, i < n → j < n → f i = f j → i = j) : ((List.range n).map f).Nodup := by
  unfold List.Nodup
  rw [List.pairwise_map]
  exact List.Pairwise.imp_of_mem (fun ha hb hne e => hne (h _ _ (List.mem_range.mp ha) (List.mem_range.mp hb) e)) List.nodup_range
theorem fig_in {c : Nat} : inT "0123456789" c = isG c := by
  rw [inT_mem]
  unfold isG
  rw [Bool.eq_iff_iff, decide_eq_true_eq, Bool.and_eq_true, decide_eq_true_eq, decide_eq_true_eq]
  have e : ("0123456789" : Str).cps.toList = [48, 49, 50, 51, 52, 53, 54, 55, 56, 57] := by decide +kernel
  rw [e]
  simp
  omega
theorem let_in {c : Nat} : inT "abcdefghijklmnopqrstuvwxyz" c = isL c := by
  rw [inT_mem]
  unfold isL
  rw [Bool.eq_iff_iff, decide_eq_true_eq, Bool.and_eq_true, decide_eq_true_eq, decide_eq_true_eq]
  have e : ("abcdefghijklmnopqrstuvwxyz" : Str).cps.toList = [97, 98, 99, 100, 101, 102, 103, 104, 105, 106, 107, 108, 109, 110, 111, 112, 113, 114, 115, 116, 117, 118, 119, 120, 121, 122] := by decide +kernel
  rw [e]
  simp
  omega
theorem name_l {z : Str} (h : isName z = true) : NameL z.cps.toList := by
  unfold isName at h
  rw [Bool.and_eq_true] at h
  have h1 := of_decide_eq_true h.1
  rw [str_len] at h1
  exact ⟨h1.1, by omega, fun c hc => by rw [← let_in]; exact List.all_eq_true.mp h.2 c hc⟩
theorem split_cps (t y : Str) : t.cps.toList = flatL y.cps.toList ((Txt.split t y).map fun p => p.cps.toList) := by
  rw [← flat_join]
  show _ = (Builtin.Str.glued y (Txt.split t y)).cps.toList
  rw [StrLaws.glued_eq_join, StrLaws.join_split]
theorem flat_ge {s : List Nat} : ∀ (ps : List (List Nat)), (∀ p ∈ ps, p.length ≤ (flatL s ps).length) ∧ (1 ≤ s.length → ps.length ≤ (flatL s ps).length + 1)
  | [] => ⟨(fun p h => by cases h), fun _ => Nat.zero_le _⟩
  | [p] => ⟨(fun q h => by rw [List.mem_singleton.mp h]; exact Nat.le_refl _), fun _ => by simp⟩
  | p :: q :: r => by
    obtain ⟨h1, h2⟩ := flat_ge (s := s) (q :: r)
    have e : (flatL s (p :: q :: r)).length = p.length + s.length + (flatL s (q :: r)).length := by
      show (p ++ s ++ flatL s (q :: r)).length = _
      rw [List.length_append, List.length_append]
    refine ⟨fun x hx => ?_, fun hs => ?_⟩
    · rw [e]
      rcases List.mem_cons.mp hx with rfl | hx
      · omega
      · have := h1 x hx; omega
    · have := h2 hs
      rw [e, List.length_cons]
      omega
theorem split_few (t y : Str) (hy : 1 ≤ y.cps.toList.length) : (∀ p ∈ Txt.split t y, p.length ≤ t.length) ∧ (Txt.split t y).length ≤ t.length + 1 := by
  have h := flat_ge (s := y.cps.toList) ((Txt.split t y).map fun p => p.cps.toList)
  rw [← split_cps, ← str_len] at h
  refine ⟨fun p hp => ?_, by have := h.2 hy; rwa [List.length_map] at this⟩
  have := h.1 _ (List.mem_map.mpr ⟨p, hp, rfl⟩)
  rwa [← str_len] at this
def spFormX (K : PySem.W.Frag) : Sp := fun vs H Q E => ∃ b : Bool, vs = [.bl b] ∧ (b = true → Q .non H) ∧ (b = false → E (.ref (clK K "NoText")) none H)
theorem ok_formX (F : DefAt K mg "check_form" s_check_form ["right"]) (T : Txt mg) (XC : XT K mg "GarthError" xRs xNs) : DnX P w K mg base "check_form" 1 ["right"] (spFormX K) := by
  have sc := sc_check_form
  refine F.okX sc (fun vs H Q E h => ?_) (fun f cdv A outer s H vs Q E hr h => ?_)
  · obtain ⟨_, rfl, _⟩ := h; rfl
  obtain ⟨b, rfl, q1, q2⟩ := h
  refine ⟨_, (pss_one (ps_if (pt_not (pt_val (pv 0)))
      (pss_one (ps_raise raisesR (XC.m "NoText" (by decide)) (XC.exc "NoText" (by decide)) (pa_cons pe_str pa_nil)))
      pss_nil)), ?_⟩
  refine ⟨_, rfl, _, rfl, ?_⟩
  cases b with
  | true => exact iteF (q1 rfl)
  | false => exact iteT ⟨(by show 1 ≤ sizeLine; decide), q2 rfl⟩
theorem inV_str (x : Str) (l : List Str) : inV (.str x) (l.map V.str) = decide (x ∈ l) := by
  unfold inV
  rw [Bool.eq_iff_iff, List.any_eq_true, decide_eq_true_eq]
  constructor
  · rintro ⟨v, hv, e⟩
    obtain ⟨y, hy, rfl⟩ := List.mem_map.mp hv
    have : y = x := by simpa [eqV] using e
    exact this ▸ hy
  · intro h
    exact ⟨.str x, List.mem_map.mpr ⟨x, h, rfl⟩, by simp [eqV]⟩
theorem pr_len {α β : Type} {F : α → β → Prop} : ∀ {xs : List α} {ys : List β}, Paired F xs ys → xs.length = ys.length
  | _, _, .nil => rfl
  | _, _, .cons _ t => by rw [List.length_cons, List.length_cons, pr_len t]
theorem split_ne (t y : Str) : Txt.split t y ≠ [] := by
  unfold Txt.split
  split
  · simp
  · split
    · simp
    · rw [StrLaws.partsBetween_eq]
      intro e
      cases h : Builtin.Str.occurrences t y 0 t.length (t.length + 1) with
      | nil => rw [h, StrLaws.partsFrom.eq_1] at e; cases e
      | cons i r => rw [h, StrLaws.partsFrom.eq_2] at e; cases e
def spToldX (K : PySem.W.Frag) : Sp := fun vs H Q E => ∃ v : V, vs = [v] ∧
  ((∃ S, kindV H v S ∧ PySem.W.kitOne K (.type S) (.type "str") = some false ∧ ∀ H', Same H H' → E (.ref (clK K "NoText")) none H') ∨
   ∃ z : Str, v = .str z ∧ z.length ≤ 100000 ∧ ∀ (p : Addr) (H' : Hp), Same H H' → H p = none → H' p = some (.lst ((if z.length = 0 then [] else Txt.split z "; ").map V.str)) → Q (.ref p) H')
theorem ok_toldX (F : DefAt K mg "places_told" s_places_told ["text"]) (T : Txt mg) (D_check_form : DnX P w K mg base "check_form" 1 ["right"] (spFormX K)) : DnX P w K mg base "places_told" 2 ["text"] (spToldX K) := by
  have sc := sc_places_told
  refine F.okX sc (fun vs H Q E h => ?_) (fun f cdv A outer s H vs Q E hr h => ?_)
  · obtain ⟨_, rfl, _⟩ := h; rfl
  obtain ⟨v, rfl, h⟩ := h
  refine ⟨_, (pss_cons (ps_expr (pe_dnX passR D_check_form hr (pa_cons (pe_callB (clIsi (K := K) rfl (T := "str")) rfl T.b_isinstance PyProof.Rows.boot_isinstance (pa_cons (pv 0) (pa_cons (pe_bltn (v := .ty "str") rfl T.b_str PyProof.Rows.boot_str rfl) pa_nil))) pa_nil)))
      (pss_one (ps_ret (pe_ifExp (pt_truth (pv 0) (by intro _; rfl)) (pe_bm PySem.F.plainAttrs_str PySem.F.slot_str_split PySem.F.type_str_split mt_split (pv 0) (pa_cons pe_str pa_nil)) (pe_lst pa_nil))))), ?_⟩
  rcases h with ⟨S, hk, kt, q⟩ | ⟨z, rfl, hz, q⟩
  · exact ⟨_, rfl, _, S, _, rfl, hk, kt, false, rfl, (fun z => by cases z), fun _ => q _ (Same.refl _)⟩
  refine ⟨_, rfl, _, "str", _, rfl, rfl, isi_same _, true, rfl, fun _ => ?_, (fun z => by cases z)⟩
  refine ⟨_, rfl, decide (z.length ≠ 0), ?_, ?_⟩
  · refine ⟨small (m := 100000) hz, ?_⟩
    by_cases e : z.length = 0
    · rw [e]; rfl
    · rw [decide_eq_true e]
      symm
      simp [e]
  refine ite2 (fun c => ?_) (fun c => ?_)
  · have e : z.length ≠ 0 := of_decide_eq_true c
    refine ⟨_, rfl, rfl, z, _, rfl, rfl, rfl, small (m := 100002) (by omega), fun p hp => ?_⟩
    refine q p _ (same_upd hp _) hp ?_
    rw [if_neg e, upd_same]
  · have e : z.length = 0 := Classical.byContradiction fun e => c (decide_eq_true e)
    refine ⟨Nat.zero_le _, fun p hp => ?_⟩
    refine q p _ (same_upd hp _) hp ?_
    rw [if_pos e, upd_same]; rfl
def HdP (w nm : Str) (h : Int) (d : Str) : Prop := (inT w 43 = true ∧ h = 0 ∧ ∃ s, Txt.partition w "+" = (nm, s, d)) ∨ (inT w 43 = false ∧ inT w 45 = true ∧ h = 1 ∧ ∃ s, Txt.partition w "-" = (nm, s, d))
def spHeadX (K : PySem.W.Frag) : Sp := fun vs H Q E => ∃ w : Str, vs = [.str w] ∧ w.length ≤ 100000 ∧
  (∀ nm h d, HdP w nm h d → isName nm = true → ∀ (p : Addr) (H' : Hp), Same H H' → H p = none → H' p = some (.tup [.str nm, .int h, .str d]) → Q (.ref p) H') ∧ ((∀ nm h d, HdP w nm h d → isName nm = true → False) → ∀ H', Same H H' → E (.ref (clK K "NoText")) none H')
theorem ok_headX (F : DefAt K mg "read_head" s_read_head ["word"]) (T : Txt mg) (D_check_form : DnX P w K mg base "check_form" 1 ["right"] (spFormX K)) (D_is_name : Dn P w K mg base "is_name" 2 ["word"] spName) : DnX P w K mg base "read_head" 3 ["word"] (spHeadX K) := by
  have sc := sc_read_head
  refine F.okX sc (fun vs H Q E h => ?_) (fun f cdv A outer s H vs Q E hr h => ?_)
  · obtain ⟨_, rfl, _⟩ := h; rfl
  obtain ⟨wd, rfl, hw, q1, q2⟩ := h
  refine ⟨_, (pss_cons (ps_lc (i := 1) (defScope s_read_head) ["word", "found", "parts"] ["hand", "sign", "word"] 2 [0] sc.nd rfl rfl (pi_enumS rfl T.b_enumerate (pa_cons (pe_gstr T.g_HAND_SIGNS) pa_nil)) (fun _ _ _ _ _ _ => (ptg2 (K := K) rfl rfl (show List.Nodup (["hand", "sign", "word"] : List Str) by decide +kernel) rfl rfl rfl rfl)) (fun _ _ _ _ _ _ => (pts_one (pt_cmpR op_in_str (pv 1) (pv 2) rfl))) (fun _ _ _ _ _ _ => (pv 0)))
      (pss_cons (ps_expr (pe_dnX passR D_check_form hr (pa_cons (pe_cmpR op_gt (pe_callB (clLen (K := K) rfl) rfl T.b_len PySem.boot_len (pa_cons (pv 1) pa_nil)) pe_int (nomark _)) pa_nil)))
      (pss_cons (ps_set (i := 2) sc.nd rfl (Or.inl rfl) (pe_bm PySem.F.plainAttrs_str PySem.F.slot_str_partition PySem.F.type_str_partition mt_partition (pv 0) (pa_cons (pe_ix ix_str (pe_gstr T.g_HAND_SIGNS) (pe_ix (ixL (K := K) rfl) (pv 1) pe_int (fun _ _ => rfl)) (fun _ _ => rfl)) pa_nil)))
      (pss_cons (ps_expr (pe_dnX passR D_check_form hr (pa_cons (pe_dn D_is_name hr (pa_cons (pe_ix (ixT (K := K) rfl) (pv 2) pe_int (fun _ _ => rfl)) pa_nil)) pa_nil)))
      (pss_one (ps_ret (pe_tup (pa_cons (pe_ix (ixT (K := K) rfl) (pv 2) pe_int (fun _ _ => rfl)) (pa_cons (pe_ix (ixL (K := K) rfl) (pv 1) pe_int (fun _ _ => rfl)) (pa_cons (pe_ix (ixT (K := K) rfl) (pv 2) pe_int (fun _ _ => rfl)) pa_nil)))))))))), ?_⟩
  obtain ⟨f0, hf0⟩ : ∃ f0 : List V, f0 = if inT wd 43 = true then [V.int 0] else [] := ⟨_, rfl⟩
  obtain ⟨f1, hf1⟩ : ∃ f1 : List V, f1 = if inT wd 45 = true then [V.int 1] else [] := ⟨_, rfl⟩
  have l0 : f0.length ≤ 1 := by rw [hf0]; split <;> simp
  have l1 : f1.length ≤ 1 := by rw [hf1]; split <;> simp
  refine ⟨"+-", rfl, comp_enumSD (z := "+-") (fun i ys H3 => Same H H3 ∧ ys = (if i = 0 then [] else if i = 1 then f0 else f0 ++ f1)) ⟨Same.refl _, rfl⟩ (by decide +kernel) (fun i ys H3 hi h => ?_) (fun i c T0 ys H3 hi h hT => ?_) (fun ys H3 h p hp => ?_)⟩
  · obtain ⟨_, rfl⟩ := h
    by_cases h0 : i = 0
    · rw [if_pos h0]; exact Nat.zero_le _
    · rw [if_neg h0]
      by_cases h1 : i = 1
      · rw [if_pos h1]; omega
      · rw [if_neg h1, List.length_append]; omega
  · obtain ⟨s3, rfl⟩ := h
    have s4 := s3.trans (same_upd hT (.tup [.int (i : Nat), .str ⟨#[c]⟩]))
    have hi2 : i < 2 := (Array.getElem?_eq_some_iff.mp hi).1
    have hiT : ∀ c, (!(Builtin.Str.occurrences wd ⟨#[c]⟩ 0 wd.length 1).isEmpty) = inT wd c := fun _ => rfl
    rcases (show i = 0 ∨ i = 1 by omega) with rfl | rfl
    · have ec : 43 = c := Option.some.inj (show some 43 = some c from hi)
      subst ec
      refine ⟨T0, _, rfl, SqT.of upd_same, rfl, ?_⟩
      refine ⟨_, rfl, _, rfl, _, _, rfl, rfl, _, rfl, ?_⟩
      rw [hiT]
      refine ite2 (fun b => ?_) (fun b => ?_)
      · exact ⟨_, rfl, s4, by rw [if_pos rfl, if_neg (by decide), if_pos rfl, hf0, if_pos b]; rfl⟩
      · exact ⟨s4, by rw [if_pos rfl, if_neg (by decide), if_pos rfl, hf0, if_neg b]⟩
    · have ec : 45 = c := Option.some.inj (show some 45 = some c from hi)
      subst ec
      refine ⟨T0, _, rfl, SqT.of upd_same, rfl, ?_⟩
      refine ⟨_, rfl, _, rfl, _, _, rfl, rfl, _, rfl, ?_⟩
      rw [hiT]
      refine ite2 (fun b => ?_) (fun b => ?_)
      · refine ⟨_, rfl, s4, ?_⟩
        rw [if_neg (by decide), if_pos rfl, if_neg (by decide), if_neg (by decide), hf1, if_pos b]; rfl
      · refine ⟨s4, ?_⟩
        rw [if_neg (by decide), if_pos rfl, if_neg (by decide), if_neg (by decide), hf1, if_neg b, List.append_nil]
  obtain ⟨s3, rfl⟩ := h
  have ee : (if ("+-" : Str).cps.size = 0 then [] else if ("+-" : Str).cps.size = 1 then f0 else f0 ++ f1) = f0 ++ f1 := rfl
  rw [ee]
  have s4 := s3.trans (same_upd hp (.lst (f0 ++ f1)))
  have hp1 : upd H3 p (.lst (f0 ++ f1)) p = some (.lst (f0 ++ f1)) := upd_same
  generalize upd H3 p (.lst (f0 ++ f1)) = H4 at s4 hp1 ⊢
  refine ⟨_, rfl, p, _, rfl, .inl (SqL.of hp1), _, _, rfl, rfl, _, rfl, fun c => ?_, fun c => q2 (fun nm h d z _ => ?_) _ s4⟩
  rotate_left
  · have c' : ¬ (0 : Int) < (((f0 ++ f1).length : Nat) : Int) := fun z => by rw [decide_eq_true z] at c; cases c
    have z0 : f0 = [] := List.length_eq_zero_iff.mp (by rw [List.length_append] at c'; omega)
    have z1 : f1 = [] := List.length_eq_zero_iff.mp (by rw [List.length_append] at c'; omega)
    rcases z with ⟨e, _⟩ | ⟨_, e, _⟩
    · rw [hf0, if_pos e] at z0; cases z0
    · rw [hf1, if_pos e] at z1; cases z1
  have c' : (0 : Int) < (((f0 ++ f1).length : Nat) : Int) := of_decide_eq_true c
  obtain ⟨hand, rest, eh, hh, hsg⟩ : ∃ (hand : Int) (rest : List V), f0 ++ f1 = V.int hand :: rest ∧ (hand = 0 ∨ hand = 1) ∧ ((inT wd 43 = true ∧ hand = 0) ∨ (inT wd 43 = false ∧ inT wd 45 = true ∧ hand = 1)) := by
    cases b0 : inT wd 43 with
    | true => rw [hf0, if_pos b0]; exact ⟨0, f1, rfl, .inl rfl, .inl ⟨rfl, rfl⟩⟩
    | false =>
      rw [hf0, if_neg (by rw [b0]; decide)] at c' ⊢
      cases b1 : inT wd 45 with
      | true => rw [hf1, if_pos b1]; exact ⟨1, [], rfl, .inr rfl, .inr ⟨rfl, rfl, rfl⟩⟩
      | false => rw [hf1, if_neg (by rw [b1]; decide)] at c'; simp at c'
  rw [eh] at hp1
  have hat : atI (("+-" : Str).cps.toList) hand = some (sgn hand) := by rcases hh with rfl | rfl <;> rfl
  refine ⟨_, rfl, rfl, _, rfl, p, _, _, _, rfl, rfl, SqL.of hp1, atI_nat (j := 0) rfl, "+-", hand, sgn hand, rfl, rfl, (by decide +kernel), hat, _, _, rfl, rfl, rfl, small (m := 100000) hw, fun tp htp => ?_⟩
  obtain ⟨nm, sep, d, hpt⟩ : ∃ nm sep d, Txt.partition wd ⟨#[sgn hand]⟩ = (nm, sep, d) := ⟨_, _, _, rfl⟩
  have psum := StrLaws.partition_sum wd ⟨#[sgn hand]⟩
  rw [hpt] at psum
  have plen : nm.length + sep.length + d.length = wd.length := by rw [← psum, app_len, app_len]
  rw [hpt]
  have hd1 : HdP wd nm hand d := by
    rcases hsg with ⟨e, rfl⟩ | ⟨e1, e2, rfl⟩
    · exact .inl ⟨e, rfl, sep, hpt⟩
    · exact .inr ⟨e1, e2, rfl, sep, hpt⟩
  have uniq : ∀ nm' h' d', HdP wd nm' h' d' → nm' = nm ∧ h' = hand ∧ d' = d := fun nm' h' d' z => by
    rcases z with ⟨e, rfl, s', ep⟩ | ⟨e1, e2, rfl, s', ep⟩
    · rcases hsg with ⟨_, rfl⟩ | ⟨e', _⟩
      · have := hpt.symm.trans ep
        injection this with a1 a2
        injection a2 with _ a3
        exact ⟨a1.symm, rfl, a3.symm⟩
      · rw [e] at e'; cases e'
    · rcases hsg with ⟨e', _⟩ | ⟨_, _, rfl⟩
      · rw [e1] at e'; cases e'
      · have := hpt.symm.trans ep
        injection this with a1 a2
        injection a2 with _ a3
        exact ⟨a1.symm, rfl, a3.symm⟩
  have s5 := s4.trans (same_upd htp (.tup [.str nm, .str sep, .str d]))
  have hp2 := same_upd htp (.tup [.str nm, .str sep, .str d]) _ _ hp1
  have ht2 : upd H4 tp (.tup [.str nm, .str sep, .str d]) tp = some (.tup [.str nm, .str sep, .str d]) := upd_same
  generalize upd H4 tp (.tup [.str nm, .str sep, .str d]) = H5 at s5 hp2 ht2 ⊢
  refine ⟨_, rfl, tp, _, _, _, rfl, rfl, SqT.of ht2, atI_nat (j := 0) rfl, nm, rfl, by omega, fun H6 s6 => ⟨_, rfl, fun hn => ?_, fun hn => q2 (fun nm' h' d' z z2 => ?_) _ (s5.trans s6)⟩⟩
  rotate_left
  · rw [(uniq _ _ _ z).1, hn] at z2; cases z2
  refine ⟨_, rfl, tp, _, _, _, rfl, rfl, SqT.of (s6 _ _ ht2), atI_nat (j := 0) rfl, _, rfl, p, _, _, _, rfl, rfl, SqL.of (s6 _ _ hp2), atI_nat (j := 0) rfl, _, rfl, tp, _, _, _, rfl, rfl, SqT.of (s6 _ _ ht2), atI_nat (j := 2) rfl, (by show 3 ≤ sizeLine; decide), fun rp hrp => ?_⟩
  exact q1 nm hand d hd1 hn rp _ (s5.trans (s6.trans (same_upd hrp _))) (s5.free (s6.free hrp)) upd_same
theorem hd_one {w nm nm' : Str} {h h' : Int} {d d' : Str} (a : HdP w nm h d) (b : HdP w nm' h' d') : nm' = nm ∧ h' = h ∧ d' = d := by
  rcases a with ⟨e, rfl, s, ep⟩ | ⟨e1, e2, rfl, s, ep⟩
  · rcases b with ⟨_, rfl, s', ep'⟩ | ⟨e', _⟩
    · have := ep.symm.trans ep'
      injection this with a1 a2
      injection a2 with _ a3
      exact ⟨a1.symm, rfl, a3.symm⟩
    · rw [e] at e'; cases e'
  · rcases b with ⟨e', _⟩ | ⟨_, _, rfl, s', ep'⟩
    · rw [e1] at e'; cases e'
    · have := ep.symm.trans ep'
      injection this with a1 a2
      injection a2 with _ a3
      exact ⟨a1.symm, rfl, a3.symm⟩
theorem putK_len (c : List (Key × V)) (k : Key) (v : V) : (putK c k v).length ≤ c.length + 1 ∧ ((putK c k v).length = c.length + 1 → k ∉ c.map (·.1) ∧ putK c k v = c ++ [(k, v)]) := by
  unfold putK
  split
  · rw [List.length_map]
    exact ⟨by omega, fun z => by omega⟩
  · rename_i h
    refine ⟨by rw [List.length_append]; exact Nat.le_refl _, fun _ => ⟨fun z => h ?_, rfl⟩⟩
    obtain ⟨q, hq, e⟩ := List.mem_map.mp z
    exact List.any_eq_true.mpr ⟨q, hq, decide_eq_true e⟩
theorem put_len : ∀ (l c : List (Key × V)), (putAll c l).length ≤ c.length + l.length ∧ ((putAll c l).length = c.length + l.length → (l.map (·.1)).Nodup ∧ ∀ p ∈ l, p.1 ∉ c.map (·.1))
  | [], c => ⟨Nat.le_refl _, fun _ => ⟨List.nodup_nil, fun _ z => by cases z⟩⟩
  | p :: r, c => by
    have e : putAll c (p :: r) = putAll (putK c p.1 p.2) r := rfl
    obtain ⟨a1, a2⟩ := putK_len c p.1 p.2
    obtain ⟨b1, b2⟩ := put_len r (putK c p.1 p.2)
    rw [e, List.length_cons]
    refine ⟨by omega, fun z => ?_⟩
    obtain ⟨k1, k2⟩ := a2 (by omega)
    obtain ⟨n1, n2⟩ := b2 (by omega)
    rw [k2, List.map_append] at n2
    refine ⟨by
      rw [List.map_cons, List.nodup_cons]
      refine ⟨fun z => ?_, n1⟩
      obtain ⟨q, hq, eq⟩ := List.mem_map.mp z
      exact n2 q hq (List.mem_append_right _ (by rw [eq]; exact List.mem_singleton.mpr rfl)), fun q hq => ?_⟩
    rcases List.mem_cons.mp hq with rfl | hq
    · exact k1
    · exact fun z => n2 q hq (List.mem_append_left _ z)
theorem num_keys (names : List Str) : (numKV names).map (·.1) = names.map Sum.inr := by
  unfold numKV
  rw [List.map_map]
  show names.zipIdx.map (Sum.inr ∘ Prod.fst) = _
  rw [← List.map_map, List.zipIdx_map_fst]
def spNumberedX (K : PySem.W.Frag) : Sp := fun vs H Q E => ∃ (a : Addr) (names : List Str), vs = [.ref a] ∧ SqL K H a (names.map V.str) ∧ names.length ≤ 100000 ∧ (names.Nodup → ∀ (p : Addr) (H' : Hp), Same H H' → H' p = some (.dK (numKV names)) → Q (.ref p) H') ∧ (¬ names.Nodup → ∀ H', Same H H' → E (.ref (clK K "NoName")) none H')
theorem ok_numberedX (F : DefAt K mg "numbered" s_numbered ["names"]) (T : Txt mg) (XC : XT K mg "GarthError" xRs xNs) : DnX P w K mg base "numbered" 1 ["names"] (spNumberedX K) := by
  have sc := sc_numbered
  refine F.okX sc (fun vs H Q E h => ?_) (fun f cdv A outer s H vs Q E hr h => ?_)
  · obtain ⟨_, _, rfl, _⟩ := h; rfl
  obtain ⟨a, names, rfl, ha, hl, q1, q2⟩ := h
  refine ⟨_, (pss_cons (ps_set (i := 1) sc.nd rfl (Or.inl rfl) (pe_callTy (call_dict_pairs (K := K) rfl rfl) rfl T.b_dict PyProof.Rows.boot_dict (pa_cons (pe_lc (defScope s_numbered) ["names", "numbers"] ["number", "name"] 2 [] (pi_enum (K := K) rfl rfl T.b_enumerate (pa_cons (pv 0) pa_nil)) (fun _ _ _ _ _ _ => (ptg2 (K := K) rfl rfl (show List.Nodup (["number", "name"] : List Str) by decide +kernel) rfl rfl rfl rfl)) (fun _ _ _ _ _ _ => pts_nil) (fun _ _ _ _ _ _ => (pe_tup (pa_cons (pv 1) (pa_cons (pv 0) pa_nil))))) pa_nil)))
      (pss_cons (ps_if (pt_cmpR op_lt (pe_callB call_lenD rfl T.b_len PySem.boot_len (pa_cons (pv 1) pa_nil)) (pe_callB (clLen (K := K) rfl) rfl T.b_len PySem.boot_len (pa_cons (pv 0) pa_nil)) (nomark _))
      (pss_one (ps_raise raisesR (XC.m "NoName" (by decide)) (XC.exc "NoName" (by decide)) (pa_cons pe_str pa_nil)))
      pss_nil)
      (pss_one (ps_ret (pv 1))))), ?_⟩
  have hlm : (names.map V.str).length = names.length := List.length_map _
  have hlk : (numKV names).length = names.length := by unfold numKV; simp
  refine ⟨_, rfl, a, rfl, ⟨_, ha⟩, comp_enumD (K := K) (a := a) (xs := names.map V.str) (fun i ys H3 => Same H H3 ∧ ∃ ts : List (Addr × Key × V), ys = ts.map (fun t => V.ref t.1) ∧ (ts.map fun t => t.2) = (numKV names).take i ∧ (∀ t ∈ ts, H3 t.1 = some (.tup [kV t.2.1, t.2.2]))) ⟨Same.refl _, [], rfl, rfl, fun _ z => by cases z⟩ (small (m := 100000) (by omega)) (fun i ys H3 hi h => ?_) (fun i x T0 ys H3 hi h hT => ?_) (fun ys H3 h p hp => ?_)⟩
  · obtain ⟨s3, ts, rfl, e2, _⟩ := h
    refine ⟨s3.seq ha, ?_⟩
    have := congrArg List.length e2
    rw [List.length_map, List.length_take] at this
    rw [List.length_map]; omega
  · obtain ⟨s3, ts, rfl, e2, e3⟩ := h
    rw [List.getElem?_map] at hi
    obtain ⟨z, hz, rfl⟩ : ∃ z, names[i]? = some z ∧ x = V.str z := by
      cases e : names[i]? with
      | none => rw [e] at hi; cases hi
      | some z => rw [e] at hi; cases hi; exact ⟨z, rfl, rfl⟩
    have s4 := same_upd hT (.tup [.int (i : Nat), .str z])
    refine comp_yesT (SqT.of upd_same) rfl ?_
    refine ⟨_, rfl, _, rfl, (by show 2 ≤ sizeLine; decide), fun t2 ht2 => ?_⟩
    have s5 := s4.trans (same_upd ht2 (.tup [.str z, .int (i : Nat)]))
    refine ⟨s3.trans s5, ts ++ [(t2, .inr z, .int (i : Nat))], by rw [List.map_append]; rfl, ?_, fun t ht => ?_⟩
    · have hk : (numKV names)[i]? = some (.inr z, .int (i : Nat)) := by unfold numKV; rw [List.getElem?_map, List.getElem?_zipIdx, hz]; simp
      rw [List.take_add_one, hk, List.map_append, e2]; rfl
    · rcases List.mem_append.mp ht with h | h
      · exact s5 _ _ (e3 t h)
      · rw [List.mem_singleton.mp h]; exact upd_same
  obtain ⟨s3, ts, rfl, e2, e3⟩ := h
  rw [hlm, ← hlk, List.take_length] at e2
  have s4 := same_upd hp (.lst (ts.map fun t => V.ref t.1))
  refine ⟨p, ts, rfl, SqL.of upd_same, fun t ht => SqT.of (s4 _ _ (e3 t ht)), fun d hd => ?_⟩
  rw [e2]
  obtain ⟨b1, b2⟩ := put_len (numKV names) []
  have b1' : (putAll [] (numKV names)).length ≤ names.length := by rw [← hlk]; simpa using b1
  have s5 := s3.trans (s4.trans (same_upd hd (.dK (putAll [] (numKV names)))))
  refine ⟨_, rfl, d, _, rfl, upd_same, _, rfl, a, _, rfl, .inl (s5.seq ha), _, _, rfl, rfl, _, rfl, ?_⟩
  rw [hlm]
  refine ite2 (fun c => ?_) (fun c => ?_)
  · have c' : (((putAll [] (numKV names)).length : Nat) : Int) < ((names.length : Nat) : Int) := of_decide_eq_true c
    refine ⟨(by show 1 ≤ sizeLine; decide), q2 (fun nd => ?_) _ s5⟩
    have hnd : ((numKV names).map (·.1)).Nodup := by
      rw [num_keys]
      exact nd.map _ fun x y h z => h (Sum.inr.inj z)
    rw [put_new _ [] (fun _ _ z => by cases z) hnd, List.nil_append, hlk] at c'
    omega
  · have c' : ¬ (((putAll [] (numKV names)).length : Nat) : Int) < ((names.length : Nat) : Int) := fun z => c (decide_eq_true z)
    have hnd := (b2 (by rw [hlk]; simp; omega)).1
    have nd : names.Nodup := by
      rw [num_keys] at hnd
      exact List.Pairwise.imp (fun h e => h (congrArg _ e)) (List.pairwise_map.mp hnd)
    refine ⟨_, rfl, q1 nd d _ s5 ?_⟩
    rw [put_new _ [] (fun _ _ z => by cases z) hnd, List.nil_append, upd_same]
theorem num_none {names : List Str} {z : Str} (h : z ∉ names) : valV (numKV names) (.inr z) = none := by
  unfold valV
  rw [List.find?_eq_none.mpr]; rfl
  intro p hp e
  have : p.1 ∈ (numKV names).map (·.1) := List.mem_map.mpr ⟨p, hp, rfl⟩
  rw [num_keys] at this
  obtain ⟨y, hy, ey⟩ := List.mem_map.mp this
  have e' : p.1 = .inr z := by simpa using e
  rw [e'] at ey
  injection ey with ey
  exact h (ey ▸ hy)
theorem num_some {names : List Str} {z : Str} (hn : names.Nodup) (h : z ∈ names) : valV (numKV names) (.inr z) = some (.int (names.idxOf z : Nat)) := by
  have := num_find names (names.idxOf z) 0 z hn (by
    rw [List.getElem?_eq_getElem (List.idxOf_lt_length_iff.mpr h), List.getElem_idxOf])
  rw [Nat.zero_add] at this
  exact this
def spNumOfX (K : PySem.W.Frag) : Sp := fun vs H Q E => ∃ (a : Addr) (names : List Str) (x : Str), vs = [.ref a, .str x] ∧ H a = some (.dK (numKV names)) ∧ names.Nodup ∧ (x ∈ names → Q (.int (names.idxOf x : Nat)) H) ∧ (x ∉ names → E (.ref (clK K "NoName")) none H)
theorem ok_numofX (F : DefAt K mg "number_of" s_number_of ["numbers", "name"]) (T : Txt mg) (XC : XT K mg "GarthError" xRs xNs) : DnX P w K mg base "number_of" 1 ["numbers", "name"] (spNumOfX K) := by
  have sc := sc_number_of
  refine F.okX sc (fun vs H Q E h => ?_) (fun f cdv A outer s H vs Q E hr h => ?_)
  · obtain ⟨_, _, _, rfl, _⟩ := h; rfl
  obtain ⟨a, names, x, rfl, ha, hn, q1, q2⟩ := h
  refine ⟨_, (pss_cons (ps_if (pt_cmp (pc_dnotin (hu_n hr 1) (pv 1) (pv 0)))
      (pss_one (ps_raise raisesR (XC.m "NoName" (by decide)) (XC.exc "NoName" (by decide)) (pa_cons pe_str pa_nil)))
      pss_nil)
      (pss_one (ps_ret (pe_dget (hu_n hr 1) (pv 0) (pv 1) (fun _ _ => rfl))))), ?_⟩
  by_cases hx : x ∈ names
  · have g : DGet H a (.str x) (some (.int (names.idxOf x : Nat))) := .inl ⟨_, .inr x, .inl ha, rfl, (num_some hn hx).symm⟩
    refine ⟨_, rfl, _, rfl, a, _, rfl, g, _, rfl, ?_⟩
    refine iteF ?_
    exact ⟨_, rfl, _, rfl, a, _, rfl, g, q1 hx⟩
  · have g : DGet H a (.str x) none := .inl ⟨_, .inr x, .inl ha, rfl, (num_none hx).symm⟩
    refine ⟨_, rfl, _, rfl, a, _, rfl, g, _, rfl, ?_⟩
    refine iteT ?_
    exact ⟨(by show 1 ≤ sizeLine; decide), q2 hx⟩
theorem mem_take_s {α : Type} {xs : List α} {i : Nat} {z : α} (h : xs[i]? = some z) {x : α} : x ∈ xs.take (i + 1) ↔ x ∈ xs.take i ∨ x = z := by
  rw [List.take_add_one, h, List.mem_append]
  exact ⟨fun a => a.imp id fun b => List.mem_singleton.mp b, fun a => a.imp id fun b => List.mem_singleton.mpr b⟩
def partsT (s : Str) : List Str := if s.length = 0 then [] else Txt.split s "; "
def PwIn (n : Nat) (ws : List (Int × Int)) : Prop := (∀ w ∈ ws, PWayOk n w) ∧ ws.length ≤ 60
def PwGood (ws : List (Int × Int)) : Prop := ws ≠ [] ∧ (ws.map fun w => w.1).Nodup
theorem nodup_by : ∀ (l ns : List Int), ns.Nodup → (∀ k ∈ ns, k ∈ l) → l.length ≤ ns.length → l.Nodup
  | [], _, _, _, _ => List.nodup_nil
  | x :: r, ns, hn, hs, hl => by
    have hx : x ∉ r := fun hx => by
      have := nodup_sub ns r hn fun k hk => by
        rcases List.mem_cons.mp (hs k hk) with rfl | h
        · exact hx
        · exact h
      rw [List.length_cons] at hl
      omega
    refine List.nodup_cons.mpr ⟨hx, nodup_by r (ns.erase x) (hn.erase x) (fun k hk => ?_) ?_⟩
    · have := hn.mem_erase_iff.mp hk
      rcases List.mem_cons.mp (hs k this.2) with h | h
      · exact absurd h this.1
      · exact h
    · rw [List.length_cons] at hl
      have := List.length_erase (a := x) (l := ns)
      split at this <;> omega
def spCPWX (K : PySem.W.Frag) : Sp := fun vs H Q E => ∃ (wa : Addr) (ts : List (Addr × Int × Int)) (n : Nat), vs = [.ref wa, .int ((n : Nat) : Int)] ∧ WaysAt H wa ts ∧ PwIn n (ts.map fun t => t.2) ∧ (PwGood (ts.map fun t => t.2) → ∀ H', Same H H' → Q .non H') ∧ (¬ PwGood (ts.map fun t => t.2) → ∀ H', Same H H' → E (.ref (clK K "NoWay")) none H')
theorem ok_cpwX (F : DefAt K mg "check_purse_ways" s_check_purse_ways ["ways", "count"]) (T : Txt mg) (XC : XT K mg "GarthError" xRs xNs) (D_check_ways : DnX P w K mg base "check_ways" 3 ["ways", "count"] (spCheckWays K)) : DnX P w K mg base "check_purse_ways" 4 ["ways", "count"] (spCPWX K) := by
  have sc := sc_check_purse_ways
  refine F.okX sc (fun vs H Q E h => ?_) (fun f cdv A outer s H vs Q E hr h => ?_)
  · obtain ⟨_, _, _, rfl, _⟩ := h; rfl
  obtain ⟨wa, ts, n, rfl, hw, ⟨hin, h60⟩, q1, q2⟩ := h
  have hl : (ts.map fun t => V.ref t.1).length = ts.length := List.length_map _
  have h60' : ts.length ≤ 60 := by simpa using h60
  have hin' : ∀ x : Int, x ∈ ts.map (fun t => t.2.1) → 0 ≤ x ∧ x < n := fun x hx => by
    obtain ⟨t, ht, rfl⟩ := List.mem_map.mp hx
    have := hin t.2 (List.mem_map.mpr ⟨t, ht, rfl⟩)
    exact ⟨this.1, this.2.1⟩
  have em : ((ts.map fun t => t.2).map fun w => w.1) = ts.map fun t => t.2.1 := by rw [List.map_map]; rfl
  refine ⟨_, (pss_cons (ps_lc (i := 2) (defScope s_check_purse_ways) ["ways", "count", "places"] ["way"] 1 [] sc.nd rfl rfl (pi_list (pv 0)) (fun _ _ _ _ _ _ => (ptg_name (show List.Nodup (["way"] : List Str) by decide +kernel) rfl rfl)) (fun _ _ _ _ _ _ => pts_nil) (fun _ _ _ _ _ _ => (pe_ix (ixT (K := K) rfl) (pv 0) pe_int (fun _ _ => rfl))))
      (pss_cons (ps_expr (pe_dnX passR D_check_ways hr (pa_cons (pv 2) (pa_cons (pv 1) pa_nil))))
      (pss_one (ps_if (pt_cmpR op_lt (pe_len_set (K := K) rfl rfl rfl T.b_len rfl T.b_set (pa_cons (pv 2) pa_nil)) (pe_callB (clLen (K := K) rfl) rfl T.b_len PySem.boot_len (pa_cons (pv 2) pa_nil)) (nomark _))
      (pss_one (ps_raise raisesR (XC.m "NoWay" (by decide)) (XC.exc "NoWay" (by decide)) (pa_cons pe_str pa_nil)))
      pss_nil)))), ?_⟩
  refine ⟨_, rfl, wa, rfl, ⟨_, SqL.of hw.1⟩, comp_listD (K := K) (a := wa) (xs := ts.map fun t => V.ref t.1) (fun i ys H3 => H3 = H ∧ ys = ((ts.take i).map fun t => t.2.1).map V.int) ⟨rfl, rfl⟩ (small (m := 1000) (by omega)) (fun i ys H3 hi h => ?_) (fun i x ys H3 hi h => ?_) (fun ys H3 h p hp => ?_)⟩
  · obtain ⟨rfl, rfl⟩ := h
    exact ⟨SqL.of hw.1, by simp; omega⟩
  · obtain ⟨rfl, rfl⟩ := h
    obtain ⟨t, ht, rfl⟩ := pair_at hi
    refine comp_yes ?_
    refine ⟨_, rfl, t.1, _, _, _, rfl, rfl, SqT.of (hw.2 t (List.mem_of_getElem? ht)), atI_nat (j := 0) rfl, rfl, ?_⟩
    rw [List.take_add_one, ht, List.map_append, List.map_append]; rfl
  obtain ⟨rfl, rfl⟩ := h
  rw [hl, List.take_length]
  have sp := same_upd hp (.lst ((ts.map fun t => t.2.1).map V.int))
  refine ⟨_, rfl, _, rfl, p, _, n, rfl, upd_same, fun wg => ?_, fun z => q2 (fun gd => z ⟨fun z2 => gd.1 (by simpa using z2), hin'⟩) _ sp⟩
  refine ⟨_, rfl, p, _, rfl, SqL.of upd_same, by simp; omega, fun ns hn hmem => ?_⟩
  refine ⟨_, rfl, p, _, rfl, .inl (SqL.of upd_same), _, _, rfl, rfl, _, rfl, ?_⟩
  refine ite2 (fun c => ?_) (fun c => ?_)
  · have c' := of_decide_eq_true c
    refine ⟨(by show 1 ≤ sizeLine; decide), q2 (fun gd => ?_) _ sp⟩
    have hnd := gd.2
    rw [em] at hnd
    have := nodup_sub (ts.map fun t => t.2.1) ns hnd fun k hk => (hmem k).mpr hk
    rw [List.length_map] at c'
    omega
  · have c' : ¬ ((ns.length : Nat) : Int) < ((((ts.map fun t => t.2.1).map V.int).length : Nat) : Int) := fun z => c (decide_eq_true z)
    refine q1 ⟨fun z => wg.1 (by rw [← em, z]; rfl), ?_⟩ _ sp
    rw [em]
    refine nodup_by _ ns hn (fun k hk => (hmem k).mp hk) ?_
    rw [List.length_map] at c'
    omega
def spCAX (K : PySem.W.Frag) : Sp := fun vs H Q _ => ∃ (wa : Addr) (ts : List (Addr × Int × Int)) (n : Nat), vs = [.ref wa] ∧ WaysAt H wa ts ∧ PwIn n (ts.map fun t => t.2) ∧ Q .non H
theorem ok_caX (F : DefAt K mg "check_amounts" s_check_amounts ["ways"]) (T : Txt mg) (XC : XT K mg "GarthError" xRs xNs) (D_is_whole : Dn P w K mg base "is_whole" 1 ["value"] spWhole) : DnX P w K mg base "check_amounts" 2 ["ways"] (spCAX K) := by
  have sc := sc_check_amounts
  refine F.okX sc (fun vs H Q E h => ?_) (fun f cdv A outer s H vs Q E hr h => ?_)
  · obtain ⟨_, _, _, rfl, _⟩ := h; rfl
  obtain ⟨wa, ts, n, rfl, hw, ⟨hin, h60⟩, q⟩ := h
  refine ⟨_, (pss_one (ps_for PassesOwn.leaving rfl (pi_list (pv 0)) (pg_name (i := 1) sc.nd rfl (Or.inl rfl))
      (pss_one (ps_if (PW.pt (pw_or (pt_not (pt_val (pe_dn D_is_whole hr (pa_cons (pe_ix (ixT (K := K) rfl) (pv 1) pe_int (fun _ _ => rfl)) pa_nil)))) (pw_or1 (pt_cmpR op_ge (pe_callB call_abs1 rfl T.b_abs PyProof.Rows.boot_abs (pa_cons (pe_ix (ixT (K := K) rfl) (pv 1) pe_int (fun _ _ => rfl)) pa_nil)) (pe_op op_pow pe_int pe_int) (nomark _)))))
      (pss_one (ps_raise raisesR (XC.m "NoAmount" (by decide)) (XC.exc "NoAmount" (by decide)) (pa_cons pe_str pa_nil)))
      pss_nil)))), ?_⟩
  refine ⟨_, rfl, wa, rfl, ⟨_, SqL.of hw.1⟩, for_list (K := K) (a := wa) (xs := ts.map fun t => V.ref t.1) (fun i σ H2 => H2 = H ∧ ∃ y : Option V, σ = [some (.ref wa), y]) ⟨rfl, _, rfl⟩ (fun i σ H2 _ h => ?_) (fun i x σ H2 hi h => ?_) (fun σ H2 h => ?_)⟩
  · obtain ⟨rfl, _⟩ := h; exact SqL.of hw.1
  · obtain ⟨rfl, y, rfl⟩ := h
    obtain ⟨t, ht, rfl⟩ := pair_at hi
    have htm := List.mem_of_getElem? ht
    obtain ⟨_, _, b1, b2⟩ := hin t.2 (List.mem_map.mpr ⟨t, htm, rfl⟩)
    refine ⟨_, rfl, t.1, _, _, _, rfl, rfl, SqT.of (hw.2 t htm), atI_nat (j := 1) rfl, _, rfl, _, rfl, ?_⟩
    refine iteF ?_
    refine ⟨_, rfl, t.1, _, _, _, rfl, rfl, SqT.of (hw.2 t htm), atI_nat (j := 1) rfl, _, rfl, _, _, rfl, rfl, ⟨by decide, by decide, by decide⟩, _, _, rfl, rfl, _, rfl, ?_⟩
    refine ite2 (fun c => ?_) (fun c => ?_)
    · exfalso
      have c' : (10 : Int) ^ (60 : Int).toNat ≤ (if t.2.2 < 0 then -t.2.2 else t.2.2) := of_decide_eq_true c
      have e : (10 : Int) ^ (60 : Int).toNat = 10 ^ 60 := rfl
      rw [e] at c'
      split at c' <;> omega
    · exact ⟨rfl, _, rfl⟩
  · obtain ⟨rfl, _⟩ := h
    exact q
def PIn (G : List PRow) : Prop := ∀ r ∈ G, HandOk r.1 ∧ PwIn G.length r.2
def spCPRX (K : PySem.W.Frag) : Sp := fun vs H Q E => ∃ (v : V) (G : List PRow), vs = [v] ∧ rPG H G v ∧ G.length ≤ 1000 ∧ PIn G ∧ (16 < G.length → ∀ H', Same H H' → E (.ref (clK K "TooMany")) none H') ∧ (G.length ≤ 16 → (∃ r ∈ G, ¬ PwGood r.2) → ∀ H', Same H H' → E (.ref (clK K "NoWay")) none H') ∧ (G.length ≤ 16 → (∀ r ∈ G, PwGood r.2) → ∀ H', Same H H' → Q .non H')
theorem ok_cprX (F : DefAt K mg "check_purse_rows" s_check_purse_rows ["rows"]) (T : Txt mg) (XC : XT K mg "GarthError" xRs xNs) (D_check_hand : DnX P w K mg base "check_hand" 2 ["hand"] (spHand K)) (D_check_purse_ways : DnX P w K mg base "check_purse_ways" 4 ["ways", "count"] (spCPWX K)) (D_check_amounts : DnX P w K mg base "check_amounts" 2 ["ways"] (spCAX K)) : DnX P w K mg base "check_purse_rows" 5 ["rows"] (spCPRX K) := by
  have sc := sc_check_purse_rows
  refine F.okX sc (fun vs H Q E h => ?_) (fun f cdv A outer s H vs Q E hr h => ?_)
  · obtain ⟨_, _, rfl, _⟩ := h; rfl
  obtain ⟨v, G, rfl, hG, h1000, hin, q1, q2, q3⟩ := h
  obtain ⟨g0, gv, rfl, hg0, hgl, hrow⟩ := pg_parts hG
  refine ⟨_, (pss_cons (ps_if (pt_cmpR op_gt (pe_callB (clLen (K := K) rfl) rfl T.b_len PySem.boot_len (pa_cons (pv 0) pa_nil)) (pe_gint T.g_MOST_PURSE_PLACES) (nomark _))
      (pss_one (ps_raise raisesR (XC.m "TooMany" (by decide)) (XC.exc "TooMany" (by decide)) (pa_cons (pe_join (pj_str (pj_int T.g_MOST_PURSE_PLACES (pj_str pj_nil)))) pa_nil)))
      pss_nil)
      (pss_one (ps_for PassesOwn.leaving rfl (pi_list (pv 0)) (pg_name (i := 1) sc.nd rfl (Or.inl rfl))
      (pss_cons (ps_expr (pe_dnX passR D_check_hand hr (pa_cons (pe_ix (ixT (K := K) rfl) (pv 1) pe_int (fun _ _ => rfl)) pa_nil)))
      (pss_cons (ps_expr (pe_dnX passR D_check_purse_ways hr (pa_cons (pe_ix (ixT (K := K) rfl) (pv 1) pe_int (fun _ _ => rfl)) (pa_cons (pe_callB (clLen (K := K) rfl) rfl T.b_len PySem.boot_len (pa_cons (pv 0) pa_nil)) pa_nil))))
      (pss_one (ps_expr (pe_dnX passR D_check_amounts hr (pa_cons (pe_ix (ixT (K := K) rfl) (pv 1) pe_int (fun _ _ => rfl)) pa_nil))))))))), ?_⟩
  refine ⟨_, rfl, g0, _, rfl, .inl (SqL.of hg0), _, _, rfl, rfl, _, rfl, ?_⟩
  refine ite2 (fun c => ?_) (fun c => ?_)
  · have : (16 : Int) < (gv.length : Nat) := of_decide_eq_true c
    exact fun x => ⟨(by show 1 ≤ sizeLine; decide), q1 (by omega) _ (Same.refl _)⟩
  have h16 : G.length ≤ 16 := by
    have : ¬ (16 : Int) < (gv.length : Nat) := fun k => c (decide_eq_true k)
    omega
  refine ⟨_, rfl, g0, rfl, ⟨_, SqL.of hg0⟩, for_list (K := K) (a := g0) (xs := gv) (fun i σ H2 => Same H H2 ∧ (∃ y : Option V, σ = [some (.ref g0), y]) ∧ ∀ r ∈ G.take i, PwGood r.2) ⟨Same.refl _, ⟨_, rfl⟩, fun _ z => by cases z⟩ (fun i σ H2 _ h => ?_) (fun i x σ H2 hi h => ?_) (fun σ H2 h => ?_)⟩
  · exact SqL.of (h.1 _ _ hg0)
  · obtain ⟨s2, ⟨y, rfl⟩, hk⟩ := h
    have hil : i < G.length := by have := (List.getElem?_eq_some_iff.mp hi).1; omega
    obtain ⟨row, hrw⟩ : ∃ row, G[i]? = some row := ⟨G[i], by simp⟩
    obtain ⟨t, wa, ts, p1, p2, p3, p4⟩ := hrow i row hrw
    rw [hi] at p1; cases p1
    have rm := List.mem_of_getElem? hrw
    obtain ⟨ho, hpi⟩ := hin row rm
    rw [← p4] at hpi
    refine ⟨_, rfl, t, _, _, _, rfl, rfl, SqT.of (s2 _ _ p2), atI_nat (j := 0) rfl, row.1, rfl, fun _ H3 s3 => ?_, fun z => absurd ho z⟩
    have s23 := s2.trans s3
    refine ⟨_, rfl, t, _, _, _, rfl, rfl, SqT.of (s23 _ _ p2), atI_nat (j := 1) rfl, _, rfl, g0, _, rfl, .inl (SqL.of (s23 _ _ hg0)), wa, ts, G.length, congrArg (fun z : Nat => [V.ref wa, V.int (z : Int)]) hgl, p3.up s23, hpi, fun gd H4 s4 => ?_, fun ng H4 s4 => q2 h16 ⟨row, rm, by rw [← p4]; exact ng⟩ _ (s23.trans s4)⟩
    have s24 := s23.trans s4
    refine ⟨_, rfl, t, _, _, _, rfl, rfl, SqT.of (s24 _ _ p2), atI_nat (j := 1) rfl, wa, ts, G.length, rfl, p3.up s24, hpi, ?_⟩
    refine ⟨s24, ⟨_, rfl⟩, fun r hr => ?_⟩
    rcases (mem_take_s hrw).mp hr with h | h
    · exact hk r h
    · rw [h, ← p4]; exact gd
  · rw [hgl, List.take_length] at h
    exact q3 h16 h.2.2 _ h.1
def spPurseX (K : PySem.W.Frag) : Sp := fun vs H Q E => ∃ (v : V) (G : List PRow), vs = [v] ∧ rPG H G v ∧ G.length ≤ 1000 ∧ PIn G ∧ (16 < G.length → ∀ H', Same H H' → E (.ref (clK K "TooMany")) none H') ∧ (G.length ≤ 16 → (∃ r ∈ G, ¬ PwGood r.2) → ∀ H', Same H H' → E (.ref (clK K "NoWay")) none H') ∧ (G.length ≤ 16 → (∀ r ∈ G, PwGood r.2) → ∀ (g : Addr) (gv : List V) (H1 : Hp), Same H H1 → H1 g = none → Paired (rPR (newp H H1)) (ptold G) gv → Q (.ref g) (upd H1 g (.lst gv)))
theorem ok_purseX (F : DefAt K mg "purse_game" s_purse_game ["rows"]) (T : Txt mg) (XC : XT K mg "GarthError" xRs xNs) (D_check_purse_rows : DnX P w K mg base "check_purse_rows" 5 ["rows"] (spCPRX K)) : DnX P w K mg base "purse_game" 6 ["rows"] (spPurseX K) := by
  have sc := sc_purse_game
  refine F.okX sc (fun vs H Q E h => ?_) (fun f cdv A outer s H vs Q E hr h => ?_)
  · obtain ⟨_, _, rfl, _⟩ := h; rfl
  obtain ⟨v, G, rfl, hG, h1000, hin0, q1, q2, q3⟩ := h
  obtain ⟨g0, gv, rfl, hg0, hgl, hrow⟩ := pg_parts hG
  refine ⟨_, (pss_cons (ps_expr (pe_dnX passR D_check_purse_rows hr (pa_cons (pv 0) pa_nil)))
      (pss_one (ps_ret (pe_lc (defScope s_purse_game) ["rows"] ["row"] 1 [] (pi_list (pv 0)) (fun _ _ _ _ _ _ => (ptg_name (show List.Nodup (["row"] : List Str) by decide +kernel) rfl rfl)) (fun _ _ _ _ _ _ => pts_nil) (fun _ _ _ _ _ _ => (pe_tup (pa_cons (pe_ix (ixT (K := K) rfl) (pv 0) pe_int (fun _ _ => rfl)) (pa_cons (pe_callB (call_sortedP (K := K) rfl) rfl T.b_sorted PyProof.Rows.boot_sorted (pa_cons (by exact (pe_lcN2  ["row"] ["way"] 1 [] (pi_list0 (pe_ix (ixT (K := K) rfl) (pv 0) pe_int (fun _ _ => rfl))) (fun _ _ _ _ _ _ => (ptg_name (show List.Nodup (["way"] : List Str) by decide +kernel) rfl rfl)) (fun _ _ _ _ _ _ => pts_nil) (fun _ _ _ _ _ _ => (pe_tup (pa_cons (pe_ix (ixT (K := K) rfl) (pv 0) pe_int (fun _ _ => rfl)) (pa_cons (pe_ix (ixT (K := K) rfl) (pv 0) pe_int (fun _ _ => rfl)) pa_nil)))))) pa_nil)) pa_nil)))))))), ?_⟩
  refine ⟨_, rfl, _, G, rfl, hG, h1000, hin0, q1, q2, fun h16 hgood H1 s1 => ?_⟩
  have hg : PGood G := ⟨h16, fun r hr => ⟨(hin0 r hr).1, (hgood r hr).1, (hin0 r hr).2.1, (hgood r hr).2, (hin0 r hr).2.2⟩⟩
  have q := q3 h16 hgood
  refine ⟨_, rfl, g0, rfl, ⟨_, SqL.of (s1 _ _ hg0)⟩, comp_listD (K := K) (a := g0) (xs := gv) (fun i ys H2 => Same H H2 ∧ Paired (rPR (newp H H2)) ((ptold G).take i) ys) ⟨s1, .nil⟩ (small (m := 1000) (by omega)) (fun i ys H2 hi h => ?_) (fun i x ys H2 hi h => ?_) (fun ys H2 h p hp => ?_)⟩
  · exact ⟨SqL.of (h.1 _ _ hg0), by have := h.2.length; rw [List.length_take, ptold_len] at this; omega⟩
  · obtain ⟨s2, pr⟩ := h
    have hil : i < G.length := by have := (List.getElem?_eq_some_iff.mp hi).1; omega
    obtain ⟨row, hrw⟩ : ∃ row, G[i]? = some row := ⟨G[i], by simp⟩
    obtain ⟨t, wa, ts, p1, p2, p3, p4⟩ := hrow i row hrw
    rw [hi] at p1; cases p1
    obtain ⟨_, hne, hin, hpw, h60⟩ := hg.2 row (List.mem_of_getElem? hrw)
    have htl : ts.length ≤ 60 := by rw [← p4, List.length_map] at h60; exact h60
    refine comp_yes ?_
    refine ⟨_, rfl, t, _, _, _, rfl, rfl, SqT.of (s2 _ _ p2), atI_nat (j := 0) rfl, _, rfl, t, _, _, _, rfl, rfl, SqT.of (s2 _ _ p2), atI_nat (j := 1) rfl, wa, rfl, ⟨_, SqL.of ((p3.up s2).1)⟩, comp_listD (K := K0) (a := wa) (xs := ts.map fun t => V.ref t.1) (fun j zs H3 => ∃ us : List (Addr × Int × Int), Same H2 H3 ∧ zs = us.map (fun u => V.ref u.1) ∧ us.map (fun u => u.2) = (ts.take j).map (fun u => u.2) ∧ ∀ u ∈ us, newp H2 H3 u.1 = some (.tup [.int u.2.1, .int u.2.2])) ⟨[], Same.refl _, rfl, rfl, fun _ z => by cases z⟩ (small (m := 1000) (by rw [List.length_map]; omega)) (fun j zs H3 hj h => ?_) (fun j x zs H3 hj h => ?_) (fun zs H3 h p hp => ?_)⟩
    · obtain ⟨us, s3, rfl, e2, _⟩ := h
      refine ⟨SqL.of ((p3.up (s2.trans s3)).1), ?_⟩
      have := congrArg List.length e2
      rw [List.length_map, List.length_map, List.length_take] at this
      rw [List.length_map]; omega
    · obtain ⟨us, s3, rfl, e2, e3⟩ := h
      obtain ⟨u, hu, rfl⟩ := pair_at hj
      have hut := (p3.up (s2.trans s3)).2 u (List.mem_of_getElem? hu)
      refine comp_yes ?_
      refine ⟨_, rfl, u.1, _, _, _, rfl, rfl, SqT.of hut, atI_nat (j := 0) rfl, _, rfl, u.1, _, _, _, rfl, rfl, SqT.of hut, atI_nat (j := 1) rfl, (by show 2 ≤ sizeLine; decide), fun t2 ht2 => ?_⟩
      refine ⟨us ++ [(t2, u.2)], s3.trans (same_upd ht2 _), by simp, by rw [List.map_append, e2, List.take_add_one, hu, List.map_append]; rfl, fun z hz => ?_⟩
      rcases List.mem_append.mp hz with h | h
      · exact newp_in (same_upd ht2 _) _ _ (e3 z h)
      · rw [List.mem_singleton.mp h]
        rw [newp_at (s3.free ht2), upd_same]
    obtain ⟨us, s3, rfl, e2, e3⟩ := h
    rw [List.length_map, List.take_length, p4] at e2
    have hul : us.length ≤ 60 := by have := congrArg List.length e2; rw [List.length_map] at this; omega
    have s4 := same_upd hp (.lst (us.map fun u => V.ref u.1))
    have hnd : (us.map fun u => u.2.1).Nodup := by
      have h2 : ((us.map fun u => u.2).map fun w => w.1).Nodup := by rw [e2]; exact hpw
      rwa [List.map_map] at h2
    refine ⟨p, us, rfl, SqL.of upd_same, by omega, fun u hu => SqT.of (s4 _ _ (newp_same _ _ _ _ (e3 u hu))), hnd, fun l us' hl pm pw => ?_⟩
    have e4 : us'.map (fun u => u.2) = srt row.2 := by
      refine srt_is hpw ?_ (by rw [List.pairwise_map]; exact pw)
      rw [← e2]
      exact pm.map _
    refine ⟨(by show 2 ≤ sizeLine; decide), fun t2 ht2 => ?_⟩
    have s5 := s4.trans (same_upd hl (.lst (us'.map fun u => V.ref u.1)))
    have s6 := s5.trans (same_upd ht2 (.tup [.int row.1, .ref l]))
    have s26 := s3.trans s6
    refine ⟨s2.trans s26, ?_⟩
    rw [List.take_add_one, ptold_at hrw]
    refine Paired.app (paired_mono mono_pr (newp_in s26) pr) (.cons ?_ .nil)
    have hl2 : H2 l = none := (s3.trans s4).free hl
    have hlt : l ≠ t2 := fun z => by rw [z] at hl; rw [← z, upd_same] at ht2; cases ht2
    have W : WaysAt (newp H (upd (upd (upd H3 p (.lst (us.map fun u => V.ref u.1))) l (.lst (us'.map fun u => V.ref u.1))) t2 (.tup [.int row.1, .ref l]))) l us' := by
      refine ⟨by rw [newp_at (s2.free hl2), upd_ne hlt, upd_same], fun u hu => ?_⟩
      have := e3 u (pm.mem_iff.mp hu)
      exact newp_mono s2 s6 _ _ this
    have := W.rel
    rw [e4] at this
    exact ⟨t2, _, _, rfl, by rw [newp_at (s2.free ((s3.trans s5).free ht2)), upd_same], rfl, this⟩
  · obtain ⟨s2, pr⟩ := h
    rw [hgl, ← ptold_len G, List.take_length] at pr
    exact q p ys H2 s2 hp pr
theorem sw_is (x : Str) : ((decide (0 + (Str.ofString "-").length ≤ x.length)) && Builtin.Str.subAt x "-" 0) = (x.cps.toList[0]? == some 45) := by
  have h : StrLaws.At x ⟨#[45]⟩ x.length 0 ↔ _ := one_at
  rw [Bool.eq_iff_iff, Bool.and_eq_true, beq_iff_eq, ← h]
  unfold StrLaws.At
  rw [decide_eq_true_iff]
  rfl
theorem tail_range (c : Nat) (l : List Nat) : ∀ n, (List.range' 1 n).filterMap (((c :: l).toArray)[·]?) = l.take n
  | 0 => rfl
  | n + 1 => by
    rw [List.range'_concat, List.filterMap_append, tail_range c l n, List.take_add_one]
    congr 1
    have e : ((c :: l).toArray)[1 + 1 * n]? = l[n]? := by
      rw [show 1 + 1 * n = n + 1 by omega]; simp
    simp only [List.filterMap_cons, List.filterMap_nil, e]
    cases l[n]? <;> rfl
theorem picked1g (n : Nat) : Builtin.Str.strSliceIndices (some 1) none 1 (n + 1) = List.range' 1 n := by
  have h := StrLaws.strSliceIndices_plain (a := 1) (b := n + 1) (len := n + 1) (by omega) (Nat.le_refl _)
  have e : Builtin.Str.strSliceIndices (some 1) none 1 (n + 1) = Builtin.Str.strSliceIndices (some ((1 : Nat) : Int)) (some ((n + 1 : Nat) : Int)) 1 (n + 1) := by
    have h2 : ¬ (((n + 1 : Nat) : Int) < 0) := by omega
    have e2 : max (0 : Int) (min ((n + 1 : Nat) : Int) ((n + 1 : Nat) : Int)) = ((n + 1 : Nat) : Int) := by omega
    simp only [Builtin.Str.strSliceIndices, h2, if_false, e2, show ((1 : Int) > 0) = True from by simp, if_true]
    rfl
  rw [e, h, List.range'_eq_map_range]
  rfl
theorem cut_tailg {x : Str} {c : Nat} {l : List Nat} (h : x.cps.toList = c :: l) : cutS x (some 1) none = ⟨l.toArray⟩ := by
  have hx := str_list h
  subst hx
  have hp : picked ⟨(c :: l).toArray⟩ (some 1) none = List.range' 1 l.length := picked1g l.length
  unfold cutS
  have e : (⟨(c :: l).toArray⟩ : Str).length = l.length + 1 := rfl
  rw [hp, List.length_range', e, if_neg (by omega)]
  refine congrArg Str.mk ?_
  rw [tail_range, List.take_length]
def tlS (z : Str) : Str := ⟨(z.cps.toList.drop 1).toArray⟩
def isAmt (z : Str) : Bool := if (z.cps.toList[0]? == some 45) = true then (!decide (z = "-0")) && isFig (tlS z) 60 else isFig z 60
def spAmtX : Sp := fun vs H Q _ => ∃ z : Str, vs = [.str z] ∧ z.length ≤ 100000 ∧ ∀ H', Same H H' → Q (.bl (isAmt z)) H'
theorem ok_amtX (F : DefAt K mg "is_amount" s_is_amount ["word"]) (T : Txt mg) (D_is_figures : Dn P w K mg base "is_figures" 2 ["word", "most"] spFig) : Dn P w K mg base "is_amount" 3 ["word"] spAmtX := by
  have sc := sc_is_amount
  refine F.ok sc (fun vs H Q E h => ?_) (fun f cdv A outer s H vs Q E hr h => ?_)
  · obtain ⟨_, rfl, _⟩ := h; rfl
  obtain ⟨z, rfl, hz, q⟩ := h
  refine ⟨_, (pss_cons (ps_if (pt_val (pe_bm PySem.F.plainAttrs_str PySem.F.slot_str_startswith PySem.F.type_str_startswith mt_startswith (pv 0) (pa_cons pe_str pa_nil)))
      (pss_one (ps_ret (pe_and (pe_cmpR op_ne (pv 0) pe_str (nomark _)) (pe_one (pe_dn D_is_figures hr (pa_cons (pe_slice sl_str (pv 0) (po_some pe_int) po_none) (pa_cons (pe_gint T.g_MOST_AMOUNT_FIGURES) pa_nil)))))))
      pss_nil)
      (pss_one (ps_ret (pe_dn D_is_figures hr (pa_cons (pv 0) (pa_cons (pe_gint T.g_MOST_AMOUNT_FIGURES) pa_nil)))))), ?_⟩
  refine ⟨_, rfl, rfl, _, _, rfl, rfl, _, rfl, ?_⟩
  rw [sw_is]
  unfold isAmt at q
  refine ite2 (fun c => ?_) (fun c => ?_)
  · rw [if_pos c] at q
    have c' := eq_of_beq c
    obtain ⟨l, hl⟩ : ∃ l, z.cps.toList = 45 :: l := by
      cases e : z.cps.toList with
      | nil => rw [e] at c'; cases c'
      | cons a l => rw [e] at c'; injection c' with c'; exact ⟨l, by rw [c']⟩
    have et : tlS z = ⟨l.toArray⟩ := by unfold tlS; rw [hl]; rfl
    have ll : l.length ≤ 100000 := by have := str_len z; rw [hl, List.length_cons] at this; omega
    refine ⟨_, rfl, rfl, ?_⟩
    have ed : decide (V.str z = V.str "-0") = decide (z = "-0") := by rw [Bool.eq_iff_iff]; simp
    rw [ed]
    refine ⟨_, rfl, ?_⟩
    refine ite2 (fun d => ?_) (fun d => ?_)
    · rw [d, Bool.true_and] at q
      refine ⟨_, rfl, 1, rfl, z, rfl, ?_, ?_⟩
      · rw [cut_tailg hl]
        exact small (m := 100000) (by show l.toArray.size ≤ 100000; simp; omega)
      rw [cut_tailg hl, ← et]
      exact ⟨_, _, rfl, (by rw [et]; show l.toArray.size ≤ 100000; simp; omega), fun H' s' => q _ s'⟩
    · rw [Bool.eq_false_iff.mpr d, Bool.false_and] at q
      exact q _ (Same.refl _)
  · rw [if_neg c] at q
    exact ⟨_, rfl, z, _, rfl, hz, q⟩
def numA (d : Str) : Int := (intText? d).getD 0
theorem dv_snoc (cs : List Nat) (c : Nat) : NumText.digitsVal (cs ++ [c]) = NumText.digitsVal cs * 10 + (c - 48) := by
  unfold NumText.digitsVal
  rw [List.foldl_append]; rfl
theorem digits_lt : ∀ (n : Nat) (cs : List Nat), cs.length = n → (∀ c ∈ cs, 48 ≤ c ∧ c ≤ 57) → NumText.digitsVal cs < 10 ^ n
  | 0, cs, h, _ => by rw [List.length_eq_zero_iff.mp h]; decide
  | n + 1, cs, h, ha => by
    have hne : cs ≠ [] := fun e => by rw [e] at h; cases h
    obtain ⟨l, c, rfl⟩ : ∃ l c, cs = l ++ [c] := ⟨cs.dropLast, cs.getLast hne, (List.dropLast_concat_getLast hne).symm⟩
    rw [List.length_append, List.length_singleton] at h
    have := digits_lt n l (by omega) fun x hx => ha x (List.mem_append_left _ hx)
    have hc := ha c (List.mem_append_right _ (List.mem_singleton.mpr rfl))
    rw [dv_snoc, Nat.pow_succ]
    omega
theorem fig_l {z : Str} (h : isFig z 60 = true) : FigL z.cps.toList := by
  unfold isFig at h
  rw [Bool.and_eq_true, Bool.and_eq_true, Bool.or_eq_true] at h
  obtain ⟨⟨h1, h2⟩, h3⟩ := h
  have h1 := of_decide_eq_true h1
  rw [str_len] at h1
  refine ⟨h1.1, by omega, fun c hc => by rw [← fig_in]; exact List.all_eq_true.mp h2 c hc, ?_⟩
  rcases h3 with h3 | h3
  · rw [eq_of_beq h3]; exact .inl (by decide +kernel)
  · refine .inr fun r e => ?_
    rw [e] at h3
    simp at h3
theorem isg_in {c : Nat} (h : isG c = true) : 48 ≤ c ∧ c ≤ 57 := by
  unfold isG at h
  rw [Bool.and_eq_true] at h
  exact ⟨of_decide_eq_true h.1, of_decide_eq_true h.2⟩
theorem amt_l {z : Str} (h : isAmt z = true) : AmtL z.cps.toList ∧ intText? z = some (numA z) ∧ -(10 ^ 60) < numA z ∧ numA z < 10 ^ 60 ∧ z.length ≤ 61 := by
  unfold isAmt at h
  by_cases c : (z.cps.toList[0]? == some 45) = true
  · rw [if_pos c, Bool.and_eq_true] at h
    have c' := eq_of_beq c
    obtain ⟨l, hl⟩ : ∃ l, z.cps.toList = 45 :: l := by
      cases e : z.cps.toList with
      | nil => rw [e] at c'; cases c'
      | cons a l => rw [e] at c'; injection c' with c'; exact ⟨l, by rw [c']⟩
    have fl := fig_l h.2
    have et : (tlS z).cps.toList = l := by unfold tlS; rw [hl]; rfl
    rw [et] at fl
    have ne : l ≠ [48] := fun e => by
      have h1 := h.1
      have : z = "-0" := by rw [str_list hl, e]; decide +kernel
      rw [this] at h1
      exact absurd h1 (by decide)
    have zl : z.length ≤ 61 := by have := str_len z; rw [hl, List.length_cons] at this; have := fl.few; omega
    have hv := intText_neg hl (fun c hc => isg_in (fl.all c hc)) (fun e => by have := fl.one; rw [e] at this; simp at this) (by omega)
    have lt := digits_lt l.length l rfl fun c hc => isg_in (fl.all c hc)
    have lt2 : NumText.digitsVal l < 10 ^ 60 := Nat.lt_of_lt_of_le lt (Nat.pow_le_pow_right (by decide) fl.few)
    have en : numA z = -((NumText.digitsVal l : Nat) : Int) := by unfold numA; rw [hv]; rfl
    refine ⟨.inr ⟨l, hl, fl, ne⟩, by rw [en]; exact hv, ?_, ?_, zl⟩ <;> rw [en] <;> omega
  · rw [if_neg c] at h
    have fl := fig_l h
    have zl : z.length ≤ 60 := by have := str_len z; have := fl.few; omega
    have hv := intText_digits (x := z) (fun c hc => isg_in (fl.all c hc)) (fun e => by have := fl.one; rw [e] at this; simp at this) (by omega)
    have lt := digits_lt _ z.cps.toList rfl fun c hc => isg_in (fl.all c hc)
    have lt2 : NumText.digitsVal z.cps.toList < 10 ^ 60 := Nat.lt_of_lt_of_le lt (Nat.pow_le_pow_right (by decide) fl.few)
    have en : numA z = ((NumText.digitsVal z.cps.toList : Nat) : Int) := by unfold numA; rw [hv]; rfl
    refine ⟨.inl fl, by rw [en]; exact hv, ?_, ?_, by omega⟩ <;> rw [en] <;> omega
def WyP (w nm : Str) (z : Int) : Prop := ∃ s d, Txt.partition w ":" = (nm, s, d) ∧ isName nm = true ∧ isAmt d = true ∧ z = numA d
theorem wy_one {w nm nm' : Str} {z z' : Int} (a : WyP w nm z) (b : WyP w nm' z') : nm' = nm ∧ z' = z := by
  obtain ⟨s, d, e, _, _, rfl⟩ := a
  obtain ⟨s', d', e', _, _, rfl⟩ := b
  rw [e] at e'
  injection e' with e1 e2
  injection e2 with _ e3
  exact ⟨e1.symm, by rw [e3]⟩
def spPWayX (K : PySem.W.Frag) : Sp := fun vs H Q E => ∃ w : Str, vs = [.str w] ∧ w.length ≤ 100000 ∧ (∀ nm z, WyP w nm z → ∀ (p : Addr) (H' : Hp), Same H H' → H' p = some (.tup [.str nm, .int z]) → Q (.ref p) H') ∧ ((∀ nm z, ¬ WyP w nm z) → ∀ H', Same H H' → E (.ref (clK K "NoText")) none H')
theorem ok_pwayX (F : DefAt K mg "read_purse_way" s_read_purse_way ["word"]) (T : Txt mg) (D_check_form : DnX P w K mg base "check_form" 1 ["right"] (spFormX K)) (D_is_name : Dn P w K mg base "is_name" 2 ["word"] spName) (D_is_amount : Dn P w K mg base "is_amount" 3 ["word"] spAmtX) : DnX P w K mg base "read_purse_way" 4 ["word"] (spPWayX K) := by
  have sc := sc_read_purse_way
  refine F.okX sc (fun vs H Q E h => ?_) (fun f cdv A outer s H vs Q E hr h => ?_)
  · obtain ⟨_, rfl, _⟩ := h; rfl
  obtain ⟨wd, rfl, hw, q1, q2⟩ := h
  refine ⟨_, (pss_cons (ps_set (i := 1) sc.nd rfl (Or.inl rfl) (pe_bm PySem.F.plainAttrs_str PySem.F.slot_str_partition PySem.F.type_str_partition mt_partition (pv 0) (pa_cons pe_str pa_nil)))
      (pss_cons (ps_expr (pe_dnX passR D_check_form hr (pa_cons (pe_and (pe_dn D_is_name hr (pa_cons (pe_ix (ixT (K := K) rfl) (pv 1) pe_int (fun _ _ => rfl)) pa_nil)) (pe_one (pe_dn D_is_amount hr (pa_cons (pe_ix (ixT (K := K) rfl) (pv 1) pe_int (fun _ _ => rfl)) pa_nil)))) pa_nil)))
      (pss_one (ps_ret (pe_tup (pa_cons (pe_ix (ixT (K := K) rfl) (pv 1) pe_int (fun _ _ => rfl)) (pa_cons (pe_callTy call_int_text rfl T.b_int PyProof.Rows.boot_int (pa_cons (pe_ix (ixT (K := K) rfl) (pv 1) pe_int (fun _ _ => rfl)) pa_nil)) pa_nil))))))), ?_⟩
  refine ⟨_, rfl, rfl, _, _, rfl, rfl, rfl, small (m := 100000) hw, fun tp htp => ?_⟩
  obtain ⟨nm, sep, d, hpt⟩ : ∃ nm sep d, Txt.partition wd ":" = (nm, sep, d) := ⟨_, _, _, rfl⟩
  have psum := StrLaws.partition_sum wd ":"
  rw [hpt] at psum
  have plen : nm.length + sep.length + d.length = wd.length := by rw [← psum, app_len, app_len]
  rw [hpt]
  have inv : ∀ nm' z, WyP wd nm' z → isName nm = true ∧ isAmt d = true := fun nm' z ⟨s', d', e, a1, a2, _⟩ => by
    rw [hpt] at e
    injection e with e1 e2
    injection e2 with _ e3
    rw [e1, e3]; exact ⟨a1, a2⟩
  have s1 := same_upd htp (.tup [V.str nm, .str sep, .str d])
  have k1 : upd H tp (.tup [V.str nm, .str sep, .str d]) tp = some (.tup [V.str nm, .str sep, .str d]) := upd_same
  generalize upd H tp (.tup [V.str nm, .str sep, .str d]) = H1 at s1 k1 ⊢
  refine ⟨_, rfl, tp, _, _, _, rfl, rfl, SqT.of k1, atI_nat (j := 0) rfl, nm, rfl, by omega, fun H2 s2 => ?_⟩
  refine ⟨_, rfl, ?_⟩
  refine ite2 (fun hn => ?_) (fun hn => ?_)
  · refine ⟨_, rfl, tp, _, _, _, rfl, rfl, SqT.of (s2 _ _ k1), atI_nat (j := 2) rfl, d, rfl, by omega, fun H3 s3 => ⟨_, rfl, fun ha => ?_, fun ha => q2 (fun nm' z w' => ?_) _ (s1.trans (s2.trans s3))⟩⟩
    · obtain ⟨_, hi, _, _, l61⟩ := amt_l ha
      have k3 := s3 _ _ (s2 _ _ k1)
      refine ⟨_, rfl, tp, _, _, _, rfl, rfl, SqT.of k3, atI_nat (j := 0) rfl, _, rfl, tp, _, _, _, rfl, rfl, SqT.of k3, atI_nat (j := 2) rfl, d, numA d, rfl, hi, by omega, (by show 2 ≤ sizeLine; decide), fun rp hrp => ?_⟩
      exact q1 nm _ ⟨sep, d, hpt, hn, ha, rfl⟩ rp _ (s1.trans (s2.trans (s3.trans (same_upd hrp _)))) upd_same
    · rw [(inv nm' z w').2] at ha; cases ha
  · refine ⟨_, rfl, (fun z => by cases z), fun _ => q2 (fun nm' z w' => ?_) _ (s1.trans s2)⟩
    exact hn (inv nm' z w').1
abbrev PPTy := Str × Int × List (Str × Int)
def rSI : Rel (Str × Int) := fun H p v => ∃ t : Addr, v = .ref t ∧ H t = some (.tup [.str p.1, .int p.2])
theorem mono_si : MonoR rSI := ⟨fun _ _ p v s h => by
  obtain ⟨t, e, h1⟩ := h
  exact ⟨t, e, s _ _ h1⟩⟩
def PPlP (t : Str) (p : PPTy) : Prop := ∃ w ws nm h vs, Txt.split t " " = w :: ws ∧ HdP w nm h "" ∧ isName nm = true ∧ Paired (fun x (q : Str × Int) => WyP x q.1 q.2) ws vs ∧ p = (nm, h, vs)
def rPP : Rel PPTy := fun H p v => ∃ (t l : Addr) (us : List V), v = .ref t ∧ H t = some (.tup [.str p.1, .int p.2.1, .ref l]) ∧ H l = some (.lst us) ∧ Paired (rSI H) p.2.2 us
theorem mono_pp : MonoR rPP := ⟨fun _ _ p v s h => by
  obtain ⟨t, l, us, e, h1, h2, h3⟩ := h
  exact ⟨t, l, us, e, s _ _ h1, s _ _ h2, paired_mono mono_si s h3⟩⟩
theorem wys_one : ∀ {ws : List Str} {vs vs' : List (Str × Int)}, Paired (fun x (q : Str × Int) => WyP x q.1 q.2) ws vs → Paired (fun x (q : Str × Int) => WyP x q.1 q.2) ws vs' → vs' = vs
  | _, _, _, .nil, .nil => rfl
  | _, _, _, .cons a t, .cons b t' => by
    obtain ⟨e1, e2⟩ := wy_one a b
    rw [wys_one t t', Prod.ext e1 e2]
theorem ppl_one {t : Str} {p p' : PPTy} (a : PPlP t p) (b : PPlP t p') : p' = p := by
  obtain ⟨w, ws, nm, h, vs, e, hd, _, pv, rfl⟩ := a
  obtain ⟨w', ws', nm', h', vs', e', hd', _, pv', rfl⟩ := b
  rw [e] at e'
  injection e' with e1 e2
  subst e1; subst e2
  obtain ⟨rfl, rfl, _⟩ := hd_one hd hd'
  rw [wys_one pv pv']
def spPPlX (K : PySem.W.Frag) : Sp := fun vs H Q E => ∃ t : Str, vs = [.str t] ∧ t.length ≤ 100000 ∧ (∀ p, PPlP t p → ∀ (v : V) (H' : Hp), Same H H' → rPP H' p v → Q v H') ∧ ((∀ p, ¬ PPlP t p) → ∀ H', Same H H' → E (.ref (clK K "NoText")) none H')
theorem ok_pplX (F : DefAt K mg "read_purse_place" s_read_purse_place ["text"]) (T : Txt mg) (D_read_head : DnX P w K mg base "read_head" 3 ["word"] (spHeadX K)) (D_check_form : DnX P w K mg base "check_form" 1 ["right"] (spFormX K)) (D_read_purse_way : DnX P w K mg base "read_purse_way" 4 ["word"] (spPWayX K)) : DnX P w K mg base "read_purse_place" 5 ["text"] (spPPlX K) := by
  have sc := sc_read_purse_place
  refine F.okX sc (fun vs H Q E h => ?_) (fun f cdv A outer s H vs Q E hr h => ?_)
  · obtain ⟨_, rfl, _⟩ := h; rfl
  obtain ⟨t, rfl, ht, q1, q2⟩ := h
  obtain ⟨fw, fl⟩ := split_few t " " (by decide +kernel)
  refine ⟨_, (pss_cons (ps_set (i := 1) sc.nd rfl (Or.inl rfl) (pe_bm PySem.F.plainAttrs_str PySem.F.slot_str_split PySem.F.type_str_split mt_split (pv 0) (pa_cons pe_str pa_nil)))
      (pss_cons (ps_set (i := 2) sc.nd rfl (Or.inl rfl) (pe_dnX passR D_read_head hr (pa_cons (pe_ix (ixL (K := K) rfl) (pv 1) pe_int (fun _ _ => rfl)) pa_nil)))
      (pss_cons (ps_expr (pe_dnX passR D_check_form hr (pa_cons (pe_cmpR op_eq (pe_ix (ixT (K := K) rfl) (pv 2) pe_int (fun _ _ => rfl)) pe_str (nomark _)) pa_nil)))
      (pss_one (ps_ret (pe_tup (pa_cons (pe_ix (ixT (K := K) rfl) (pv 2) pe_int (fun _ _ => rfl)) (pa_cons (pe_ix (ixT (K := K) rfl) (pv 2) pe_int (fun _ _ => rfl)) (pa_cons (pe_lcX (defScope s_read_purse_place) ["text", "words", "head"] ["word"] 1 [] (pi_list (pe_slice (slL (K := K) rfl) (pv 1) (po_some pe_int) po_none)) (fun _ _ _ _ _ _ _ => (ptg_name (show List.Nodup (["word"] : List Str) by decide +kernel) rfl rfl)) (fun _ _ _ _ _ _ _ => pts_nil) (fun _ _ _ _ _ _ _ hp => (pe_dnX hp D_read_purse_way hr (pa_cons (pv 0) pa_nil)))) pa_nil))))))))), ?_⟩
  refine ⟨_, rfl, rfl, t, _, rfl, rfl, rfl, small (m := 100002) (by omega), fun wp hwp => ?_⟩
  obtain ⟨wd, ws, hsp⟩ := List.exists_cons_of_ne_nil (split_ne t " ")
  rw [hsp] at fw fl
  rw [hsp]
  have lwd : wd.length ≤ 100000 := by have := fw wd List.mem_cons_self; omega
  have lws : ws.length ≤ 100000 := by rw [List.length_cons] at fl; omega
  have s1 := same_upd hwp (.lst ((wd :: ws).map V.str))
  have hw1 : upd H wp (.lst ((wd :: ws).map V.str)) wp = some (.lst (V.str wd :: ws.map V.str)) := upd_same
  generalize upd H wp (.lst ((wd :: ws).map V.str)) = H1 at s1 hw1 ⊢
  have inv : ∀ p, PPlP t p → ∃ nm h vs, HdP wd nm h "" ∧ isName nm = true ∧ Paired (fun x (q : Str × Int) => WyP x q.1 q.2) ws vs ∧ p = (nm, h, vs) := fun p z => by
    obtain ⟨w', ws', nm, h, vs, e, r⟩ := z
    rw [hsp] at e
    injection e with e1 e2
    subst e1; subst e2
    exact ⟨nm, h, vs, r⟩
  refine ⟨_, rfl, wp, _, _, _, rfl, rfl, SqL.of hw1, atI_nat (j := 0) rfl, wd, rfl, lwd, fun nm hand d hh hn hp H2 s2 _ hhp => ?_, fun no H2 s2 => q2 (fun p z => ?_) _ (s1.trans s2)⟩
  rotate_left
  · obtain ⟨nm, h, vs, a1, a2, _⟩ := inv p z
    exact no nm h "" a1 a2
  refine ⟨_, rfl, hp, _, _, _, rfl, rfl, SqT.of hhp, atI_nat (j := 2) rfl, rfl, _, rfl, fun c => ?_, fun c => q2 (fun p z => ?_) _ (s1.trans s2)⟩
  rotate_left
  · obtain ⟨nm', h', vs', a1, _⟩ := inv p z
    rw [← (hd_one hh a1).2.2] at c
    exact absurd c (by decide)
  have ed : d = "" := by have := of_decide_eq_true c; injection this
  subst ed
  refine ⟨_, rfl, hp, _, _, _, rfl, rfl, SqT.of hhp, atI_nat (j := 0) rfl, _, rfl, hp, _, _, _, rfl, rfl, SqT.of hhp, atI_nat (j := 1) rfl, _, rfl, 1, rfl, wp, _, rfl, SqL.of (s2 _ _ hw1), fun sp hs2 => ?_⟩
  rw [cut_from1]
  have s4 := same_upd hs2 (.lst ((V.str wd :: ws.map V.str).drop 1))
  have hs4 : upd H2 sp (.lst ((V.str wd :: ws.map V.str).drop 1)) sp = some (.lst (ws.map V.str)) := upd_same
  generalize upd H2 sp (.lst ((V.str wd :: ws.map V.str).drop 1)) = H4 at s4 hs4 ⊢
  refine ⟨sp, rfl, ⟨_, SqL.of hs4⟩, comp_listD (K := K) (a := sp) (xs := ws.map V.str) (fun i ys H5 => Same H4 H5 ∧ ∃ vs, Paired (fun x (q : Str × Int) => WyP x q.1 q.2) (ws.take i) vs ∧ Paired (rSI H5) vs ys) ⟨Same.refl _, [], .nil, .nil⟩ (small (m := 100000) (by rw [List.length_map]; exact lws)) (fun i ys H5 hi h => ?_) (fun i x ys H5 hi h => ?_) (fun ys H5 h bp hbp => ?_)⟩
  · obtain ⟨s5, vs, p1, p2⟩ := h
    refine ⟨SqL.of (s5 _ _ hs4), ?_⟩
    rw [← pr_len p2, ← pr_len p1]; exact List.length_take_le _ _
  · obtain ⟨s5, vs, p1, p2⟩ := h
    rw [List.getElem?_map] at hi
    obtain ⟨z, hz, rfl⟩ : ∃ z, ws[i]? = some z ∧ x = V.str z := by
      cases e : ws[i]? with
      | none => rw [e] at hi; cases hi
      | some z => rw [e] at hi; cases hi; exact ⟨z, rfl, rfl⟩
    refine comp_yes ?_
    refine ⟨_, rfl, z, rfl, by have := fw z (List.mem_cons_of_mem _ (List.mem_of_getElem? hz)); omega, fun nm' z' hy p H6 s6 hp6 => ⟨s5.trans s6, vs ++ [(nm', z')], ?_, L2.Paired.app (paired_mono mono_si s6 p2) (.cons ⟨p, rfl, hp6⟩ .nil)⟩, fun no H6 s6 => q2 (fun p' z' => ?_) _ (s1.trans (s2.trans (s4.trans (s5.trans s6))))⟩
    · rw [List.take_add_one, hz]
      exact L2.Paired.app p1 (.cons hy .nil)
    · obtain ⟨_, _, vs', _, _, pv, _⟩ := inv p' z'
      obtain ⟨y, _, hy⟩ := L2.Paired.at pv hz
      exact no _ _ hy
  obtain ⟨s5, vs, p1, p2⟩ := h
  rw [List.length_map, List.take_length] at p1
  refine ⟨(by show 3 ≤ sizeLine; decide), fun rp hrp => ?_⟩
  have s6 := same_upd hbp (.lst ys)
  have s7 := same_upd hrp (.tup [V.str nm, .int hand, .ref bp])
  exact q1 (nm, hand, vs) ⟨wd, ws, nm, hand, vs, hsp, hh, hn, p1, rfl⟩ _ _ (s1.trans (s2.trans (s4.trans (s5.trans (s6.trans s7))))) ⟨rp, bp, ys, rfl, upd_same, s7 _ _ upd_same, paired_mono mono_si (s6.trans s7) p2⟩
def FormP (s : Str) (ps : List PPTy) : Prop := Paired PPlP (partsT s) ps
def pnms (ps : List PPTy) : List Str := ps.map fun p => p.1
def prow (ns : List Str) (p : PPTy) : PRow := (p.2.1, p.2.2.map fun w => (((ns.idxOf w.1 : Nat) : Int), w.2))
def prows (ps : List PPTy) : List PRow := ps.map (prow (pnms ps))
theorem formp_one {s : Str} {ps ps' : List PPTy} (a : FormP s ps) (b : FormP s ps') : ps' = ps := by
  unfold FormP at a b
  generalize partsT s = l at a b
  induction a generalizing ps' with
  | nil => cases b; rfl
  | cons h _ ih =>
    cases b with
    | cons h' t' => rw [ppl_one h h', ih t']
def spReadPX (K : PySem.W.Frag) : Sp := fun vs H Q E => ∃ v : V, vs = [v] ∧
  ((∃ S, kindV H v S ∧ PySem.W.kitOne K (.type S) (.type "str") = some false ∧ ∀ H', Same H H' → E (.ref (clK K "NoText")) none H') ∨
   ∃ s : Str, v = .str s ∧ s.length ≤ 50000 ∧ ((∀ ps, ¬ FormP s ps) → ∀ H', Same H H' → E (.ref (clK K "NoText")) none H') ∧
    ∀ ps, FormP s ps → ps.length ≤ 1000 ∧ (∀ p ∈ ps, p.2.2.length ≤ 60) ∧ (¬ (pnms ps).Nodup → ∀ H', Same H H' → E (.ref (clK K "NoName")) none H') ∧
      ((pnms ps).Nodup → (∃ p ∈ ps, ∃ x ∈ p.2.2, x.1 ∉ pnms ps) → ∀ H', Same H H' → E (.ref (clK K "NoName")) none H') ∧
      ((pnms ps).Nodup → (∀ p ∈ ps, ∀ x ∈ p.2.2, x.1 ∈ pnms ps) → (16 < ps.length → ∀ H', Same H H' → E (.ref (clK K "TooMany")) none H') ∧ (ps.length ≤ 16 → (∃ r ∈ prows ps, ¬ PwGood r.2) → ∀ H', Same H H' → E (.ref (clK K "NoWay")) none H') ∧
        (ps.length ≤ 16 → (∀ r ∈ prows ps, PwGood r.2) → ∀ (p : Addr) (xs : List V) (H' : Hp), Same H H' → H' p = some (.tup xs) → Q (.ref p) H')))
theorem form_in {s : Str} {ps : List PPTy} (f : FormP s ps) : ∀ p ∈ ps, (p.2.1 = 0 ∨ p.2.1 = 1) ∧ ∀ w ∈ p.2.2, -(10 ^ 60) < w.2 ∧ w.2 < 10 ^ 60 := fun p hp => by
  obtain ⟨i, hi⟩ := List.getElem?_of_mem hp
  obtain ⟨t, _, w, ws, nm, h, vs, _, hd, _, pv, rfl⟩ := L2.Paired.ta f hi
  refine ⟨?_, fun y hy => ?_⟩
  · rcases hd with ⟨_, e, _⟩ | ⟨_, _, e, _⟩
    · exact .inl e
    · exact .inr e
  · obtain ⟨j, hj⟩ := List.getElem?_of_mem hy
    obtain ⟨x, _, s', d, _, _, ha, ez⟩ := L2.Paired.ta pv hj
    obtain ⟨_, _, b1, b2, _⟩ := amt_l ha
    rw [ez]; exact ⟨b1, b2⟩
theorem ok_readPX (F : DefAt K mg "read_purses" s_read_purses ["text"]) (T : Txt mg) (D_places_told : DnX P w K mg base "places_told" 2 ["text"] (spToldX K)) (D_read_purse_place : DnX P w K mg base "read_purse_place" 5 ["text"] (spPPlX K)) (D_numbered : DnX P w K mg base "numbered" 1 ["names"] (spNumberedX K)) (D_number_of : DnX P w K mg base "number_of" 1 ["numbers", "name"] (spNumOfX K)) (D_purse_game : DnX P w K mg base "purse_game" 6 ["rows"] (spPurseX K)) : DnX P w K mg base "read_purses" 7 ["text"] (spReadPX K) := by
  have sc := sc_read_purses
  refine F.okX sc (fun vs H Q E h => ?_) (fun f cdv A outer s H vs Q E hr h => ?_)
  · obtain ⟨_, rfl, _⟩ := h; rfl
  obtain ⟨v, rfl, h⟩ := h
  refine ⟨_, (pss_cons (ps_lcX (i := 1) (defScope s_read_purses) ["text", "places", "names", "numbers", "rows", "place"] ["part"] 1 [] sc.nd rfl rfl (pi_list (pe_dnX passR D_places_told hr (pa_cons (pv 0) pa_nil))) (fun _ _ _ _ _ _ _ => (ptg_name (show List.Nodup (["part"] : List Str) by decide +kernel) rfl rfl)) (fun _ _ _ _ _ _ _ => pts_nil) (fun _ _ _ _ _ _ _ hp => (pe_dnX hp D_read_purse_place hr (pa_cons (pv 0) pa_nil))))
      (pss_cons (ps_lc (i := 2) (defScope s_read_purses) ["text", "places", "names", "numbers", "rows", "place"] ["place"] 1 [] sc.nd rfl rfl (pi_list (pv 1)) (fun _ _ _ _ _ _ => (ptg_name (show List.Nodup (["place"] : List Str) by decide +kernel) rfl rfl)) (fun _ _ _ _ _ _ => pts_nil) (fun _ _ _ _ _ _ => (pe_ix (ixT (K := K) rfl) (pv 0) pe_int (fun _ _ => rfl))))
      (pss_cons (ps_set (i := 3) sc.nd rfl (Or.inr rfl) (pe_dnX passR D_numbered hr (pa_cons (pv 2) pa_nil)))
      (pss_cons (ps_set (i := 4) sc.nd rfl (Or.inl rfl) (pe_lst pa_nil))
      (pss_cons (ps_for PassesOwn.leaving rfl (pi_list (pv 1)) (pg_name (i := 5) sc.nd rfl (Or.inl rfl))
      (pss_one (ps_expr (pe_bm PySem.F.plainAttrs_list PySem.F.slot_list_append PySem.F.type_list_append mt_append (pv 4) (pa_cons (pe_tup (pa_cons (pe_ix (ixT (K := K) rfl) (pv 5) pe_int (fun _ _ => rfl)) (pa_cons (pe_lcX (defScope s_read_purses) ["text", "places", "names", "numbers", "rows", "place"] ["name", "amount", "numbers"] 2 [3] (pi_list (pe_ix (ixT (K := K) rfl) (pv 5) pe_int (fun _ _ => rfl))) (fun _ _ _ _ _ _ _ => (ptg2 (K := K) rfl rfl (show List.Nodup (["name", "amount", "numbers"] : List Str) by decide +kernel) rfl rfl rfl rfl)) (fun _ _ _ _ _ _ _ => pts_nil) (fun _ _ _ _ _ _ _ hp => (pe_tup (pa_cons (pe_dnX hp D_number_of hr (pa_cons (pv 2) (pa_cons (pv 0) pa_nil))) (pa_cons (pv 1) pa_nil))))) pa_nil))) pa_nil)))))
      (pss_one (ps_ret (pe_tup (pa_cons (pv 2) (pa_cons (pe_dnX passR D_purse_game hr (pa_cons (pv 4) pa_nil)) pa_nil)))))))))), ?_⟩
  rcases h with ⟨S, hk, kt, q⟩ | ⟨s0, rfl, hs0, q0, q⟩
  · exact ⟨_, rfl, _, rfl, .inl ⟨S, hk, kt, q⟩⟩
  obtain ⟨fw, fl⟩ : (∀ p ∈ partsT s0, p.length ≤ s0.length) ∧ (partsT s0).length ≤ s0.length + 1 := by
    unfold partsT
    split
    · exact ⟨fun _ z => (by cases z), Nat.zero_le _⟩
    · exact split_few s0 "; " (by decide +kernel)
  refine ⟨_, rfl, _, rfl, .inr ⟨s0, rfl, by omega, fun p0 H0 s0' _ hp0 => ?_⟩⟩
  replace hp0 : H0 p0 = some (.lst ((partsT s0).map V.str)) := hp0
  have hpl : ((partsT s0).map V.str).length = (partsT s0).length := List.length_map _
  refine ⟨p0, rfl, ⟨_, SqL.of hp0⟩, comp_listD (K := K) (a := p0) (xs := (partsT s0).map V.str) (fun i ys H2 => Same H0 H2 ∧ ∃ ps, Paired PPlP ((partsT s0).take i) ps ∧ Paired (rPP H2) ps ys) ⟨Same.refl _, [], .nil, .nil⟩ (small (m := 100000) (by omega)) (fun i ys H2 hi h => ?_) (fun i x ys H2 hi h => ?_) (fun ys H2 h pl hpl2 => ?_)⟩
  · obtain ⟨s2, ps, p1, p2⟩ := h
    refine ⟨SqL.of (s2 _ _ hp0), ?_⟩
    rw [← pr_len p2, ← pr_len p1]; exact List.length_take_le _ _
  · obtain ⟨s2, ps, p1, p2⟩ := h
    rw [List.getElem?_map] at hi
    obtain ⟨t, ht, rfl⟩ : ∃ t, (partsT s0)[i]? = some t ∧ x = V.str t := by
      cases e : (partsT s0)[i]? with
      | none => rw [e] at hi; cases hi
      | some z => rw [e] at hi; cases hi; exact ⟨z, rfl, rfl⟩
    refine comp_yes ?_
    refine ⟨_, rfl, t, rfl, by have := fw t (List.mem_of_getElem? ht); omega, fun p hp u H6 s6 hu => ⟨s2.trans s6, ps ++ [p], ?_, L2.Paired.app (paired_mono mono_pp s6 p2) (.cons hu .nil)⟩, fun no H6 s6 => q0 (fun ps' f => ?_) _ (s0'.trans (s2.trans s6))⟩
    · rw [List.take_add_one, ht]
      exact L2.Paired.app p1 (.cons hp .nil)
    · obtain ⟨p, _, hp⟩ := L2.Paired.at f ht
      exact no p hp
  obtain ⟨s2, ps, p1, p2⟩ := h
  rw [hpl, List.take_length] at p1
  have fo : FormP s0 ps := p1
  have fin := form_in fo
  obtain ⟨b1, b2, qn, qm, qg⟩ := q ps fo
  have s3 := s0'.trans (s2.trans (same_upd hpl2 (.lst ys)))
  have hpl3 : upd H2 pl (.lst ys) pl = some (.lst ys) := upd_same
  have pr := paired_mono mono_pp (same_upd hpl2 (.lst ys)) p2
  generalize upd H2 pl (.lst ys) = H3 at s3 hpl3 pr ⊢
  have hyl : ys.length = ps.length := (pr_len pr).symm
  have nl : (pnms ps).length = ps.length := List.length_map _
  refine ⟨_, rfl, pl, rfl, ⟨_, SqL.of hpl3⟩, comp_listD (K := K) (a := pl) (xs := ys) (fun i zs H4 => H4 = H3 ∧ zs = ((pnms ps).take i).map V.str) ⟨rfl, rfl⟩ (small (m := 1000) (by omega)) (fun i zs H4 hi h => ?_) (fun i x zs H4 hi h => ?_) (fun zs H4 h na hna => ?_)⟩
  · obtain ⟨rfl, rfl⟩ := h
    exact ⟨SqL.of hpl3, by simp; omega⟩
  · obtain ⟨rfl, rfl⟩ := h
    obtain ⟨p, hp, t, l, us, rfl, ht, _⟩ := L2.Paired.ta pr hi
    refine comp_yes ?_
    refine ⟨_, rfl, t, _, _, _, rfl, rfl, SqT.of ht, atI_nat (j := 0) rfl, rfl, ?_⟩
    have hnm : (pnms ps)[i]? = some p.1 := by unfold pnms; rw [List.getElem?_map, hp]; rfl
    rw [List.take_add_one, hnm, List.map_append]; rfl
  obtain ⟨rfl, rfl⟩ := h
  rw [hyl, ← nl, List.take_length]
  have s4 := same_upd hna (.lst ((pnms ps).map V.str))
  have hn4 : upd H4 na (.lst ((pnms ps).map V.str)) na = some (.lst ((pnms ps).map V.str)) := upd_same
  replace pr := paired_mono mono_pp s4 pr
  have hpl4 := s4 _ _ hpl3
  replace s4 := s3.trans s4
  generalize upd H4 na (.lst ((pnms ps).map V.str)) = H5 at s4 hn4 pr hpl4 ⊢
  refine ⟨_, rfl, na, _, rfl, SqL.of hn4, by omega, fun nd dp H6 s6 hd6 => ?_, fun nn H6 s6 => qn nn _ (s4.trans s6)⟩
  refine ⟨Nat.zero_le _, fun g hg => ?_⟩
  have hpl6 := s6 _ _ hpl4
  have rl : (prows ps).length = ps.length := List.length_map _
  refine ⟨_, rfl, pl, rfl, ⟨_, SqL.of (same_upd hg _ _ _ hpl6)⟩, for_list (K := K) (a := pl) (xs := ys) (fun i σ H7 => ∃ y : Option V, σ = [some (.str s0), some (.ref pl), some (.ref na), some (.ref dp), some (.ref g), y] ∧ Bld rPR H6 H7 g ((prows ps).take i) ∧ ∀ p ∈ ps.take i, ∀ x ∈ p.2.2, x.1 ∈ pnms ps)
    ⟨_, rfl, Bld.start (Same.refl _) hg, fun _ z => by cases z⟩ (fun i σ H7 _ h => ?_) (fun i x σ H7 hi h => ?_) (fun σ H7 h => ?_)⟩
  · obtain ⟨_, _, b, _⟩ := h
    exact SqL.of (b.s _ _ hpl6)
  · obtain ⟨y, rfl, b, hin⟩ := h
    obtain ⟨p, hp, t, l, wvs, rfl, ht, hl4, prw⟩ := L2.Paired.ta pr hi
    have hpm := List.mem_of_getElem? hp
    have hrG : (prows ps)[i]? = some (prow (pnms ps) p) := by unfold prows; rw [List.getElem?_map, hp]; rfl
    have s7 := s6.trans b.s
    have ht7 := s7 _ _ ht
    have hl7 := s7 _ _ hl4
    have hd7 := b.s _ _ hd6
    replace prw := paired_mono mono_si s7 prw
    have hwl : wvs.length = p.2.2.length := (pr_len prw).symm
    have h60 := b2 p hpm
    have rl2 : (prow (pnms ps) p).2.length = p.2.2.length := by unfold prow; rw [List.length_map]
    obtain ⟨gvs, hgv, _⟩ := b.sq
    refine ⟨_, rfl, .inl ⟨rfl, _, SqL.of hgv⟩, _, rfl, t, _, _, _, rfl, rfl, SqT.of ht7, atI_nat (j := 1) rfl, _, rfl, t, _, _, _, rfl, rfl, SqT.of ht7, atI_nat (j := 2) rfl, l, rfl, ⟨_, SqL.of hl7⟩, comp_listD (K := K) (a := l) (xs := wvs) (fun k zs H8 => ∃ us : List (Addr × Int × Int), Same H7 H8 ∧ zs = us.map (fun u => V.ref u.1) ∧ us.map (fun u => u.2) = (prow (pnms ps) p).2.take k ∧ (∀ u ∈ us, newp H7 H8 u.1 = some (.tup [.int u.2.1, .int u.2.2])) ∧ ∀ x ∈ p.2.2.take k, x.1 ∈ pnms ps) ⟨[], Same.refl _, rfl, rfl, (fun _ z => by cases z), (fun _ z => by cases z)⟩ (small (m := 1000) (by omega)) (fun k zs H8 hk h => ?_) (fun k x zs H8 hk h => ?_) (fun zs H8 h wp hwp => ?_)⟩
    · obtain ⟨us, s8, rfl, e2, _⟩ := h
      refine ⟨SqL.of (s8 _ _ hl7), ?_⟩
      have := congrArg List.length e2
      rw [List.length_map, List.length_take] at this
      rw [List.length_map]; omega
    · obtain ⟨us, s8, rfl, e2, e3, hk2⟩ := h
      obtain ⟨wz, hwz, t3, rfl, ht3⟩ := L2.Paired.ta prw hk
      refine comp_yesT (SqT.of (s8 _ _ ht3)) rfl ?_
      refine ⟨_, rfl, _, rfl, dp, pnms ps, wz.1, rfl, s8 _ _ hd7, nd, fun zin => ⟨_, rfl, (by show 2 ≤ sizeLine; decide), fun t2 ht2 => ?_⟩, fun zno => qm nd ⟨p, hpm, wz, List.mem_of_getElem? hwz, zno⟩ _ (s4.trans (s7.trans s8))⟩
      have hpw : (prow (pnms ps) p).2[k]? = some ((((pnms ps).idxOf wz.1 : Nat) : Int), wz.2) := by unfold prow; rw [List.getElem?_map, hwz]; rfl
      refine ⟨us ++ [(t2, (((pnms ps).idxOf wz.1 : Nat) : Int), wz.2)], s8.trans (same_upd ht2 _), by simp, by rw [List.map_append, e2, List.take_add_one, hpw]; rfl, fun u hu => ?_, fun x hx => ?_⟩
      · rcases List.mem_append.mp hu with h | h
        · exact newp_in (same_upd ht2 _) _ _ (e3 u h)
        · rw [List.mem_singleton.mp h]
          rw [newp_at (s8.free ht2), upd_same]
      · rcases (mem_take_s hwz).mp hx with h | h
        · exact hk2 x h
        · rw [h]; exact zin
    obtain ⟨us, s8, rfl, e2, e3, hk2⟩ := h
    rw [hwl, List.take_length] at hk2
    rw [hwl, ← rl2, List.take_length] at e2
    refine ⟨(by show 2 ≤ sizeLine; decide), fun t2 ht2 => ?_⟩
    have sw := same_upd hwp (.lst (us.map fun u => V.ref u.1))
    have sx := sw.trans (same_upd ht2 (.tup [.int p.2.1, .ref wp]))
    have hne : wp ≠ t2 := fun z => by rw [← z, upd_same] at ht2; cases ht2
    have W : WaysAt (newp H7 (upd (upd H8 wp (.lst (us.map fun u => V.ref u.1))) t2 (.tup [.int p.2.1, .ref wp]))) wp us := by
      refine ⟨by rw [newp_at (s8.free hwp), upd_ne hne, upd_same], fun u hu => ?_⟩
      exact newp_in sx _ _ (e3 u hu)
    have R := W.rel
    rw [e2] at R
    have hrow : rPR (newp H7 (upd (upd H8 wp (.lst (us.map fun u => V.ref u.1))) t2 (.tup [.int p.2.1, .ref wp]))) (prow (pnms ps) p) (.ref t2) := ⟨t2, _, _, rfl, by rw [newp_at ((s8.trans sw).free ht2), upd_same]; rfl, rfl, R⟩
    obtain ⟨vs4, k1, k2, b4⟩ := b.push mono_pr (s8.trans sx) hrow
    refine ⟨g, vs4, _, rfl, rfl, k1, (smlt (m := 1000) (by rw [k2, List.length_take]; omega)), ?_⟩
    refine ⟨_, rfl, ?_, fun x hx => ?_⟩
    · rw [List.take_add_one, hrG]
      exact b4
    · rcases (mem_take_s hp).mp hx with h | h
      · exact hin x h
      · rw [h]; exact hk2
  obtain ⟨y, rfl, b, hin⟩ := h
  rw [hyl, List.take_length] at hin
  rw [hyl, ← rl, List.take_length] at b
  have hgm : rPG H7 (prows ps) (.ref g) := mono_pg.up (newp_same _ _) (b.done mono_pr)
  obtain ⟨g1, g2, g3⟩ := qg nd hin
  have s47 := s4.trans (s6.trans b.s)
  have pin : PIn (prows ps) := fun r hr => by
    obtain ⟨p, hp, rfl⟩ := List.mem_map.mp hr
    refine ⟨(fin p hp).1, fun w hw => ?_, by show (p.2.2.map _).length ≤ 60; rw [List.length_map]; exact b2 p hp⟩
    obtain ⟨x, hx, rfl⟩ := List.mem_map.mp hw
    have := List.idxOf_lt_length_iff.mpr (hin p hp x hx)
    have fx := (fin p hp).2 x hx
    exact ⟨by show (0 : Int) ≤ (((pnms ps).idxOf x.1 : Nat) : Int); omega, by show (((pnms ps).idxOf x.1 : Nat) : Int) < _; rw [rl, ← nl]; omega, fx.1, fx.2⟩
  refine ⟨_, rfl, _, rfl, .ref g, prows ps, rfl, hgm, by omega, pin, fun h H8 s8 => g1 (by omega) _ (s47.trans s8), fun h hx H8 s8 => g2 (by omega) hx _ (s47.trans s8), fun h hx g8 gv8 H8 s8 hg8 pr8 => ?_⟩
  refine ⟨(by show 2 ≤ sizeLine; decide), fun rp hrp => ?_⟩
  exact g3 (by omega) hx rp _ _ (s47.trans (s8.trans ((same_upd hg8 _).trans (same_upd hrp _)))) upd_same
theorem flat_w : ∀ (ws : List (List Nat)) (p : List Nat), flatL [32] (p :: ws) = p ++ wL ws
  | [], p => (List.append_nil p).symm
  | q :: r, p => by
    show p ++ [32] ++ flatL [32] (q :: r) = _
    rw [flat_w r q, wL_cons, List.append_assoc]; rfl
def cpL (ws : List Str) : List (List Nat) := ws.map fun w => w.cps.toList
theorem hd_l {w nm : Str} {h : Int} {d : Str} (z : HdP w nm h d) : ∃ sg, (sg = 43 ∨ sg = 45) ∧ w.cps.toList = nm.cps.toList ++ sg :: d.cps.toList := by
  have go : ∀ (c : Nat) (s : Str), inT w c = true → Txt.partition w ⟨#[c]⟩ = (nm, s, d) → w.cps.toList = nm.cps.toList ++ c :: d.cps.toList := fun c s hi hp => by
    rw [inT_mem] at hi
    obtain ⟨a, b, e, hn⟩ := List.eq_append_cons_of_mem (of_decide_eq_true hi)
    have ew : w = ⟨(a ++ c :: b).toArray⟩ := str_list e
    have := part_one (b := b) hn
    rw [← ew, hp] at this
    injection this with t1 t2
    injection t2 with _ t3
    rw [e, t1, t3]
  rcases z with ⟨hi, _, s, hp⟩ | ⟨_, hi, _, s, hp⟩
  · exact ⟨43, .inl rfl, go 43 s hi hp⟩
  · exact ⟨45, .inr rfl, go 45 s hi hp⟩
def sgS (h : Int) : Str := ⟨#[sgn h]⟩
theorem sgn_is (h : Int) : sgn h = 43 ∨ sgn h = 45 := by
  unfold sgn; split
  · exact .inl rfl
  · exact .inr rfl
theorem name_no {z : Str} (h : isName z = true) {c : Nat} (hc : c ∈ z.cps.toList) : 97 ≤ c ∧ c ≤ 122 := (name_few h).2.2 c hc
def Suf (l : List Nat) : Prop := l = [] ∨ ∃ r, l = 59 :: r
theorem wy_l {w nm : Str} {z : Int} (h : WyP w nm z) : WayL w.cps.toList := by
  obtain ⟨s, d, hp, h1, h2, _⟩ := h
  have al := (amt_l h2).1
  have dne : d.length ≠ 0 := fun e => by
    have e2 : d.cps.toList = [] := List.length_eq_zero_iff.mp (by rw [← str_len]; exact e)
    rw [e2] at al
    rcases al with al | ⟨r, e3, _⟩
    · have := al.one; simp at this
    · cases e3
  have hin : 58 ∈ w.cps.toList := by
    refine Classical.byContradiction fun hn => dne ?_
    rcases PyProof.Rows.partition_head w ":" with ⟨e, _⟩ | ⟨i, _, ha, _⟩
    · rw [hp] at e
      have psum := StrLaws.partition_sum w ":"
      rw [hp] at psum
      have e' : nm = w := e
      have : nm.length + s.length + d.length = w.length := by rw [← psum, app_len, app_len]
      rw [e'] at this
      omega
    · exact absurd (List.mem_of_getElem? (at_first (y := ":") (c := 58) (r := []) rfl ha)) hn
  obtain ⟨a, b, e, hn⟩ := List.eq_append_cons_of_mem hin
  have ew : w = ⟨(a ++ 58 :: b).toArray⟩ := str_list e
  have := part_one (b := b) hn
  rw [← ew] at this
  have h3 : (nm, s, d) = ((⟨a.toArray⟩ : Str), (⟨#[58]⟩ : Str), (⟨b.toArray⟩ : Str)) := hp.symm.trans this
  injection h3 with t1 t2
  injection t2 with _ t3
  exact ⟨nm.cps.toList, d.cps.toList, name_l h1, al, by rw [e, t1, t3]⟩
theorem ppl_l {t : Str} {p : PPTy} (z : PPlP t p) : PPartL t.cps.toList := by
  obtain ⟨w, ws, nm, h, vs, e, hd, h1, pv, _⟩ := z
  obtain ⟨sg, hs, ew⟩ := hd_l hd
  refine ⟨nm.cps.toList, sg, cpL ws, name_l h1, hs, fun m hm => ?_, ?_⟩
  · obtain ⟨x, hx, rfl⟩ := List.mem_map.mp hm
    obtain ⟨i, hi⟩ := List.getElem?_of_mem hx
    obtain ⟨y, _, hy⟩ := L2.Paired.at pv hi
    exact wy_l hy
  · rw [split_cps t " ", e]
    show flatL [32] (w.cps.toList :: cpL ws) = _
    rw [flat_w, ew, List.append_assoc]; rfl
theorem formp_acc {s : Str} {ps : List PPTy} (f : FormP s ps) : accP (runP .t0 s.cps.toList) = true := by
  unfold FormP partsT at f
  by_cases z : s.length = 0
  · have : s.cps.toList = [] := List.length_eq_zero_iff.mp (by rw [← str_len]; exact z)
    rw [this]; rfl
  · rw [if_neg z] at f
    rw [split_cps s "; "]
    refine midP_acc (runp_parts (.inl rfl) (fun e => ?_) fun p hp => ?_)
    · exact split_ne s "; " (List.map_eq_nil_iff.mp e)
    · obtain ⟨t, ht, rfl⟩ := List.mem_map.mp hp
      obtain ⟨i, hi⟩ := List.getElem?_of_mem ht
      obtain ⟨r, _, hr⟩ := L2.Paired.at f hi
      exact ppl_l hr
theorem no_form {s : Str} (h : accP (runP .t0 s.cps.toList) = false) : ∀ ps, ¬ FormP s ps := fun ps f => by
  rw [formp_acc f] at h; cases h
def textW (W : List (List Str)) : Str := Txt.join "; " (W.map (Txt.join " "))
def wordL (w : List Str) : List Nat := flatL [32] (cpL w)
theorem text_l (W : List (List Str)) : (textW W).cps.toList = flatL [59, 32] (W.map wordL) := by
  unfold textW
  rw [flat_join, List.map_map]
  have : W.map ((fun p => p.cps.toList) ∘ Txt.join " ") = W.map wordL := List.map_congr_left fun w _ => by
    show (Txt.join " " w).cps.toList = _
    rw [flat_join]; rfl
  rw [this]; rfl
def wyS (nm : Str) (z : Int) : Str := nm ++ (":" : Str) ++ intS z
def hdS (nm : Str) (h : Int) : Str := nm ++ sgS h
def itW (p : PPTy) : List Str := hdS p.1 p.2.1 :: p.2.2.map fun w => wyS w.1 w.2
def AmtOk (z : Int) : Prop := -(10 ^ 60) < z ∧ z < 10 ^ 60
structure POk (p : PPTy) : Prop where
  nm : isName p.1 = true
  h : p.2.1 = 0 ∨ p.2.1 = 1
  ws : ∀ x ∈ p.2.2, isName x.1 = true ∧ AmtOk x.2
  l : p.2.2.length ≤ 3
theorem hdS_l (nm : Str) (h : Int) : (hdS nm h).cps.toList = nm.cps.toList ++ [sgn h] := by unfold hdS; rw [app_list]; rfl
theorem wyS_l (nm : Str) (z : Int) : (wyS nm z).cps.toList = nm.cps.toList ++ 58 :: (intS z).cps.toList := by
  unfold wyS; rw [app_list, app_list, List.append_assoc]; rfl
theorem itw_l (p : PPTy) : wordL (itW p) = p.1.cps.toList ++ sgn p.2.1 :: wL (cpL (p.2.2.map fun w => wyS w.1 w.2)) := by
  show flatL [32] ((hdS p.1 p.2.1).cps.toList :: cpL (p.2.2.map fun w => wyS w.1 w.2)) = _
  rw [flat_w, hdS_l, List.append_assoc]; rfl
theorem amt_is {z : Int} (h : AmtOk z) : isAmt (intS z) = true ∧ numA (intS z) = z ∧ (intS z).length ≤ 61 ∧ ∀ c ∈ (intS z).cps.toList, c = 45 ∨ (48 ≤ c ∧ c ≤ 57) := by
  have ha : z.natAbs < 10 ^ 60 := by obtain ⟨h1, h2⟩ := h; omega
  have hd := dl_le (k := 60) (by decide) ha
  have fig : ∀ {x : Str}, x.cps.toList = dl z.natAbs → isFig x 60 = true := fun {x} hx => by
    unfold isFig
    rw [Bool.and_eq_true, Bool.and_eq_true, Bool.or_eq_true, str_len, hx]
    refine ⟨⟨decide_eq_true ⟨dl_len _, by omega⟩, List.all_eq_true.mpr fun c hc => ?_⟩, ?_⟩
    · rw [fig_in]
      have := dl_all _ c hc
      unfold isG
      rw [decide_eq_true this.1, decide_eq_true this.2]; rfl
    · by_cases e : z.natAbs = 0
      · exact .inl (by rw [str_list hx, e, dl_zero]; decide +kernel)
      · refine .inr ?_
        cases hz : dl z.natAbs with
        | nil => have := dl_len z.natAbs; rw [hz] at this; simp at this
        | cons c r =>
          have : c ≠ 48 := fun e2 => e (dl_head (by rw [hz, e2]))
          simp [this]
  refine ⟨?_, by unfold numA; rw [show intText? (intS z) = some z from (int_back z ha).1]; rfl, (int_back z ha).2, fun c hc => ?_⟩
  · unfold isAmt
    by_cases hn : z < 0
    · have ht : (intS z).cps.toList = 45 :: dl z.natAbs := neg_text hn
      have e0 : ((intS z).cps.toList[0]? == some 45) = true := by rw [ht]; rfl
      rw [if_pos e0, Bool.and_eq_true]
      refine ⟨?_, fig (by unfold tlS; rw [ht]; rfl)⟩
      rw [decide_eq_false]; rfl
      intro e
      rw [e] at ht
      have e2 : [45, 48] = 45 :: dl z.natAbs := ht
      have e3 : dl z.natAbs = 48 :: [] := by injection e2 with _ e2; exact e2.symm
      have := dl_head e3
      omega
    · have ht : (intS z).cps.toList = dl z.natAbs := pos_text (by omega)
      have e0 : ¬ ((intS z).cps.toList[0]? == some 45) = true := fun c => by
        have c' := eq_of_beq c
        rw [ht] at c'
        have := dl_all z.natAbs 45 (List.mem_of_getElem? c')
        omega
      rw [if_neg e0]
      exact fig ht
  · by_cases hn : z < 0
    · have ht : (intS z).cps.toList = 45 :: dl z.natAbs := neg_text hn
      rw [ht] at hc
      rcases List.mem_cons.mp hc with e | e
      · exact .inl e
      · exact .inr (dl_all _ c e)
    · have ht : (intS z).cps.toList = dl z.natAbs := pos_text (by omega)
      rw [ht] at hc
      exact .inr (dl_all _ c hc)
theorem pway_l {nm : Str} {z : Int} (h : isName nm = true) (hz : AmtOk z) : WayL (wyS nm z).cps.toList := ⟨_, _, name_l h, (amt_l (amt_is hz).1).1, wyS_l nm z⟩
theorem pok_l {p : PPTy} (h : POk p) : PPartL (wordL (itW p)) := by
  refine ⟨_, _, _, name_l h.nm, sgn_is p.2.1, fun m hm => ?_, itw_l p⟩
  obtain ⟨x, hx, rfl⟩ := List.mem_map.mp hm
  obtain ⟨y, hy, rfl⟩ := List.mem_map.mp hx
  exact pway_l (h.ws y hy).1 (h.ws y hy).2
theorem wy_is {nm : Str} {z : Int} (h : isName nm = true) (hz : AmtOk z) : WyP (wyS nm z) nm z := by
  obtain ⟨a1, a2, _⟩ := amt_is hz
  have no : 58 ∉ nm.cps.toList := fun k => by have := name_no h k; omega
  have hp := part_one (b := (intS z).cps.toList) no
  rw [← str_list (wyS_l nm z)] at hp
  exact ⟨⟨#[58]⟩, intS z, hp, h, a1, a2.symm⟩
theorem wyS_no {nm : Str} {z : Int} (h : isName nm = true) (hz : AmtOk z) : ∀ c ∈ (wyS nm z).cps.toList, c ≠ 32 ∧ c ≠ 59 := fun c hc => by
  rw [wyS_l] at hc
  rcases List.mem_append.mp hc with k | k
  · have := name_no h k; omega
  rcases List.mem_cons.mp k with k | k
  · omega
  · rcases (amt_is hz).2.2.2 c k with e | e <;> omega
theorem ppl_is {p : PPTy} (h : POk p) : PPlP (Txt.join " " (itW p)) p := by
  have no : sgn p.2.1 ∉ p.1.cps.toList := fun z => by
    have := name_no h.nm z
    rcases sgn_is p.2.1 with s | s <;> omega
  have hin : ∀ c, inT (hdS p.1 p.2.1) c = decide (c ∈ p.1.cps.toList ∨ c = sgn p.2.1) := fun c => by
    rw [inT_mem, hdS_l, Bool.eq_iff_iff, decide_eq_true_eq, decide_eq_true_eq, List.mem_append, List.mem_singleton]
  have hp := part_one (b := []) no
  rw [← str_list (hdS_l p.1 p.2.1)] at hp
  refine ⟨hdS p.1 p.2.1, p.2.2.map fun w => wyS w.1 w.2, p.1, p.2.1, p.2.2, split_join (c := 32) (s := []) rfl (by decide +kernel) (fun z => by cases z) (fun x hx z => ?_), ?_, h.nm, ?_, rfl⟩
  · rcases List.mem_cons.mp hx with rfl | hx
    · rw [hdS_l] at z
      rcases List.mem_append.mp z with z | z
      · have := name_no h.nm z; omega
      · have := List.mem_singleton.mp z
        rcases sgn_is p.2.1 with s | s <;> omega
    · obtain ⟨y, hy, rfl⟩ := List.mem_map.mp hx
      exact (wyS_no (h.ws y hy).1 (h.ws y hy).2 32 z).1 rfl
  · rcases h.h with z | z
    · refine .inl ⟨?_, z, ⟨#[sgn p.2.1]⟩, ?_⟩
      · rw [hin]; exact decide_eq_true (.inr (by rw [z]; rfl))
      · rw [z] at hp ⊢; exact hp
    · refine .inr ⟨?_, ?_, z, ⟨#[sgn p.2.1]⟩, ?_⟩
      · rw [hin]
        refine decide_eq_false fun k => ?_
        rcases k with k | k
        · have := name_no h.nm k; omega
        · rw [z] at k; exact absurd k (by decide)
      · rw [hin]; exact decide_eq_true (.inr (by rw [z]; rfl))
      · rw [z] at hp ⊢; exact hp
  · have go : ∀ {vs : List (Str × Int)}, (∀ x ∈ vs, isName x.1 = true ∧ AmtOk x.2) → Paired (fun x (q : Str × Int) => WyP x q.1 q.2) (vs.map fun w => wyS w.1 w.2) vs := fun {vs} hv => by
      induction vs with
      | nil => exact .nil
      | cons y r ih => exact .cons (wy_is (hv y List.mem_cons_self).1 (hv y List.mem_cons_self).2) (ih fun x hx => hv x (List.mem_cons_of_mem _ hx))
    exact go h.ws
theorem formp_is {ps : List PPTy} (hne : ps ≠ []) (h : ∀ p ∈ ps, POk p) : FormP (textW (ps.map itW)) ps := by
  have wne : ∀ p, wordL (itW p) ≠ [] := fun p e => by rw [itw_l] at e; simp at e
  have h1 : (textW (ps.map itW)).length ≠ 0 := fun z => by
    have e : (textW (ps.map itW)).cps.toList = [] := List.length_eq_zero_iff.mp (by rw [← str_len]; exact z)
    obtain ⟨p, r, rfl⟩ := List.exists_cons_of_ne_nil hne
    rw [text_l, List.map_cons, List.map_cons] at e
    obtain ⟨t, et, _⟩ := flatG_head (wordL (itW p)) ((r.map itW).map wordL)
    rw [et] at e
    exact wne p (List.append_eq_nil_iff.mp e).1
  unfold FormP partsT
  rw [if_neg h1]
  have e : Txt.split (textW (ps.map itW)) "; " = (ps.map itW).map (Txt.join " ") := by
    refine split_join (c := 59) (s := [32]) rfl (by decide +kernel) (fun z => ?_) (fun x hx z => ?_)
    · exact hne (List.map_eq_nil_iff.mp (List.map_eq_nil_iff.mp z))
    · obtain ⟨y, hy, rfl⟩ := List.mem_map.mp hx
      obtain ⟨p, hp, rfl⟩ := List.mem_map.mp hy
      have hp := h p hp
      rw [flat_join] at z
      replace z : 59 ∈ wordL (itW p) := z
      rw [itw_l] at z
      rcases List.mem_append.mp z with z | z
      · have := name_no hp.nm z; omega
      rcases List.mem_cons.mp z with z | z
      · rcases sgn_is p.2.1 with s | s <;> omega
      · unfold wL at z
        obtain ⟨l, hl, k⟩ := List.mem_flatten.mp z
        obtain ⟨l', hl', rfl⟩ := List.mem_map.mp hl
        obtain ⟨x, hx, rfl⟩ := List.mem_map.mp hl'
        obtain ⟨y, hy, rfl⟩ := List.mem_map.mp hx
        rcases List.mem_cons.mp k with k | k
        · cases k
        · exact (wyS_no (hp.ws y hy).1 (hp.ws y hy).2 59 k).2 rfl
  rw [e]
  clear e h1 hne
  induction ps with
  | nil => exact .nil
  | cons p r ih => exact .cons (ppl_is (h p List.mem_cons_self)) (ih fun x hx => h x (List.mem_cons_of_mem _ hx))
abbrev bad0 : List Str := ["", "A", "abcdefghi", "a1", "a b", "a:"]
abbrev bad1 : List Str := ["", "=", "+0", "-3", "++", "+-", "+ ", " +"]
abbrev bad2 : List Str := ["", "B", "abcdefghi", "a1", "a+", ":", "a:1", " a"]
abbrev bad3 : List Str := ["", "-", "+1", "-0", "--1", "01", "-01", "1_0", repS "1" 61, "-" ++ repS "9" 61, "1.", " 1", "1 ", "1:1", "x"]
abbrev bad5 : List Str := [";", ";  ", " ; ", ", ", " "]
abbrev bad6 : List Str := ["A+ a:1", "a a:1", "a+ a:01", "a+3 a:1", "a+ a:-0", "a- a:+1", "a- a"]
theorem bad0_ok : ∀ x ∈ bad0, (∀ q, ahp q → ∀ s, (s = 43 ∨ s = 45) → runP q (x.cps.toList ++ [s]) = .dead) ∧ x.length ≤ 70 := by
  have h : bad0.all (fun x => decide (runP .t0 (x.cps.toList ++ [43]) = .dead ∧ runP .t0 (x.cps.toList ++ [45]) = .dead ∧ runP .t1 (x.cps.toList ++ [43]) = .dead ∧ runP .t1 (x.cps.toList ++ [45]) = .dead) && decide (x.length ≤ 70)) = true := by decide +kernel
  intro x hx
  have := List.all_eq_true.mp h x hx
  rw [Bool.and_eq_true] at this
  obtain ⟨h1, h2, h3, h4⟩ := of_decide_eq_true this.1
  refine ⟨fun q hq s hs => ?_, of_decide_eq_true this.2⟩
  rcases hq with rfl | rfl <;> rcases hs with rfl | rfl
  · exact h1
  · exact h2
  · exact h3
  · exact h4
theorem bad1_ok : ∀ x ∈ bad1, (∀ k, k ≤ 8 → runP (.nm k) (x.cps.toList ++ [32]) = .dead) ∧ x.length ≤ 70 := by
  have h : bad1.all (fun x => (List.range 9).all (fun k => decide (runP (.nm k) (x.cps.toList ++ [32]) = .dead)) && decide (x.length ≤ 70)) = true := by decide +kernel
  intro x hx
  have := List.all_eq_true.mp h x hx
  rw [Bool.and_eq_true] at this
  exact ⟨fun k hk => of_decide_eq_true (List.all_eq_true.mp this.1 k (List.mem_range.mpr (by omega))), of_decide_eq_true this.2⟩
theorem bad2_ok : ∀ x ∈ bad2, runP .bl (x.cps.toList ++ [58]) = .dead ∧ x.length ≤ 70 := by
  have h : bad2.all (fun x => decide (runP .bl (x.cps.toList ++ [58]) = .dead) && decide (x.length ≤ 70)) = true := by decide +kernel
  intro x hx
  have := List.all_eq_true.mp h x hx
  rw [Bool.and_eq_true] at this
  exact ⟨of_decide_eq_true this.1, of_decide_eq_true this.2⟩
def tailP (q : Ap) : Prop := q = .dead ∨ q = .co ∨ q = .mi ∨ q = .bl
theorem bad3_ok : ∀ x ∈ bad3, tailP (runP .co x.cps.toList) ∧ x.length ≤ 70 := by
  have h : bad3.all (fun x => decide (runP .co x.cps.toList = .dead ∨ runP .co x.cps.toList = .co ∨ runP .co x.cps.toList = .mi ∨ runP .co x.cps.toList = .bl) && decide (x.length ≤ 70)) = true := by decide +kernel
  intro x hx
  have := List.all_eq_true.mp h x hx
  rw [Bool.and_eq_true] at this
  have h1 := of_decide_eq_true this.1
  exact ⟨h1, of_decide_eq_true this.2⟩
theorem bad6_ok : ∀ x ∈ bad6, accP (runP .t1 x.cps.toList) = false ∧ x.length ≤ 70 := by
  have h : bad6.all (fun x => !accP (runP .t1 x.cps.toList) && decide (x.length ≤ 70)) = true := by decide +kernel
  intro x hx
  have := List.all_eq_true.mp h x hx
  rw [Bool.and_eq_true] at this
  exact ⟨by simpa using this.1, of_decide_eq_true this.2⟩
theorem tail_ways {q : Ap} (h : tailP q) : ∀ (ms : List (List Nat)), stopP (runP q (wL ms))
  | [] => by rcases h with rfl | rfl | rfl | rfl
             · exact .inl rfl
             · exact .inr (.inr (.inr (.inr (.inl rfl))))
             · exact .inr (.inr (.inr (.inr (.inr (.inl rfl)))))
             · exact .inr (.inl rfl)
  | m :: ms => by
    rw [wL_cons, runp_cons]
    have : stepP q 32 = .dead := by rcases h with rfl | rfl | rfl | rfl <;> rfl
    rw [this, runp_dead]; exact .inl rfl
def BadT (s : Str) : Prop := ∀ suf, Suf suf → accP (runP .t0 (s.cps.toList ++ suf)) = false
theorem line_mid {ps : List PPTy} (hne : ps ≠ []) (h : ∀ p ∈ ps, POk p) {q : Ap} (hq : ahp q) : midP (runP q (textW (ps.map itW)).cps.toList) = true := by
  rw [text_l]
  refine runp_parts hq (fun e => ?_) fun p hp => ?_
  · exact hne (List.map_eq_nil_iff.mp (List.map_eq_nil_iff.mp e))
  · obtain ⟨y, hy, rfl⟩ := List.mem_map.mp hp
    obtain ⟨z, hz, rfl⟩ := List.mem_map.mp hy
    exact pok_l (h z hz)
theorem badT_suf {ps : List PPTy} (hne : ps ≠ []) (h : ∀ p ∈ ps, POk p) {x : Str} (hx : ∀ q, midP q = true → stopP (runP q x.cps.toList)) : BadT (textW (ps.map itW) ++ x) := fun suf hs => by
  rw [app_list, runp_app, runp_app]
  exact stopp_acc (stopp_suf (hx _ (line_mid hne h (.inl rfl))) hs)
theorem badT_pre {y x : Str} (h : runP .t0 y.cps.toList = .dead) : BadT (y ++ x) := fun suf hs => by
  rw [app_list, List.append_assoc, runp_app, h, runp_dead]; rfl
theorem badT_end {s x : Str} (h : BadT s) (hx : Suf x.cps.toList) : ∀ ps, ¬ FormP (s ++ x) ps := no_form (by rw [app_list]; exact h _ hx)
theorem badT_no {s : Str} (h : BadT s) : ∀ ps, ¬ FormP s ps := no_form (by have := h [] (.inl rfl); rwa [List.append_nil] at this)
theorem badT_part {as bs : List (List Str)} {p : List Str} (ha : ∀ x ∈ as, PPartL (wordL x)) (hp : ∀ r, ahp r → stopP (runP r (wordL p))) : BadT (textW (as ++ p :: bs)) := fun suf hs => by
  rw [text_l, List.map_append, List.map_cons]
  exact badP_part (.inl rfl) (fun z hz => by
    obtain ⟨x, hx, rfl⟩ := List.mem_map.mp hz
    exact ha x hx) hp suf hs
theorem word_l (hd : Str) (ws : List Str) : wordL (hd :: ws) = hd.cps.toList ++ wL (cpL ws) := flat_w _ _
theorem bad_nm {x : Str} (hx : x ∈ bad0) (h : Int) (ws : List Str) {r : Ap} (hr : ahp r) : runP r (wordL ((x ++ sgS h) :: ws)) = .dead := by
  rw [word_l, app_list]
  show runP r ((x.cps.toList ++ [sgn h]) ++ _) = _
  rw [runp_app, (bad0_ok x hx).1 r hr _ (sgn_is _), runp_dead]
theorem bad_sg {nm : Str} (hn : isName nm = true) {x : Str} (hx : x ∈ bad1) (w : Str) (ws : List Str) {r : Ap} (hr : ahp r) : runP r (wordL ((nm ++ x) :: w :: ws)) = .dead := by
  obtain ⟨k, ek, _, k8⟩ := runp_name hr (name_l hn)
  rw [word_l, app_list, List.append_assoc, runp_app, ek]
  show runP _ (x.cps.toList ++ wL (w.cps.toList :: cpL ws)) = _
  rw [wL_cons]
  show runP _ (x.cps.toList ++ ([32] ++ _)) = _
  rw [← List.append_assoc, runp_app, (bad1_ok x hx).1 k k8, runp_dead]
theorem hd_run {nm : Str} (hn : isName nm = true) (h : Int) {r : Ap} (hr : ahp r) : runP r (hdS nm h).cps.toList = .sg := by
  obtain ⟨k, ek, _⟩ := runp_name hr (name_l hn)
  rw [hdS_l, runp_app, ek, runp_cons, runp_sign (sgn_is _)]; rfl
theorem bad_wn {nm : Str} (hn : isName nm = true) (h : Int) {x : Str} (hx : x ∈ bad2) (y : Str) (ws : List Str) {r : Ap} (hr : ahp r) : runP r (wordL (hdS nm h :: (x ++ ":" ++ y) :: ws)) = .dead := by
  rw [word_l, runp_app, hd_run hn h hr]
  show runP .sg (wL ((x ++ ":" ++ y).cps.toList :: cpL ws)) = _
  rw [wL_cons, runp_cons, app_list, app_list]
  show runP .bl (((x.cps.toList ++ [58]) ++ y.cps.toList) ++ _) = _
  rw [runp_app, runp_app, (bad2_ok x hx).1, runp_dead, runp_dead]
theorem bad_am {nm : Str} (hn : isName nm = true) (h : Int) {wn : Str} (hw : isName wn = true) {x : Str} (hx : x ∈ bad3) (ws : List Str) {r : Ap} (hr : ahp r) : stopP (runP r (wordL (hdS nm h :: (wn ++ ":" ++ x) :: ws))) := by
  rw [word_l, runp_app, hd_run hn h hr]
  show stopP (runP .sg (wL ((wn ++ ":" ++ x).cps.toList :: cpL ws)))
  rw [wL_cons, runp_cons, app_list, app_list]
  obtain ⟨k, ek, _⟩ := runp_way (name_l hw)
  show stopP (runP .bl ((((wn.cps.toList) ++ [58]) ++ x.cps.toList) ++ _))
  rw [runp_app, runp_app, runp_app, ek]
  exact tail_ways (bad3_ok x hx).1 _
theorem bad_jn {nm : Str} (hn : isName nm = true) (h : Int) {wn : Str} (hw : isName wn = true) {z : Int} (hz : AmtOk z) (ws : List Str) {r : Ap} (hr : ahp r) : runP r (wordL (hdS nm h :: (wn ++ intS z) :: ws)) = .dead := by
  rw [word_l, runp_app, hd_run hn h hr]
  show runP .sg (wL ((wn ++ intS z).cps.toList :: cpL ws)) = _
  obtain ⟨k, ek, _⟩ := runp_way (name_l hw)
  rw [wL_cons, runp_cons, app_list]
  show runP .bl ((wn.cps.toList ++ (intS z).cps.toList) ++ _) = _
  rw [List.append_assoc, runp_app, ek]
  obtain ⟨a1, _, _, a4⟩ := amt_is hz
  cases hc : (intS z).cps.toList with
  | nil =>
    have al := (amt_l a1).1
    rw [hc] at al
    rcases al with al | ⟨r, e, _⟩
    · have := al.one; simp at this
    · cases e
  | cons c l =>
    have := a4 c (by rw [hc]; exact List.mem_cons_self)
    show runP (.wn k) (c :: (l ++ _)) = _
    rw [runp_cons]
    have e : stepP (.wn k) c = .dead := by
      have n1 : isL c = false := by
        unfold isL
        rw [decide_eq_false (show ¬ 97 ≤ c by omega)]; rfl
      show (if isL c = true then (if k < 8 then Ap.wn (k + 1) else .dead) else if c = 58 then .co else .dead) = _
      rw [n1, if_neg (by decide), if_neg (by omega)]
    rw [e, runp_dead]
theorem bad_rep {q : Ap} (h : midP q = true) {x : Str} (hx : x ∈ bad5) {p : PPTy} (hp : POk p) (t : List Nat) : runP q (x.cps.toList ++ (wordL (itW p) ++ t)) = .dead := by
  have nm := name_l hp.nm
  rw [itw_l]
  cases hc : p.1.cps.toList with
  | nil => have := nm.one; rw [hc] at this; simp at this
  | cons c l =>
    have hl : isL c = true := nm.all c (by rw [hc]; exact List.mem_cons_self)
    simp only [List.mem_cons, List.not_mem_nil, or_false] at hx
    rcases hx with rfl | rfl | rfl | rfl | rfl
    · show runP q (59 :: c :: _) = _
      rw [runp_cons, midP_59 h, runp_cons]
      have : stepP .sc c = .dead := by
        have c32 : c ≠ 32 := fun e => by rw [e] at hl; exact absurd hl (by decide)
        exact if_neg c32
      rw [this, runp_dead]
    · show runP q (59 :: 32 :: 32 :: _) = _
      rw [runp_cons, midP_59 h, runp_cons, runp_cons]
      exact runp_dead _
    · show runP q (32 :: 59 :: _) = _
      rw [runp_cons, midP_32 h, runp_cons]
      exact runp_dead _
    · show runP q (44 :: _) = _
      rw [runp_cons, midP_44 h]
      exact runp_dead _
    · show runP q (32 :: ((c :: l ++ sgn p.2.1 :: _) ++ t)) = _
      obtain ⟨k, ek, _⟩ := runp_way nm
      rw [runp_cons, midP_32 h, ← hc, List.append_assoc, runp_app, ek]
      show runP _ (sgn p.2.1 :: _) = _
      rw [runp_cons]
      have : stepP (.wn k) (sgn p.2.1) = .dead := by rcases sgn_is p.2.1 with e | e <;> rw [e] <;> rfl
      rw [this, runp_dead]
theorem part_no {p : PPTy} (hp : POk p) : 59 ∉ wordL (itW p) := fun z => by
  rw [itw_l] at z
  rcases List.mem_append.mp z with z | z
  · have := name_no hp.nm z; omega
  rcases List.mem_cons.mp z with z | z
  · rcases sgn_is p.2.1 with s | s <;> omega
  · unfold wL at z
    obtain ⟨l, hl, k⟩ := List.mem_flatten.mp z
    obtain ⟨l', hl', rfl⟩ := List.mem_map.mp hl
    obtain ⟨x, hx, rfl⟩ := List.mem_map.mp hl'
    obtain ⟨y, hy, rfl⟩ := List.mem_map.mp hx
    rcases List.mem_cons.mp k with k | k
    · cases k
    · exact (wyS_no (hp.ws y hy).1 (hp.ws y hy).2 59 k).2 rfl
theorem rep_bad {p1 p2 : PPTy} {ps : List PPTy} (h1 : POk p1) (h2 : POk p2) {x : Str} (hx : x ∈ bad5) : BadT (rep1 (textW ((p1 :: p2 :: ps).map itW)) "; " x) ∧ (rep1 (textW ((p1 :: p2 :: ps).map itW)) "; " x).length ≤ (textW ((p1 :: p2 :: ps).map itW)).length + 3 := by
  have no := part_no h1
  obtain ⟨t, et, _⟩ := flatG_head (wordL (itW p2)) ((ps.map itW).map wordL)
  have el : (textW ((p1 :: p2 :: ps).map itW)).cps.toList = wordL (itW p1) ++ (59 :: [32]) ++ (wordL (itW p2) ++ t) := by
    rw [text_l, ← et]; rfl
  have er := rep_two (y := "; ") (s := [32]) (c := 59) (b := wordL (itW p2) ++ t) rfl no x
  rw [← str_list el] at er
  refine ⟨fun suf hs => ?_, ?_⟩
  · rw [er, List.append_assoc, List.append_assoc, runp_app, List.append_assoc, bad_rep (runp_part (.inl rfl) (pok_l h1)) hx h2]; rfl
  · have xl : x.length ≤ 3 := by
      have h : bad5.all (fun x => decide (x.length ≤ 3)) = true := by decide +kernel
      exact of_decide_eq_true (List.all_eq_true.mp h x hx)
    have e1 := str_len (rep1 (textW ((p1 :: p2 :: ps).map itW)) "; " x)
    have e2 := str_len (textW ((p1 :: p2 :: ps).map itW))
    have e3 := str_len x
    rw [er] at e1
    rw [el] at e2
    simp only [List.length_append, List.length_cons, List.length_nil] at e1 e2
    omega
structure HM (H : Hp) (M : List (Addr × HO)) : Prop where
  nd : (M.map fun x => x.1).Nodup
  at' : ∀ x ∈ M, H x.1 = some x.2
theorem HM.up {H H' : Hp} {M : List (Addr × HO)} (h : HM H M) (s : Same H H') : HM H' M := ⟨h.nd, fun x hx => s _ _ (h.at' x hx)⟩
theorem HM.put {H : Hp} {A B : List (Addr × HO)} {a : Addr} {o : HO} (h : HM H (A ++ (a, o) :: B)) (o' : HO) : HM (upd H a o') (A ++ (a, o') :: B) := by
  have nd := h.nd
  rw [List.map_append, List.map_cons] at nd
  refine ⟨by rw [List.map_append, List.map_cons]; exact nd, fun x hx => ?_⟩
  obtain ⟨n1, n2, n3⟩ := List.nodup_append.mp nd
  rcases List.mem_append.mp hx with hx | hx
  · have ne : x.1 ≠ a := n3 x.1 (List.mem_map.mpr ⟨x, hx, rfl⟩) a List.mem_cons_self
    rw [upd_ne ne]; exact h.at' x (List.mem_append_left _ hx)
  · rcases List.mem_cons.mp hx with rfl | hx
    · exact upd_same
    · have ne : x.1 ≠ a := fun e => (List.nodup_cons.mp n2).1 (by rw [← e]; exact List.mem_map.mpr ⟨x, hx, rfl⟩)
      rw [upd_ne ne]; exact h.at' x (List.mem_append_right _ (List.mem_cons_of_mem _ hx))
theorem HM.new {H : Hp} {A B : List (Addr × HO)} {a : Addr} (h : HM H (A ++ B)) (hf : H a = none) (o : HO) : HM (upd H a o) (A ++ (a, o) :: B) := by
  have nf : ∀ x ∈ A ++ B, x.1 ≠ a := fun x hx e => by rw [← e, h.at' x hx] at hf; cases hf
  have nd := h.nd
  rw [List.map_append] at nd
  obtain ⟨n1, n2, n3⟩ := List.nodup_append.mp nd
  refine ⟨?_, fun x hx => ?_⟩
  · rw [List.map_append, List.map_cons]
    refine List.nodup_append.mpr ⟨n1, List.nodup_cons.mpr ⟨fun z => ?_, n2⟩, fun x hx y hy => ?_⟩
    · obtain ⟨w, hw, e⟩ := List.mem_map.mp z
      exact nf w (List.mem_append_right _ hw) e
    · rcases List.mem_cons.mp hy with rfl | hy
      · obtain ⟨w, hw, e⟩ := List.mem_map.mp hx
        rw [← e]; exact nf w (List.mem_append_left _ hw)
      · exact n3 x hx y hy
  · rcases List.mem_append.mp hx with hx | hx
    · rw [upd_ne (nf x (List.mem_append_left _ hx))]; exact h.at' x (List.mem_append_left _ hx)
    · rcases List.mem_cons.mp hx with rfl | hx
      · exact upd_same
      · rw [upd_ne (nf x (List.mem_append_right _ hx))]; exact h.at' x (List.mem_append_right _ hx)
theorem HM.drop {H : Hp} {A B C : List (Addr × HO)} (h : HM H (A ++ B ++ C)) : HM H (A ++ C) := by
  have nd := h.nd
  rw [List.map_append, List.map_append, List.append_assoc] at nd
  obtain ⟨n1, n2, n3⟩ := List.nodup_append.mp nd
  obtain ⟨m1, m2, m3⟩ := List.nodup_append.mp n2
  refine ⟨?_, fun x hx => ?_⟩
  · rw [List.map_append]
    exact List.nodup_append.mpr ⟨n1, m2, fun x hx y hy => n3 x hx y (List.mem_append_right _ hy)⟩
  · rcases List.mem_append.mp hx with hx | hx
    · exact h.at' x (List.mem_append_left _ (List.mem_append_left _ hx))
    · exact h.at' x (List.mem_append_right _ hx)
structure PD where
  a : Addr
  nm : Str
  sg : Str
  wa : Addr
  ws : List (Addr × List Str)
def wE (w : Addr × List Str) : Addr × HO := (w.1, .lst (w.2.map V.str))
def pE (p : PD) : List (Addr × HO) := (p.a, .lst [.str p.nm, .str p.sg, .ref p.wa]) :: (p.wa, .lst (p.ws.map fun w => .ref w.1)) :: p.ws.map wE
def tE (g : Addr) (ps : List PD) : List (Addr × HO) := (g, .lst (ps.map fun p => .ref p.a)) :: (ps.map pE).flatten
def HT (H : Hp) (g : Addr) (ps : List PD) : Prop := HM H (tE g ps)
def wds (p : PD) : List Str := (p.nm ++ p.sg) :: p.ws.map fun w => Txt.join ":" w.2
theorem tE_at (g : Addr) (A : List PD) (p : PD) (B : List PD) : tE g (A ++ p :: B) = ((g, HO.lst ((A ++ p :: B).map fun p => .ref p.a)) :: (A.map pE).flatten) ++ (pE p ++ (B.map pE).flatten) := by
  have e : ((A ++ p :: B).map pE).flatten = (A.map pE).flatten ++ (pE p ++ (B.map pE).flatten) := by rw [List.map_append, List.map_cons, List.flatten_append, List.flatten_cons]
  unfold tE
  rw [e]; rfl
theorem HT.g {H : Hp} {g : Addr} {ps : List PD} (h : HT H g ps) : H g = some (.lst (ps.map fun p => .ref p.a)) := h.at' (g, _) List.mem_cons_self
theorem HT.part {H : Hp} {g : Addr} {ps : List PD} (h : HT H g ps) {p : PD} (hp : p ∈ ps) : H p.a = some (.lst [.str p.nm, .str p.sg, .ref p.wa]) ∧ H p.wa = some (.lst (p.ws.map fun w => .ref w.1)) ∧ ∀ w ∈ p.ws, H w.1 = some (.lst (w.2.map V.str)) := by
  have hm : ∀ x ∈ pE p, H x.1 = some x.2 := fun x hx => h.at' x (List.mem_cons_of_mem _ (List.mem_flatten.mpr ⟨pE p, List.mem_map.mpr ⟨p, hp, rfl⟩, hx⟩))
  exact ⟨hm _ List.mem_cons_self, hm _ (List.mem_cons_of_mem _ List.mem_cons_self), fun w hw => hm (wE w) (List.mem_cons_of_mem _ (List.mem_cons_of_mem _ (List.mem_map.mpr ⟨w, hw, rfl⟩)))⟩
theorem HT.head {H : Hp} {g : Addr} {A B : List PD} {p : PD} (h : HT H g (A ++ p :: B)) (nm sg : Str) : HT (upd H p.a (.lst [.str nm, .str sg, .ref p.wa])) g (A ++ { p with nm := nm, sg := sg } :: B) := by
  have h' : HM H _ := h
  unfold HT
  rw [tE_at] at h' ⊢
  have e : ((A ++ { p with nm := nm, sg := sg } :: B).map fun p => V.ref p.a) = (A ++ p :: B).map fun p => V.ref p.a := by rw [List.map_append, List.map_append]; rfl
  rw [e]
  exact h'.put _
theorem HT.way {H : Hp} {g : Addr} {A B : List PD} {p : PD} {w : Addr × List Str} {ws : List (Addr × List Str)} (h : HT H g (A ++ p :: B)) (hw : p.ws = w :: ws) (l : List Str) : HT (upd H w.1 (.lst (l.map V.str))) g (A ++ { p with ws := (w.1, l) :: ws } :: B) := by
  have h' : HM H _ := h
  unfold HT
  rw [tE_at] at h' ⊢
  have e : ((A ++ { p with ws := (w.1, l) :: ws } :: B).map fun p => V.ref p.a) = (A ++ p :: B).map fun p => V.ref p.a := by rw [List.map_append, List.map_append]; rfl
  rw [e]
  have e1 : ∀ (X Y : List (Addr × HO)), X ++ (pE p ++ Y) = (X ++ [(p.a, HO.lst [.str p.nm, .str p.sg, .ref p.wa]), (p.wa, .lst (p.ws.map fun w => .ref w.1))]) ++ (w.1, HO.lst (w.2.map V.str)) :: (ws.map wE ++ Y) := fun X Y => by
    unfold pE
    rw [hw, List.append_assoc]; rfl
  rw [e1] at h'
  have := h'.put (.lst (l.map V.str))
  have e2 : ∀ (X Y : List (Addr × HO)), X ++ (pE { p with ws := (w.1, l) :: ws } ++ Y) = (X ++ [(p.a, HO.lst [.str p.nm, .str p.sg, .ref p.wa]), (p.wa, .lst (p.ws.map fun w => .ref w.1))]) ++ (w.1, HO.lst (l.map V.str)) :: (ws.map wE ++ Y) := fun X Y => by
    unfold pE
    rw [hw, List.append_assoc]; rfl
  rw [e2]
  exact this
theorem HT.wclear {H : Hp} {g : Addr} {A B : List PD} {p : PD} (h : HT H g (A ++ p :: B)) : HT (upd H p.wa (.lst [])) g (A ++ { p with ws := [] } :: B) := by
  have h' : HM H _ := h
  unfold HT
  rw [tE_at] at h' ⊢
  have e : ((A ++ { p with ws := [] } :: B).map fun p => V.ref p.a) = (A ++ p :: B).map fun p => V.ref p.a := by rw [List.map_append, List.map_append]; rfl
  rw [e]
  have e1 : ∀ (X Y : List (Addr × HO)), X ++ (pE p ++ Y) = (X ++ [(p.a, HO.lst [.str p.nm, .str p.sg, .ref p.wa])]) ++ (p.wa, HO.lst (p.ws.map fun w => .ref w.1)) :: (p.ws.map wE ++ Y) := fun X Y => by
    unfold pE
    rw [List.append_assoc]; rfl
  rw [e1] at h'
  have h2 := h'.put (.lst [])
  have e2 : ∀ (X Y Z : List (Addr × HO)) (x : Addr × HO), X ++ x :: (Y ++ Z) = (X ++ [x]) ++ Y ++ Z := fun X Y Z x => by simp
  rw [e2] at h2
  have h3 := h2.drop
  have e3 : ∀ (X Y : List (Addr × HO)), X ++ (pE { p with ws := [] } ++ Y) = X ++ [(p.a, HO.lst [.str p.nm, .str p.sg, .ref p.wa])] ++ [(p.wa, HO.lst [])] ++ Y := fun X Y => by
    unfold pE; simp
  rw [e3]
  exact h3
theorem HT.wapp {H : Hp} {g : Addr} {A B : List PD} {p : PD} (h : HT H g (A ++ p :: B)) {x : Addr} (hx : H x = none) (l : List Str) : HT (upd (upd H x (.lst (l.map V.str))) p.wa (.lst ((p.ws.map fun w => V.ref w.1) ++ [.ref x]))) g (A ++ { p with ws := p.ws ++ [(x, l)] } :: B) := by
  have h' : HM H _ := h
  unfold HT
  rw [tE_at] at h' ⊢
  have e : ((A ++ { p with ws := p.ws ++ [(x, l)] } :: B).map fun p => V.ref p.a) = (A ++ p :: B).map fun p => V.ref p.a := by rw [List.map_append, List.map_append]; rfl
  rw [e]
  have e1 : ∀ (X Y : List (Addr × HO)), X ++ (pE p ++ Y) = (X ++ pE p) ++ Y := fun X Y => by simp
  rw [e1] at h'
  have h2 := h'.new hx (.lst (l.map V.str))
  have e2 : ∀ (X Y : List (Addr × HO)), (X ++ pE p) ++ (x, HO.lst (l.map V.str)) :: Y = (X ++ [(p.a, HO.lst [.str p.nm, .str p.sg, .ref p.wa])]) ++ (p.wa, HO.lst (p.ws.map fun w => .ref w.1)) :: (p.ws.map wE ++ (x, HO.lst (l.map V.str)) :: Y) := fun X Y => by
    unfold pE; simp
  rw [e2] at h2
  have h3 := h2.put (.lst ((p.ws.map fun w => V.ref w.1) ++ [.ref x]))
  have e3 : ∀ (X Y : List (Addr × HO)), X ++ (pE { p with ws := p.ws ++ [(x, l)] } ++ Y) = (X ++ [(p.a, HO.lst [.str p.nm, .str p.sg, .ref p.wa])]) ++ (p.wa, HO.lst ((p.ws.map fun w => V.ref w.1) ++ [.ref x])) :: (p.ws.map wE ++ (x, HO.lst (l.map V.str)) :: Y) := fun X Y => by
    unfold pE wE; simp
  rw [e3]
  exact h3
theorem HT.wset {H : Hp} {g : Addr} {A B : List PD} {p : PD} {w : Addr × List Str} {ws : List (Addr × List Str)} (h : HT H g (A ++ p :: B)) (hw : p.ws = w :: ws) {x : Addr} (hx : H x = none) (l : List Str) : HT (upd (upd H x (.lst (l.map V.str))) p.wa (.lst (V.ref x :: ws.map fun w => V.ref w.1))) g (A ++ { p with ws := (x, l) :: ws } :: B) := by
  have h' : HM H _ := h
  unfold HT
  rw [tE_at] at h' ⊢
  have e : ((A ++ { p with ws := (x, l) :: ws } :: B).map fun p => V.ref p.a) = (A ++ p :: B).map fun p => V.ref p.a := by rw [List.map_append, List.map_append]; rfl
  rw [e]
  have e1 : ∀ (X Y : List (Addr × HO)), X ++ (pE p ++ Y) = (X ++ [(p.a, HO.lst [.str p.nm, .str p.sg, .ref p.wa]), (p.wa, .lst (p.ws.map fun w => .ref w.1))]) ++ [wE w] ++ (ws.map wE ++ Y) := fun X Y => by
    unfold pE; rw [hw]; simp
  rw [e1] at h'
  have h2 := h'.drop.new hx (.lst (l.map V.str))
  have e2 : ∀ (X Y : List (Addr × HO)) (b c : Addr × HO), (X ++ [b, c]) ++ Y = (X ++ [b]) ++ c :: Y := fun X Y b c => by simp
  rw [e2] at h2
  have h3 := h2.put (.lst (V.ref x :: ws.map fun w => V.ref w.1))
  have e3 : ∀ (X Y : List (Addr × HO)), X ++ (pE { p with ws := (x, l) :: ws } ++ Y) = (X ++ [(p.a, HO.lst [.str p.nm, .str p.sg, .ref p.wa])]) ++ (p.wa, HO.lst (V.ref x :: ws.map fun w => V.ref w.1)) :: ((x, HO.lst (l.map V.str)) :: (ws.map wE ++ Y)) := fun X Y => by
    unfold pE wE; simp
  rw [e3]
  exact h3
theorem HT.push {H H1 : Hp} {g : Addr} {ps : List PD} {p : PD} (h : HT H g ps) (s : Same H H1) (hp : HM H1 (pE p)) (hn : ∀ x ∈ pE p, H x.1 = none) : HT (upd H1 g (.lst ((ps.map fun p => V.ref p.a) ++ [.ref p.a]))) g (ps ++ [p]) := by
  have h1 := h.up s
  have hm : HM H1 (tE g ps ++ pE p) := by
    refine ⟨?_, fun x hx => ?_⟩
    · rw [List.map_append]
      refine List.nodup_append.mpr ⟨h1.nd, hp.nd, fun a ha b hb e => ?_⟩
      obtain ⟨x, hx, rfl⟩ := List.mem_map.mp ha
      obtain ⟨y, hy, rfl⟩ := List.mem_map.mp hb
      have h3 := h.at' x hx
      rw [e, hn y hy] at h3; cases h3
    · rcases List.mem_append.mp hx with hx | hx
      · exact h1.at' x hx
      · exact hp.at' x hx
  have e1 : tE g ps ++ pE p = [] ++ (g, HO.lst (ps.map fun p => .ref p.a)) :: ((ps.map pE).flatten ++ pE p) := by unfold tE; rfl
  rw [e1] at hm
  have h3 := hm.put (.lst ((ps.map fun p => V.ref p.a) ++ [.ref p.a]))
  have e2 : tE g (ps ++ [p]) = [] ++ (g, HO.lst ((ps.map fun p => V.ref p.a) ++ [.ref p.a])) :: ((ps.map pE).flatten ++ pE p) := by unfold tE; simp
  unfold HT
  rw [e2]
  exact h3
def spCell (K : PySem.W.Frag) : Sp := fun vs H Q _ => ∃ (a : Addr) (ns : List Int) (k : Int), vs = [.ref a, .int k] ∧ SqL K H a (ns.map V.int) ∧ ns.length ≤ 63 ∧ 0 ≤ k ∧ ∀ z : Int, Q (.int z) H
theorem ok_cell (F : DefAt K mg "_law_cell_at" s_law_cell_at ["_law_script", "_law_k"]) (T : Txt mg) : Dn P w K mg base "_law_cell_at" 1 ["_law_script", "_law_k"] (spCell K) := by
  have sc := sc_law_cell_at
  refine F.ok sc (fun vs H Q E h => ?_) (fun f cdv A outer s H vs Q E hr h => ?_)
  · obtain ⟨_, _, _, rfl, _⟩ := h; rfl
  obtain ⟨a, ns, k, rfl, hS, h63, h0, q⟩ := h
  have hl : (ns.map V.int).length = ns.length := List.length_map _
  refine ⟨_, (pss_cons (ps_if (pt_cmpR op_lt (pv 1) (pe_callB (clLen (K := K) rfl) rfl T.b_len PySem.boot_len (pa_cons (pv 0) pa_nil)) (nomark _))
      (pss_one (ps_ret (pe_ix (ixL (K := K) rfl) (pv 0) (pv 1) (fun _ _ => rfl))))
      pss_nil)
      (pss_one (ps_ret pe_int))), ?_⟩
  refine ⟨_, rfl, _, rfl, a, _, rfl, .inl hS, _, _, rfl, rfl, _, rfl, ?_⟩
  refine ite2 (fun c => ?_) (fun c => ?_)
  · have c' : k < (((ns.map V.int).length : Nat) : Int) := of_decide_eq_true c
    rw [hl] at c'
    exact ⟨_, rfl, _, rfl, a, _, _, _, rfl, rfl, hS, atI_ints h0 c', q _⟩
  · exact q _
theorem sw {x y : Str} : decide (V.str x = V.str y) = decide (x = y) := by rw [Bool.eq_iff_iff]; simp
theorem de {x y : Int} : decide (V.int x = V.int y) = decide (x = y) := by rw [Bool.eq_iff_iff]; simp
theorem sum_b (B : Nat) (l : List Str) (h : ∀ x ∈ l, x.length ≤ B) : (l.map fun x => x.length).sum ≤ l.length * B := sum_le B l h
theorem pick {l : List Str} {n : Int} (h0 : 0 ≤ n) (h1 : n < l.length) : ∃ x, atI (l.map V.str) n = some (.str x) ∧ x ∈ l ∧ l[n.toNat]? = some x := by
  obtain ⟨m, rfl⟩ := Int.eq_ofNat_of_zero_le h0
  have nl : m < l.length := by omega
  exact ⟨l[m], atI_nat (j := m) (by rw [List.getElem?_map, List.getElem?_eq_getElem nl]; rfl), List.getElem_mem nl, List.getElem?_eq_getElem nl⟩
structure PFew (p : PD) : Prop where
  n : p.nm.length ≤ 70
  s : p.sg.length ≤ 70
  l : p.ws.length ≤ 4
  w : ∀ w ∈ p.ws, w.2.length ≤ 2 ∧ ∀ x ∈ w.2, x.length ≤ 70
def spText (K : PySem.W.Frag) : Sp := fun vs H Q _ => ∃ (g : Addr) (ps : List PD), vs = [.ref g] ∧ HT H g ps ∧ ps.length ≤ 17 ∧ (∀ p ∈ ps, PFew p) ∧ ∀ H', Same H H' → (textW (ps.map wds)).length ≤ 15000 → Q (.str (textW (ps.map wds))) H'
theorem ok_text (F : DefAt K mg "_law_text" s_law_text ["_law_parts_here"]) (T : Txt mg) : Dn P w K mg base "_law_text" 1 ["_law_parts_here"] (spText K) := by
  have sc := sc_law_text
  refine F.ok sc (fun vs H Q E h => ?_) (fun f cdv A outer s H vs Q E hr h => ?_)
  · obtain ⟨_, _, rfl, _⟩ := h; rfl
  obtain ⟨g, ps, rfl, hT, h17, hf, q⟩ := h
  have e1 : (" " : Str).length = 1 := by decide +kernel
  have e3 : (":" : Str).length = 1 := by decide +kernel
  have e4 : ("; " : Str).length = 2 := by decide +kernel
  have jl : ∀ p ∈ ps, ∀ w ∈ p.ws, (Txt.join ":" w.2).length ≤ 142 := fun p hp w hw => by
    obtain ⟨w1, w2⟩ := (hf p hp).w w hw
    have := join_few (y := ":") (ps := w.2) (B := 70) w2
    rw [e3] at this
    omega
  have wf : ∀ p ∈ ps, ∀ x ∈ wds p, x.length ≤ 142 := fun p hp x hx => by
    rcases List.mem_cons.mp hx with rfl | hx
    · rw [app_len]; have := (hf p hp).n; have := (hf p hp).s; omega
    · obtain ⟨w, hw, rfl⟩ := List.mem_map.mp hx
      exact jl p hp w hw
  have wl5 : ∀ p ∈ ps, (wds p).length ≤ 5 := fun p hp => by unfold wds; rw [List.length_cons, List.length_map]; have := (hf p hp).l; omega
  have pl : ∀ p ∈ ps, (Txt.join " " (wds p)).length ≤ 715 := fun p hp => by
    have := join_few (y := " ") (ps := wds p) (B := 142) (wf p hp)
    rw [e1] at this
    have := wl5 p hp
    omega
  have bl : (textW (ps.map wds)).length ≤ 17 * 717 := by
    have := join_few (y := "; ") (ps := (ps.map wds).map (Txt.join " ")) (B := 715) fun x hx => by
      obtain ⟨y, hy, rfl⟩ := List.mem_map.mp hx
      obtain ⟨p, hp, rfl⟩ := List.mem_map.mp hy
      exact pl p hp
    rw [List.length_map, List.length_map, e4] at this
    exact Nat.le_trans this (Nat.mul_le_mul h17 (Nat.le_refl _))
  refine ⟨_, (pss_cons (ps_set (i := 1) sc.nd rfl (Or.inl rfl) (pe_lst pa_nil))
      (pss_cons (ps_for PassesOwn.never rfl (pi_list (pv 0)) (pg_name (i := 2) sc.nd rfl (Or.inl rfl))
      (pss_one (ps_expr (pe_bm PySem.F.plainAttrs_list PySem.F.slot_list_append PySem.F.type_list_append mt_append (pv 1) (pa_cons (pe_bm PySem.F.plainAttrs_str PySem.F.slot_str_join PySem.F.type_str_join mt_join pe_str (pa_cons (pe_op op_cat (pe_lst (pa_cons (pe_op op_add_str (pe_ix (ixL (K := K) rfl) (pv 2) pe_int (fun _ _ => rfl)) (pe_ix (ixL (K := K) rfl) (pv 2) pe_int (fun _ _ => rfl))) pa_nil)) (pe_lc (defScope s_law_text) ["_law_parts_here", "_law_some", "_law_part"] ["_law_way"] 1 [] (pi_list (pe_ix (ixL (K := K) rfl) (pv 2) pe_int (fun _ _ => rfl))) (fun _ _ _ _ _ _ => (ptg_name (show List.Nodup (["_law_way"] : List Str) by decide +kernel) rfl rfl)) (fun _ _ _ _ _ _ => pts_nil) (fun _ _ _ _ _ _ => (pe_bmJ (K := K) rfl PySem.F.plainAttrs_str PySem.F.slot_str_join PySem.F.type_str_join (mtJoin (K := K) rfl) pe_str (pa_cons (pv 0) pa_nil))))) pa_nil)) pa_nil)))))
      (pss_one (ps_ret (pe_bm PySem.F.plainAttrs_str PySem.F.slot_str_join PySem.F.type_str_join mt_join pe_str (pa_cons (pv 1) pa_nil)))))), ?_⟩
  refine ⟨Nat.zero_le _, fun sp hsp => ?_⟩
  have s0 := same_upd hsp (.lst [])
  refine ⟨_, rfl, g, rfl, ⟨_, SqL.of (s0 _ _ hT.g)⟩, for_list (K := K) (a := g) (xs := ps.map fun p => V.ref p.a) (fun i σ H2 => (∃ y : Option V, σ = [some (.ref g), some (.ref sp), y]) ∧ Same H H2 ∧ H2 sp = some (.lst (((ps.take i).map fun p => Txt.join " " (wds p)).map V.str)))
    ⟨⟨_, rfl⟩, s0, upd_same⟩ (fun i σ H2 _ h => SqL.of (h.2.1 _ _ hT.g)) (fun i x σ H2 hi h => ?_) (fun σ H2 h => ?_)⟩
  · obtain ⟨⟨y, rfl⟩, s2, k2⟩ := h
    rw [List.getElem?_map] at hi
    obtain ⟨p, hp, rfl⟩ : ∃ p, ps[i]? = some p ∧ x = V.ref p.a := by
      cases e : ps[i]? with
      | none => rw [e] at hi; cases hi
      | some z => rw [e] at hi; cases hi; exact ⟨z, rfl, rfl⟩
    have hpm := List.mem_of_getElem? hp
    have ii : i < 17 := by have := (List.getElem?_eq_some_iff.mp hp).1; omega
    obtain ⟨c1, c2, c3⟩ := hT.part hpm
    have c1' := s2 _ _ c1
    refine ⟨_, rfl, .inl ⟨rfl, _, SqL.of k2⟩, rfl, _, rfl, p.a, _, _, _, rfl, rfl, SqL.of c1', atI_nat (j := 0) rfl, _, rfl, p.a, _, _, _, rfl, rfl, SqL.of c1', atI_nat (j := 1) rfl, _, _, rfl, rfl, small (m := 1000) (by have := (hf p hpm).n; have := (hf p hpm).s; omega), (by show 1 ≤ sizeLine; decide), fun hp1 hhp1 => ?_⟩
    have s3 := same_upd hhp1 (.lst [V.str (p.nm ++ p.sg)])
    have k3 : upd H2 hp1 (.lst [V.str (p.nm ++ p.sg)]) hp1 = some (.lst [V.str (p.nm ++ p.sg)]) := upd_same
    generalize upd H2 hp1 (.lst [V.str (p.nm ++ p.sg)]) = H3 at s3 k3 ⊢
    have s23 := s2.trans s3
    refine ⟨_, rfl, p.a, _, _, .ref p.wa, rfl, rfl, SqL.of (s23 _ _ c1), atI_nat (j := 2) rfl, p.wa, rfl, ⟨_, SqL.of (s23 _ _ c2)⟩, comp_listD (K := K) (a := p.wa) (xs := p.ws.map fun w => V.ref w.1) (fun j zs H4 => H4 = H3 ∧ zs = ((p.ws.take j).map fun w => Txt.join ":" w.2).map V.str) ⟨rfl, rfl⟩ (small (m := 1000) (by rw [List.length_map]; have := (hf p hpm).l; omega)) (fun j zs H4 hj h => ?_) (fun j u zs H4 hj h => ?_) (fun zs H4 h lc hlc => ?_)⟩
    · obtain ⟨rfl, rfl⟩ := h
      exact ⟨SqL.of (s23 _ _ c2), by simp; omega⟩
    · obtain ⟨rfl, rfl⟩ := h
      rw [List.getElem?_map] at hj
      obtain ⟨w, hw, rfl⟩ : ∃ w, p.ws[j]? = some w ∧ u = V.ref w.1 := by
        cases e : p.ws[j]? with
        | none => rw [e] at hj; cases hj
        | some z => rw [e] at hj; cases hj; exact ⟨z, rfl, rfl⟩
      have hwm := List.mem_of_getElem? hw
      obtain ⟨w1, w2⟩ := (hf p hpm).w w hwm
      refine comp_yes ?_
      refine ⟨rfl, _, rfl, ":", w.1, w.2, rfl, rfl, SqL.of (s23 _ _ (c3 w hwm)), (by rw [e3]; decide), ?_, rfl, ?_⟩
      · have := sum_b 70 w.2 w2
        omega
      · rw [List.take_add_one, hw, List.map_append, List.map_append]; rfl
    obtain ⟨rfl, rfl⟩ := h
    rw [List.length_map, List.take_length]
    have s4 := same_upd hlc (.lst ((p.ws.map fun w => Txt.join ":" w.2).map V.str))
    refine ⟨hp1, lc, _, _, rfl, rfl, s4 _ _ k3, upd_same, small (m := 1000) (by rw [List.length_map, List.length_map]; have := (hf p hpm).l; simp; omega), fun cp hcp => ?_⟩
    have s5 := s23.trans (s4.trans (same_upd hcp (.lst ([V.str (p.nm ++ p.sg)] ++ (p.ws.map fun w => Txt.join ":" w.2).map V.str))))
    refine ⟨" ", cp, wds p, rfl, rfl, SqL.of upd_same, (by rw [e1]; decide), ?_, sp, _, _, rfl, rfl, (s3.trans (s4.trans (same_upd hcp _))) _ _ k2, smlt (m := 100) (by simp; omega), ?_⟩
    · have := sum_b 142 (wds p) (wf p hpm)
      have := wl5 p hpm
      omega
    refine ⟨⟨_, rfl⟩, s5.put hsp _, ?_⟩
    have e : ps.take (i + 1) = ps.take i ++ [p] := by rw [List.take_add_one, hp]; rfl
    rw [upd_same, e, List.map_append, List.map_append]; rfl
  obtain ⟨⟨y, rfl⟩, s2, k2⟩ := h
  rw [List.length_map, List.take_length] at k2
  refine ⟨rfl, _, rfl, "; ", sp, ps.map fun p => Txt.join " " (wds p), rfl, rfl, SqL.of k2, (by rw [e4]; decide), ?_, ?_⟩
  · have := sum_b 715 (ps.map fun p => Txt.join " " (wds p)) fun x hx => by
      obtain ⟨p, hp, rfl⟩ := List.mem_map.mp hx
      exact pl p hp
    rw [List.length_map] at this
    rw [List.length_map]
    omega
  · have e : (Txt.join "; " (ps.map fun p => Txt.join " " (wds p))) = textW (ps.map wds) := by unfold textW; rw [List.map_map]; rfl
    rw [e]
    exact q _ s2 (by omega)
def ltK (c at' k : Int) (j : Nat) : Int := (c / ((j : Int) + 4) + 3 * k * (if (j : Int) = at' then 1 else 0)) % 26
def nmK (c at' : Int) (sz : Nat) (k : Nat) : Str := wrd ((List.range sz).map (ltK c at' (k : Int)))
theorem ltk_in (c at' k : Int) (j : Nat) : 0 ≤ ltK c at' k j ∧ ltK c at' k j < 26 := ⟨Int.emod_nonneg _ (by decide), Int.emod_lt_of_pos _ (by decide)⟩
theorem ltk_all {c at' k : Int} {m : Nat} : ∀ t ∈ (List.range m).map (ltK c at' k), 0 ≤ t ∧ t < 26 := fun t ht => by
  obtain ⟨j, _, rfl⟩ := List.mem_map.mp ht
  exact ltk_in _ _ _ _
theorem nmk_inj {c at' : Int} {sz k k' : Nat} (ha0 : 0 ≤ at') (ha1 : at' < sz) (hk : k < 8) (hk' : k' < 8) (e : nmK c at' sz k = nmK c at' sz k') : k = k' := by
  have e1 := wrd_inj (fun t ht => (ltk_all t ht).1) (fun t ht => (ltk_all t ht).1) e
  have := congrArg (fun l => l[at'.toNat]?) e1
  simp only [List.getElem?_map, List.getElem?_range (show at'.toNat < sz by omega), Option.map_some] at this
  have h := Option.some.inj this
  unfold ltK at h
  rw [show ((at'.toNat : Nat) : Int) = at' by omega, if_pos rfl, Int.mul_one, Int.mul_one] at h
  omega
theorem nmk_name {c at' : Int} {sz k : Nat} (h1 : 1 ≤ sz) (h8 : sz ≤ 8) : isName (nmK c at' sz k) = true := wrd_name (by simp; omega) (by simp; omega) ltk_all
def IsP (p : PD) (d : PPTy) : Prop := p.nm = d.1 ∧ p.sg = sgS d.2.1 ∧ (p.ws.map fun w => w.2) = d.2.2.map fun w => [w.1, intS w.2]
theorem join2 (x y : Str) : Txt.join ":" [x, y] = x ++ ":" ++ y := by
  have e1 : (Txt.join ":" [x, y]).cps.toList = x.cps.toList ++ [58] ++ y.cps.toList := by rw [flat_join]; rfl
  have e2 : (x ++ ":" ++ y).cps.toList = x.cps.toList ++ [58] ++ y.cps.toList := by rw [app_list, app_list]; rfl
  exact (str_list e1).trans (str_list e2).symm
theorem wds_is {p : PD} {d : PPTy} (h : IsP p d) : wds p = itW d := by
  obtain ⟨h1, h2, h3⟩ := h
  unfold wds itW hdS
  rw [h1, h2]
  have : (p.ws.map fun w => Txt.join ":" w.2) = (p.ws.map fun w => w.2).map (Txt.join ":") := by rw [List.map_map]; rfl
  rw [this, h3, List.map_map]
  congr 1
theorem wdss_is : ∀ {ps : List PD} {ds : List PPTy}, Paired IsP ps ds → ps.map wds = ds.map itW
  | _, _, .nil => rfl
  | _, _, .cons h t => by rw [List.map_cons, List.map_cons, wds_is h, wdss_is t]
theorem isp_few {p : PD} {d : PPTy} (h : IsP p d) (ok : POk d) : PFew p := by
  obtain ⟨h1, h2, h3⟩ := h
  refine ⟨by rw [h1]; have := (name_few ok.nm).2.1; omega, by rw [h2]; show 1 ≤ 70; decide, ?_, fun w hw => ?_⟩
  · have := congrArg List.length h3
    rw [List.length_map, List.length_map] at this
    have := ok.l
    omega
  · have : w.2 ∈ d.2.2.map fun w => [w.1, intS w.2] := by rw [← h3]; exact List.mem_map.mpr ⟨w, hw, rfl⟩
    obtain ⟨y, hy, e⟩ := List.mem_map.mp this
    rw [← e]
    refine ⟨by show 2 ≤ 2; decide, fun x hx => ?_⟩
    simp only [List.mem_cons, List.not_mem_nil, or_false] at hx
    rcases hx with rfl | rfl
    · have := (name_few (ok.ws y hy).1).2.1; omega
    · have := (amt_is (ok.ws y hy).2).2.2.1; omega
theorem isps_few : ∀ {ps : List PD} {ds : List PPTy}, Paired IsP ps ds → (∀ d ∈ ds, POk d) → ∀ p ∈ ps, PFew p
  | _, _, .nil, _, _, h => by cases h
  | _, _, .cons a t, ok, p, h => by
    rcases List.mem_cons.mp h with rfl | h
    · exact isp_few a (ok _ List.mem_cons_self)
    · exact isps_few t (fun d hd => ok d (List.mem_cons_of_mem _ hd)) p h
structure GP (ps : List PPTy) : Prop where
  ok : ∀ p ∈ ps, POk p
  ne : ∀ p ∈ ps, p.2.2 ≠ []
  un : ∀ p ∈ ps, (p.2.2.map fun w => w.1).Nodup
  l2 : ∀ p ∈ ps, p.2.2.length ≤ 2
  nd : (pnms ps).Nodup
  inn : ∀ p ∈ ps, ∀ x ∈ p.2.2, x.1 ∈ pnms ps
theorem log_amt {z : Int} (h : AmtOk z) : z.natAbs.log2 < 1920 := by
  have ha : z.natAbs < 10 ^ 60 := by obtain ⟨h1, h2⟩ := h; omega
  by_cases e : z.natAbs = 0
  · rw [e]; decide
  · refine (Nat.log2_lt e).mpr (Nat.lt_trans ha ?_)
    calc (10 : Nat) ^ 60 < 16 ^ 60 := by decide +kernel
      _ = 2 ^ 240 := by decide +kernel
      _ ≤ 2 ^ 1920 := Nat.pow_le_pow_right (by decide) (by decide)
def spParts (K : PySem.W.Frag) : Sp := fun vs H Q _ => ∃ (a : Addr) (ns : List Int) (n : Int), vs = [.ref a, .int n] ∧ SqL K H a (ns.map V.int) ∧ ns.length ≤ 63 ∧ 2 ≤ n ∧ n ≤ 6 ∧ ∀ (g : Addr) (ps : List PD) (ds : List PPTy) (H' : Hp), Same H H' → HT H' g ps → Paired IsP ps ds → (∀ x ∈ tE g ps, H x.1 = none) → (ds.length : Int) = n → GP ds → Q (.ref g) H'
theorem ok_parts (F : DefAt K mg "_law_parts" s_law_parts ["_law_script", "_law_many_here"]) (T : Txt mg) (D_law_cell_at : Dn P w K mg base "_law_cell_at" 1 ["_law_script", "_law_k"] (spCell K)) : Dn P w K mg base "_law_parts" 2 ["_law_script", "_law_many_here"] (spParts K) := by
  have sc := sc_law_parts
  refine F.ok sc (fun vs H Q E h => ?_) (fun f cdv A outer s H vs Q E hr h => ?_)
  · obtain ⟨_, _, _, rfl, _⟩ := h; rfl
  obtain ⟨a, ns, n, rfl, hS, h63, n2, n6, q⟩ := h
  refine ⟨_, (pss_cons (ps_set (i := 2) sc.nd rfl (Or.inl rfl) pe_str)
      (pss_cons (ps_set (i := 3) sc.nd rfl (Or.inl rfl) (pe_op op_mod (pe_op op_mul (pe_dn D_law_cell_at hr (pa_cons (pv 0) (pa_cons pe_int pa_nil))) pe_int) pe_int))
      (pss_cons (ps_set (i := 4) sc.nd rfl (Or.inl rfl) (pe_op op_add pe_int (pe_op op_mod (pv 3) pe_int)))
      (pss_cons (ps_set (i := 5) sc.nd rfl (Or.inl rfl) (pe_op op_mod (pe_op op_fdiv (pv 3) pe_int) (pv 4)))
      (pss_cons (ps_set (i := 6) sc.nd rfl (Or.inl rfl) (pe_lst pa_nil))
      (pss_cons (ps_for PassesOwn.never rfl (pi_range1 rfl T.b_range (pa_cons (pv 1) pa_nil)) (pg_name (i := 7) sc.nd rfl (Or.inl rfl))
      (pss_cons (ps_set (i := 8) sc.nd rfl (Or.inl rfl) pe_str)
      (pss_cons (ps_for PassesOwn.never rfl (pi_range1 rfl T.b_range (pa_cons (pv 4) pa_nil)) (pg_name (i := 9) sc.nd rfl (Or.inl rfl))
      (pss_one (ps_set (i := 8) sc.nd rfl (Or.inl rfl) (pe_op op_add_str (pv 8) (pe_ix ix_str (pv 2) (pe_op op_mod (pe_op op_add (pe_op op_fdiv (pv 3) (pe_op op_add (pv 9) pe_int)) (pe_op op_mul (pe_op op_mul pe_int (pv 7)) (pe_callTy call_int1 rfl T.b_int PyProof.Rows.boot_int (pa_cons (pe_cmpR op_eq (pv 9) (pv 5) (nomark _)) pa_nil)))) pe_int) (fun _ _ => rfl))))))
      (pss_one (ps_expr (pe_bm PySem.F.plainAttrs_list PySem.F.slot_list_append PySem.F.type_list_append mt_append (pv 6) (pa_cons (pv 8) pa_nil)))))))
      (pss_cons (ps_set (i := 10) sc.nd rfl (Or.inl rfl) (pe_lst pa_nil))
      (pss_cons (ps_for PassesOwn.never rfl (pi_range1 rfl T.b_range (pa_cons (pv 1) pa_nil)) (pg_name (i := 7) sc.nd rfl (Or.inl rfl))
      (pss_cons (ps_set (i := 3) sc.nd rfl (Or.inl rfl) (pe_op op_add (pe_dn D_law_cell_at hr (pa_cons (pv 0) (pa_cons (pe_op op_add pe_int (pv 7)) pa_nil))) (pe_op op_mul (pe_op op_mul pe_int (pv 7)) (pv 7))))
      (pss_cons (ps_set (i := 11) sc.nd rfl (Or.inl rfl) (pe_op op_mod (pe_op op_mod (pe_op op_mul (pv 3) pe_int) pe_int) (pv 1)))
      (pss_cons (ps_set (i := 12) sc.nd rfl (Or.inl rfl) (pe_op op_mod (pe_op op_pow (pe_op op_add (pe_op op_mod (pe_op op_mul (pv 3) pe_int) pe_int) pe_int) pe_int) (pe_ix (ixL (K := K) rfl) (pe_lst (pa_cons pe_int (pa_cons (pe_op op_pow pe_int pe_int) (pa_cons (pe_op op_pow pe_int pe_int) pa_nil)))) (pe_op op_mod (pe_op op_mod (pe_op op_mul (pv 3) pe_int) pe_int) pe_int) (fun _ _ => rfl))))
      (pss_cons (ps_set (i := 13) sc.nd rfl (Or.inl rfl) (pe_lst (pa_cons (pe_lst (pa_cons (pe_ix (ixL (K := K) rfl) (pv 6) (pv 11) (fun _ _ => rfl)) (pa_cons (pe_callTy call_str_int rfl T.b_str PyProof.Rows.boot_str (pa_cons (pv 12) pa_nil)) pa_nil))) pa_nil)))
      (pss_cut (ps_if (pt_cmpR op_eq (pe_op op_mod (pe_op op_mod (pe_op op_mul (pv 3) pe_int) pe_int) pe_int) pe_int (nomark _))
      (pss_one (ps_expr (pe_bm PySem.F.plainAttrs_list PySem.F.slot_list_append PySem.F.type_list_append mt_append (pv 13) (pa_cons (pe_lst (pa_cons (pe_ix (ixL (K := K) rfl) (pv 6) (pe_op op_mod (pe_op op_add (pv 11) pe_int) (pv 1)) (fun _ _ => rfl)) (pa_cons (pe_callTy call_str_int rfl T.b_str PyProof.Rows.boot_str (pa_cons (pe_un un_neg (pv 12)) pa_nil)) pa_nil))) pa_nil))))
      pss_nil)
      (pss_one (ps_expr (pe_bm PySem.F.plainAttrs_list PySem.F.slot_list_append PySem.F.type_list_append mt_append (pv 10) (pa_cons (pe_lst (pa_cons (pe_ix (ixL (K := K) rfl) (pv 6) (pv 7) (fun _ _ => rfl)) (pa_cons (pe_ix ix_str pe_str (pe_op op_mod (pe_op op_mod (pe_op op_mul (pv 3) pe_int) pe_int) pe_int) (fun _ _ => rfl)) (pa_cons (pv 13) pa_nil)))) pa_nil))))))))))
      (pss_one (ps_ret (pv 10))))))))))), ?_⟩
  refine ⟨_, rfl, a, ns, 1, rfl, hS, h63, by decide, fun m0 => ?_⟩
  refine ⟨_, _, rfl, rfl, .inr ⟨by decide, by decide⟩, _, _, rfl, rfl, (show (0 : Int) < 65537 by decide), ?_⟩
  have c0 : 0 ≤ m0 * 16807 % 65537 ∧ m0 * 16807 % 65537 < 65537 := ⟨Int.emod_nonneg _ (by decide), Int.emod_lt_of_pos _ (by decide)⟩
  generalize hc : m0 * 16807 % 65537 = c at c0
  replace hc : (fun i j : Int => V.int (i % j)) (m0 * 16807) 65537 = V.int c := by rw [← hc]
  rw [hc]
  clear hc
  obtain ⟨c0, c1⟩ := c0
  have s8 : 0 ≤ c % 8 ∧ c % 8 < 8 := ⟨Int.emod_nonneg _ (by decide), Int.emod_lt_of_pos _ (by decide)⟩
  refine ⟨_, rfl, _, _, rfl, rfl, (show (0 : Int) < 8 by decide), _, _, rfl, rfl, ?_⟩
  refine ⟨_, rfl, _, _, rfl, rfl, ⟨by decide, by decide⟩, _, rfl, _, _, rfl, rfl, (show (0 : Int) < 1 + c % 8 by omega), ?_⟩
  obtain ⟨sz, hsz⟩ : ∃ sz : Nat, (sz : Int) = 1 + c % 8 := ⟨(1 + c % 8).toNat, by omega⟩
  have a0 := Int.emod_nonneg (c / 8) (show (1 + c % 8 : Int) ≠ 0 by omega)
  have a1 := Int.emod_lt_of_pos (c / 8) (show (0 : Int) < 1 + c % 8 by omega)
  obtain ⟨at', hat'⟩ : ∃ x, x = c / 8 % (1 + c % 8) := ⟨_, rfl⟩
  rw [← hat'] at a0 a1
  have z1 : 1 ≤ sz := by omega
  have z8 : sz ≤ 8 := by omega
  refine ⟨Nat.zero_le _, fun np hnp => ?_⟩
  have sg := same_upd hnp (.lst [])
  refine ⟨_, rfl, n, rfl, by omega, by omega, for_range (lo := 0) (n := n.toNat) (fun i σ H5 => ∃ y1 y2 y3 : Option V, σ = [some (.ref a), some (.int n), some (.str abc), some (.int c), some (.int (1 + c % 8)), some (.int at'), some (.ref np), y1, y2, y3, none, none, none, none] ∧ Same H H5 ∧ H5 np = some (.lst (((List.range i).map (nmK c at' sz)).map V.str)))
    ⟨_, _, _, by rw [hat']; rfl, sg, upd_same⟩ (fun i σ H5 hi h => ?_) (fun σ H5 h => ?_)⟩
  · obtain ⟨y1, y2, y3, rfl, s5, hg5⟩ := h
    refine ⟨_, rfl, 1 + c % 8, rfl, by omega, by omega, for_range (lo := 0) (n := (1 + c % 8).toNat) (fun j σ H6 => ∃ y3 : Option V, σ = [some (.ref a), some (.int n), some (.str abc), some (.int c), some (.int (1 + c % 8)), some (.int at'), some (.ref np), some (.int (0 + ((i : Nat) : Int))), some (.str (wrd ((List.range j).map (ltK c at' (i : Nat))))), y3, none, none, none, none] ∧ H6 = H5)
      ⟨_, rfl, rfl⟩ (fun j σ H6 hj h => ?_) (fun σ H6 h => ?_)⟩
    · obtain ⟨y3, rfl, rfl⟩ := h
      have ek : 3 * (0 + ((i : Nat) : Int)) * (if decide (V.int (0 + ((j : Nat) : Int)) = V.int at') = true then 1 else 0) = 3 * (i : Int) * (if ((j : Nat) : Int) = at' then 1 else 0) := by
        rw [Int.zero_add, Int.zero_add]
        by_cases e : ((j : Nat) : Int) = at'
        · rw [if_pos e, if_pos (by rw [e]; simp)]
        · rw [if_neg e, if_neg (by simp [e])]
      refine ⟨_, rfl, _, rfl, _, rfl, _, rfl, _, _, rfl, rfl, _, _, rfl, rfl, ⟨by omega, by omega⟩, _, rfl, _, _, rfl, rfl, .inl ⟨by decide, by decide⟩, _, rfl, _, rfl, rfl, .inr ⟨_, rfl, _, _, rfl, rfl, .inl ⟨by omega, by omega⟩, _, _, rfl, rfl, ?_⟩⟩
      have lt := ltk_in c at' (i : Nat) j
      have et : (c / (0 + ((j : Nat) : Int) + 4) + 3 * (0 + ((i : Nat) : Int)) * (if decide (V.int (0 + ((j : Nat) : Int)) = V.int at') = true then 1 else 0)) % 26 = ltK c at' (i : Nat) j := by
        rw [ek, Int.zero_add]; rfl
      have wl : (wrd ((List.range j).map (ltK c at' (i : Nat)))).length = j := by rw [wrd_len]; simp
      refine ⟨_, _, rfl, rfl, (show (0 : Int) < 26 by decide), abc, _, lt1 (ltK c at' (i : Nat) j), rfl, rfl, (by decide +kernel), (by rw [et]; exact abc_at _ lt.1 lt.2), _, _, rfl, rfl, small (m := 100) (by rw [wl]; show j + 1 ≤ 100; omega), ?_⟩
      have ew : wrd ((List.range j).map (ltK c at' (i : Nat))) ++ ⟨#[lt1 (ltK c at' (i : Nat) j)]⟩ = wrd ((List.range (j + 1)).map (ltK c at' (i : Nat))) := by
        rw [wrd_snoc, List.range_succ, List.map_append]; rfl
      rw [ew]
      exact ⟨_, rfl, rfl⟩
    · obtain ⟨y3, rfl, rfl⟩ := h
      refine ⟨_, rfl, .inl ⟨rfl, _, SqL.of hg5⟩, _, rfl, np, _, _, rfl, rfl, hg5, smlt (m := 100) (by simp; omega), ?_⟩
      refine ⟨_, _, _, rfl, s5.put hnp _, ?_⟩
      rw [upd_same, List.range_succ, List.map_append, List.map_append, show (1 + c % 8).toNat = sz by omega]; rfl
  obtain ⟨y1, y2, y3, rfl, s5, hn5⟩ := h
  have nm_at : ∀ k : Int, 0 ≤ k → k < n → atI (((List.range n.toNat).map (nmK c at' sz)).map V.str) k = some (.str (nmK c at' sz k.toNat)) := fun k k0 k1 => atI_i k0 (by
    rw [List.getElem?_map, List.getElem?_map, List.getElem?_range (by omega)]; rfl)
  have nd : ((List.range n.toNat).map (nmK c at' sz)).Nodup := map_nodup fun i j hi hj e => nmk_inj a0 (by omega) (by omega) (by omega) e
  refine ⟨Nat.zero_le _, fun g hg => ?_⟩
  have sg2 := same_upd hg (.lst [])
  refine ⟨_, rfl, n, rfl, by omega, by omega, for_range (lo := 0) (n := n.toNat) (fun i σ H6 => ∃ (ps : List PD) (ds : List PPTy) (cc : Int) (y1 y2 y3 y4 y5 y6 : Option V), σ = [some (.ref a), some (.int n), some (.str abc), some (.int cc), some (.int (1 + c % 8)), some (.int at'), some (.ref np), y1, y2, y3, some (.ref g), y4, y5, y6] ∧ Same H5 H6 ∧ HT H6 g ps ∧ Paired IsP ps ds ∧ (∀ x ∈ tE g ps, H5 x.1 = none) ∧ pnms ds = (List.range i).map (nmK c at' sz) ∧ ∀ p ∈ ds, POk p ∧ p.2.2 ≠ [] ∧ (p.2.2.map fun w => w.1).Nodup ∧ p.2.2.length ≤ 2 ∧ ∀ x ∈ p.2.2, x.1 ∈ (List.range n.toNat).map (nmK c at' sz))
    ⟨[], [], _, _, _, _, _, _, _, rfl, sg2, ⟨List.nodup_cons.mpr ⟨(fun z => by cases z), List.nodup_nil⟩, fun x hx => by rw [List.mem_singleton.mp hx]; exact upd_same⟩, .nil, (fun x hx => by rw [List.mem_singleton.mp hx]; exact hg), rfl, (fun _ z => by cases z)⟩ (fun i σ H6 hi h => ?_) (fun σ H6 h => ?_)⟩
  · obtain ⟨ps, ds, cc, y1, y2, y3, y4, y5, y6, rfl, s6, hT, isp, hfr, hnm, hps⟩ := h
    have pl : ds.length = i := by have := congrArg List.length hnm; unfold pnms at this; simpa using this
    have ppl : ps.length = i := by rw [pr_len isp, pl]
    refine ⟨_, rfl, _, rfl, _, _, rfl, rfl, a, ns, 4 + (0 + ((i : Nat) : Int)), rfl, (s5.trans s6).seq hS, h63, by omega, fun z => ?_⟩
    refine ⟨_, rfl, _, _, rfl, rfl, .inl ⟨by decide, by decide⟩, _, rfl, _, _, rfl, rfl, .inr ⟨by omega, by omega⟩, _, _, rfl, rfl, ?_⟩
    generalize hd : z + 7 * (0 + ((i : Nat) : Int)) * (0 + ((i : Nat) : Int)) = d
    replace hd : (fun i j : Int => V.int (i + j)) z (7 * (0 + ((i : Nat) : Int)) * (0 + ((i : Nat) : Int))) = V.int d := by rw [← hd]
    rw [hd]
    clear hd
    have b2 : 0 ≤ d * 16807 % 20011 % n ∧ d * 16807 % 20011 % n < n := ⟨Int.emod_nonneg _ (by omega), Int.emod_lt_of_pos _ (by omega)⟩
    refine ⟨_, rfl, _, _, rfl, rfl, .inr ⟨by decide, by decide⟩, _, _, rfl, rfl, (show (0 : Int) < 20011 by decide), _, rfl, _, _, rfl, rfl, (show (0 : Int) < n by omega), ?_⟩
    generalize hf : d * 16807 % 20011 % n = fst at b2
    replace hf : (fun i j : Int => V.int (i % j)) (d * 16807 % 20011) n = V.int fst := by rw [← hf]
    rw [hf]
    clear hf
    have b3 : 0 ≤ (fst + 1) % n ∧ (fst + 1) % n < n := ⟨Int.emod_nonneg _ (by omega), Int.emod_lt_of_pos _ (by omega)⟩
    have bne : (fst + 1) % n ≠ fst := by
      by_cases e : fst + 1 < n
      · rw [Int.emod_eq_of_lt (by omega) e]; omega
      · rw [show fst + 1 = n by omega, Int.emod_self]; omega
    have hn6 := s6 _ _ hn5
    refine ⟨_, rfl, _, _, rfl, rfl, .inr ⟨by decide, by decide⟩, _, _, rfl, rfl, (show (0 : Int) < 1000003 by decide), _, _, rfl, rfl, _, _, rfl, rfl, ⟨by decide, by decide, by omega⟩, ?_⟩
    refine ⟨_, _, rfl, rfl, ⟨by decide, by decide, by decide⟩, _, _, rfl, rfl, ⟨by decide, by decide, by decide⟩, (by show 3 ≤ sizeLine; decide), fun lp hlp => ?_⟩
    obtain ⟨M, hM, hM0, hM1⟩ : ∃ M : Int, atI [V.int 10, V.int (10 ^ (6 : Int).toNat), V.int (10 ^ (60 : Int).toNat)] (d * 30011 % 10007 % 3) = some (.int M) ∧ 0 < M ∧ M ≤ 10 ^ 60 := by
      have : 0 ≤ d * 30011 % 10007 % 3 ∧ d * 30011 % 10007 % 3 < 3 := ⟨Int.emod_nonneg _ (by decide), Int.emod_lt_of_pos _ (by decide)⟩
      rcases (show d * 30011 % 10007 % 3 = 0 ∨ d * 30011 % 10007 % 3 = 1 ∨ d * 30011 % 10007 % 3 = 2 by omega) with e | e | e <;> rw [e]
      · exact ⟨_, rfl, by decide, by decide⟩
      · exact ⟨_, rfl, by decide, by decide⟩
      · exact ⟨_, rfl, by decide, by decide⟩
    have s61 := same_upd hlp (.lst [V.int 10, V.int (10 ^ (6 : Int).toNat), V.int (10 ^ (60 : Int).toNat)])
    have k61 : upd H6 lp (.lst [V.int 10, V.int (10 ^ (6 : Int).toNat), V.int (10 ^ (60 : Int).toNat)]) lp = some (.lst [V.int 10, V.int (10 ^ (6 : Int).toNat), V.int (10 ^ (60 : Int).toNat)]) := upd_same
    generalize upd H6 lp (.lst [V.int 10, V.int (10 ^ (6 : Int).toNat), V.int (10 ^ (60 : Int).toNat)]) = H61 at s61 k61 ⊢
    refine ⟨_, rfl, _, _, rfl, rfl, .inr ⟨by decide, by decide⟩, _, _, rfl, rfl, (show (0 : Int) < 10007 by decide), _, _, rfl, rfl, (show (0 : Int) < 3 by decide), lp, _, _, .int M, rfl, rfl, SqL.of k61, hM, _, _, rfl, rfl, hM0, ?_⟩
    have am0 := Int.emod_nonneg ((d * 48271 % 1000003 + 3) ^ (12 : Int).toNat) (show M ≠ 0 by omega)
    have am1 := Int.emod_lt_of_pos ((d * 48271 % 1000003 + 3) ^ (12 : Int).toNat) hM0
    generalize hf : (d * 48271 % 1000003 + 3) ^ (12 : Int).toNat % M = amt at am0 am1
    replace hf : (fun i j : Int => V.int (i % j)) ((d * 48271 % 1000003 + 3) ^ (12 : Int).toNat) M = V.int amt := by rw [← hf]
    rw [hf]
    clear hf
    have aok : AmtOk amt := ⟨by omega, by omega⟩
    have aok2 : AmtOk (-amt) := ⟨by omega, by omega⟩
    have hn61 := s61 _ _ hn6
    obtain ⟨x1, hx1⟩ : ∃ x1, x1 = nmK c at' sz fst.toNat := ⟨_, rfl⟩
    obtain ⟨x2, hx2⟩ : ∃ x2, x2 = nmK c at' sz ((fst + 1) % n).toNat := ⟨_, rfl⟩
    have m1 : x1 ∈ (List.range n.toNat).map (nmK c at' sz) := List.mem_map.mpr ⟨_, List.mem_range.mpr (by omega), hx1.symm⟩
    have m2 : x2 ∈ (List.range n.toNat).map (nmK c at' sz) := List.mem_map.mpr ⟨_, List.mem_range.mpr (by omega), hx2.symm⟩
    have x12 : x1 ≠ x2 := fun e => by
      rw [hx1, hx2] at e
      have := nmk_inj a0 (by omega) (by omega) (by omega) e
      omega
    have e1 : isName x1 = true := by rw [hx1]; exact nmk_name z1 z8
    have e2 : isName x2 = true := by rw [hx2]; exact nmk_name z1 z8
    refine ⟨_, rfl, _, rfl, np, _, _, .str x1, rfl, rfl, SqL.of hn61, (by rw [hx1]; exact nm_at _ b2.1 b2.2), _, rfl, amt, rfl, log_amt aok, (by show 2 ≤ sizeLine; decide), fun w1 hw1 => ?_⟩
    have M1 := (HM.new (A := []) (B := []) (H := H61) ⟨List.nodup_nil, (fun _ z => by cases z)⟩ hw1 (.lst ([x1, intS amt].map V.str)))
    have s7 := same_upd hw1 (.lst ([x1, intS amt].map V.str))
    generalize hH7 : upd H61 w1 (.lst ([x1, intS amt].map V.str)) = H7 at M1 s7
    rw [show upd H61 w1 (.lst [V.str x1, V.str (Str.ofString (toString amt))]) = H7 from hH7]
    refine ⟨(by show 1 ≤ sizeLine; decide), fun wa hwa => ?_⟩
    have M2 := HM.new (A := []) (B := [(w1, HO.lst ([x1, intS amt].map V.str))]) M1 hwa (.lst [V.ref w1])
    have s8' := same_upd hwa (.lst [V.ref w1])
    generalize upd H7 wa (.lst [V.ref w1]) = H8 at M2 s8' ⊢
    have s68 := s61.trans (s7.trans s8')
    have f1 : H6 w1 = none := s61.free hw1
    have f2 : H6 wa = none := (s61.trans s7).free hwa
    refine ⟨fun σ' H9 => ∃ (ws : List (Addr × List Str)) (vs : List (Str × Int)), σ' = [some (.ref a), some (.int n), some (.str abc), some (.int d), some (.int (1 + c % 8)), some (.int at'), some (.ref np), some (.int (0 + ((i : Nat) : Int))), y2, y3, some (.ref g), some (.int fst), some (.int amt), some (.ref wa)] ∧ Same H6 H9 ∧ HM H9 ((wa, HO.lst (ws.map fun w => V.ref w.1)) :: ws.map wE) ∧ (∀ w ∈ ws, H6 w.1 = none) ∧ (ws.map fun w => w.2) = (vs.map fun w => [w.1, intS w.2]) ∧ vs ≠ [] ∧ (vs.map fun w => w.1).Nodup ∧ vs.length ≤ 2 ∧ ∀ x ∈ vs, (isName x.1 = true ∧ AmtOk x.2) ∧ x.1 ∈ (List.range n.toNat).map (nmK c at' sz), ?_, ?_⟩
    · refine ⟨_, rfl, _, _, rfl, rfl, .inr ⟨by decide, by decide⟩, _, _, rfl, rfl, (show (0 : Int) < 32749 by decide), _, _, rfl, rfl, (show (0 : Int) < 2 by decide), rfl, _, rfl, ?_⟩
      refine ite2 (fun _ => ?_) (fun _ => ?_)
      · have hwl : H8 wa = some (.lst [V.ref w1]) := M2.at' (wa, _) List.mem_cons_self
        refine ⟨_, rfl, .inl ⟨rfl, _, SqL.of hwl⟩, _, rfl, _, rfl, _, _, rfl, rfl, _, rfl, _, _, rfl, rfl, (show (0 : Int) < n by omega), np, _, _, .str x2, rfl, rfl, SqL.of ((s7.trans s8') _ _ hn61), (by rw [hx2]; exact nm_at _ b3.1 b3.2), _, rfl, _, rfl, _, rfl, log_amt aok2, (by show 2 ≤ sizeLine; decide), fun w2 hw2 => ?_⟩
        have M3 := HM.new (A := [(wa, HO.lst [V.ref w1]), (w1, HO.lst ([x1, intS amt].map V.str))]) (B := []) M2 hw2 (.lst ([x2, intS (-amt)].map V.str))
        have s9 := same_upd hw2 (.lst ([x2, intS (-amt)].map V.str))
        generalize hH9 : upd H8 w2 (.lst ([x2, intS (-amt)].map V.str)) = H9 at M3 s9
        rw [show upd H8 w2 (.lst [V.str x2, V.str (Str.ofString (toString (-amt)))]) = H9 from hH9]
        refine ⟨wa, _, _, rfl, rfl, s9 _ _ hwl, (by show 2 ≤ sizeLine; decide), ?_⟩
        have M4 := HM.put (A := []) M3 (.lst ([V.ref w1] ++ [V.ref w2]))
        have fw2 : H6 w2 = none := s68.free hw2
        refine ⟨[(w1, [x1, intS amt]), (w2, [x2, intS (-amt)])], [(x1, amt), (x2, -amt)], rfl, (s68.trans s9).put f2 _, M4, fun w hw => ?_, rfl, (fun z => by cases z), ?_, Nat.le_refl _, fun x hx => ?_⟩
        · simp only [List.mem_cons, List.not_mem_nil, or_false] at hw
          rcases hw with rfl | rfl
          · exact f1
          · exact fw2
        · exact List.nodup_cons.mpr ⟨fun z => x12 (List.mem_singleton.mp z), List.nodup_cons.mpr ⟨(fun z => by cases z), List.nodup_nil⟩⟩
        · simp only [List.mem_cons, List.not_mem_nil, or_false] at hx
          rcases hx with rfl | rfl
          · exact ⟨⟨e1, aok⟩, m1⟩
          · exact ⟨⟨e2, aok2⟩, m2⟩
      · refine ⟨[(w1, [x1, intS amt])], [(x1, amt)], rfl, s68, M2, fun w hw => by rw [List.mem_singleton.mp hw]; exact f1, rfl, (fun z => by cases z), List.nodup_cons.mpr ⟨(fun z => by cases z), List.nodup_nil⟩, (by show 1 ≤ 2; decide), fun x hx => ?_⟩
        rw [List.mem_singleton.mp hx]; exact ⟨⟨e1, aok⟩, m1⟩
    rintro σ' H9 ⟨ws, vs, rfl, s9, M9, fws, ews, vne, vnd, v2, vin⟩
    have hk := nm_at (0 + ((i : Nat) : Int)) (by omega) (by omega)
    rw [show (0 + ((i : Nat) : Int)).toNat = i by omega] at hk
    have b0 : 0 ≤ d * 69621 % 65521 % 2 ∧ d * 69621 % 65521 % 2 < 2 := ⟨Int.emod_nonneg _ (by decide), Int.emod_lt_of_pos _ (by decide)⟩
    have hat : atI (("+-" : Str).cps.toList) (d * 69621 % 65521 % 2) = some (sgn (d * 69621 % 65521 % 2)) := by
      rcases (show d * 69621 % 65521 % 2 = 0 ∨ d * 69621 % 65521 % 2 = 1 by omega) with e | e <;> rw [e] <;> rfl
    have hg9 := s9 _ _ hT.g
    refine ⟨_, rfl, .inl ⟨rfl, _, SqL.of hg9⟩, _, rfl, _, rfl, np, _, _, _, rfl, rfl, SqL.of (s9 _ _ hn6), hk, _, rfl, _, _, rfl, rfl, .inr ⟨by decide, by decide⟩, _, _, rfl, rfl, (show (0 : Int) < 65521 by decide), _, _, rfl, rfl, (show (0 : Int) < 2 by decide), "+-", _, _, rfl, rfl, (by decide +kernel), hat, _, rfl, (by show 3 ≤ sizeLine; decide), fun pa hpa => ?_⟩
    have sA := same_upd hpa (.lst [V.str (nmK c at' sz i), .str (sgS (d * 69621 % 65521 % 2)), .ref wa])
    have MA := HM.new (A := []) (B := (wa, HO.lst (ws.map fun w => V.ref w.1)) :: ws.map wE) M9 hpa (.lst [V.str (nmK c at' sz i), .str (sgS (d * 69621 % 65521 % 2)), .ref wa])
    have fa : H6 pa = none := s9.free hpa
    have hPE : HM (upd H9 pa (.lst [V.str (nmK c at' sz i), .str (sgS (d * 69621 % 65521 % 2)), .ref wa])) (pE ⟨pa, nmK c at' sz i, sgS (d * 69621 % 65521 % 2), wa, ws⟩) := MA
    have hn : ∀ x ∈ pE ⟨pa, nmK c at' sz i, sgS (d * 69621 % 65521 % 2), wa, ws⟩, H6 x.1 = none := fun x hx => by
      rcases List.mem_cons.mp hx with rfl | hx
      · exact fa
      rcases List.mem_cons.mp hx with rfl | hx
      · exact f2
      · obtain ⟨w, hw, rfl⟩ := List.mem_map.mp hx
        exact fws w hw
    have hP := hT.push (s9.trans sA) hPE hn
    refine ⟨g, _, _, rfl, rfl, sA _ _ hg9, smlt (m := 100) (by rw [List.length_map]; omega), ?_⟩
    refine ⟨ps ++ [PD.mk pa (nmK c at' sz i) (sgS (d * 69621 % 65521 % 2)) wa ws], ds ++ [(nmK c at' sz i, d * 69621 % 65521 % 2, vs)], _, _, _, _, _, _, _, rfl, (s6.trans (s9.trans sA)).put hg _, hP, L2.Paired.app isp (.cons ⟨rfl, rfl, ews⟩ .nil), fun x hx => ?_, ?_, fun p hp => ?_⟩
    · have hx' : x.1 = g ∨ x ∈ (ps.map pE).flatten ∨ x ∈ pE ⟨pa, nmK c at' sz i, sgS (d * 69621 % 65521 % 2), wa, ws⟩ := by
        rcases List.mem_cons.mp hx with rfl | hx
        · exact .inl rfl
        · rw [List.map_append, List.flatten_append] at hx
          rcases List.mem_append.mp hx with hx | hx
          · exact .inr (.inl hx)
          · refine .inr (.inr ?_)
            simpa using hx
      rcases hx' with e | hx | hx
      · rw [e]; exact hg
      · exact hfr x (List.mem_cons_of_mem _ hx)
      · exact s6.free (hn x hx)
    · show (ds ++ [_]).map _ = _
      rw [List.map_append, List.range_succ, List.map_append]
      exact congrArg (· ++ _) hnm
    · rcases List.mem_append.mp hp with h | h
      · exact hps p h
      · rw [List.mem_singleton.mp h]
        exact ⟨⟨nmk_name z1 z8, by show d * 69621 % 65521 % 2 = 0 ∨ d * 69621 % 65521 % 2 = 1; omega, fun x hx => (vin x hx).1, by show vs.length ≤ 3; omega⟩, vne, vnd, v2, fun x hx => (vin x hx).2⟩
  · obtain ⟨ps, ds, cc, y1, y2, y3, y4, y5, y6, rfl, s6, hT, isp, hfr, hnm, hps⟩ := h
    have pl : ds.length = n.toNat := by have := congrArg List.length hnm; unfold pnms at this; simpa using this
    refine ⟨_, rfl, q g ps ds H6 (s5.trans s6) hT isp (fun x hx => s5.free (hfr x hx)) (by omega) ⟨fun p hp => (hps p hp).1, fun p hp => (hps p hp).2.1, fun p hp => (hps p hp).2.2.1, fun p hp => (hps p hp).2.2.2.1, ?_, fun p hp x hx => ?_⟩⟩
    · rw [hnm]; exact nd
    · rw [hnm]; exact (hps p hp).2.2.2.2 x hx
def Keep (M : List (Addr × HO)) (H H' : Hp) : Prop := ∀ b o, b ∉ (M.map fun x => x.1) → H b = some o → H' b = some o
theorem Keep.refl {M : List (Addr × HO)} {H : Hp} : Keep M H H := fun _ _ _ e => e
theorem Keep.same {M : List (Addr × HO)} {H H1 H2 : Hp} (k : Keep M H H1) (s : Same H1 H2) : Keep M H H2 := fun b o m e => s _ _ (k b o m e)
theorem Keep.put {M : List (Addr × HO)} {H H1 : Hp} (k : Keep M H H1) {x : Addr} (hx : x ∈ M.map fun x => x.1) (o' : HO) : Keep M H (upd H1 x o') := fun b o m e => by rw [upd_ne (fun z => m (by rw [z]; exact hx))]; exact k b o m e
def BadV (K : PySem.W.Frag) (H : Hp) (v : V) : Prop := (∃ S, kindV H v S ∧ PySem.W.kitOne K (.type S) (.type "str") = some false) ∨ ∃ s, v = .str s ∧ s.length ≤ 20000 ∧ BadT s
structure BadP (p : PD) : Prop where
  no : ∀ r, ahp r → stopP (runP r (wordL (wds p)))
  few : PFew p
def SdP (g : Addr) (A B : List PD) (p : PD) (H : Hp) (kind cell : Int) (k : Int) : St → Hp → Prop := fun σ' H1 => ∃ (p' : PD) (y4 : Option V), σ' = [some (.ref g), some (.int kind), some (.int cell), some (.ref p.a), y4, none] ∧ HT H1 g (A ++ p' :: B) ∧ Keep (tE g (A ++ p :: B)) H H1 ∧ (kind < k → BadP p') ∧ (k ≤ kind → p' = p)
theorem qa_lits {X : Cx} {es : List Expr} {zs : List Str} (h : Lits es zs) : QA X es (tLits zs) := ⟨pa_lits h⟩
theorem sp_l0 : Lits (getL (stN s_law_spoiled_text 1)) bad0 := Lits.cons (Lits.cons (Lits.cons (Lits.cons (Lits.cons (Lits.cons Lits.nil)))))
theorem sp_l1 : Lits (getL (stN s_law_spoiled_text 2)) bad1 := Lits.cons (Lits.cons (Lits.cons (Lits.cons (Lits.cons (Lits.cons (Lits.cons (Lits.cons Lits.nil)))))))
theorem sp_l2 : Lits (getL (stN s_law_spoiled_text 3)) bad2 := Lits.cons (Lits.cons (Lits.cons (Lits.cons (Lits.cons (Lits.cons (Lits.cons (Lits.cons Lits.nil)))))))
theorem sp_l3 {X : Cx} : QA X (getL (stN s_law_spoiled_text 4)) (tLits bad3) := qa_weak (qa_cons pe_str (qa_cons pe_str (qa_cons pe_str (qa_cons pe_str (qa_cons pe_str (qa_cons pe_str (qa_cons pe_str (qa_cons pe_str (qa_cons (pe_op op_mul_str pe_str pe_int) (qa_cons (pe_op op_add_str pe_str (pe_op op_mul_str pe_str pe_int)) (qa_cons pe_str (qa_cons pe_str (qa_cons pe_str (qa_cons pe_str (qa_cons pe_str qa_nil))))))))))))))) fun σ H Q h => ⟨_, _, rfl, rfl, (by decide), (by decide), (by decide +kernel), (by decide +kernel), (Nat.le_trans (by decide +kernel : (repS "1" 61).length ≤ 1000) (small (m := 1000) (Nat.le_refl _))), _, _, rfl, rfl, (by decide), (by decide), (by decide +kernel), (by decide +kernel), (Nat.le_trans (by decide +kernel : (repS "9" 61).length ≤ 1000) (small (m := 1000) (Nat.le_refl _))), _, _, rfl, rfl, (Nat.le_trans (by decide +kernel : ("-" : Str).length + (repS "9" 61).length ≤ 1000) (small (m := 1000) (Nat.le_refl _))), h⟩
theorem sp_body : ∃ L0 L1 L2 L3 : List Expr, defBody s_law_spoiled_text = stN s_law_spoiled_text 0 :: putL (stN s_law_spoiled_text 1) L0 :: putL (stN s_law_spoiled_text 2) L1 :: putL (stN s_law_spoiled_text 3) L2 :: putL (stN s_law_spoiled_text 4) L3 :: (defBody s_law_spoiled_text).drop 5 ∧ (∀ X, QA X L0 (tLits bad0)) ∧ (∀ X, QA X L1 (tLits bad1)) ∧ (∀ X, QA X L2 (tLits bad2)) ∧ ∀ X, QA X L3 (tLits bad3) :=
  ⟨_, _, _, _, rfl, fun _ => qa_lits sp_l0, fun _ => qa_lits sp_l1, fun _ => qa_lits sp_l2, fun _ => sp_l3⟩
def spSpT (K : PySem.W.Frag) : Sp := fun vs H Q _ => ∃ (g : Addr) (kind cell : Int) (ps : List PD) (ds : List PPTy), vs = [.ref g, .int kind, .int cell] ∧ HT H g ps ∧ Paired IsP ps ds ∧ GP ds ∧ 2 ≤ ds.length ∧ ds.length ≤ 6 ∧ 0 ≤ kind ∧ kind < 8 ∧ 0 ≤ cell ∧ cell < 65521 ∧ ∀ v H', BadV K H' v → Keep (tE g ps) H H' → Q v H'
theorem paired_mid : ∀ {α β : Type} {F : α → β → Prop} {xs : List α} {ys : List β} {n : Nat}, Paired F xs ys → n < xs.length → ∃ A x B A' y B', xs = A ++ x :: B ∧ ys = A' ++ y :: B' ∧ A.length = n ∧ Paired F A A' ∧ F x y ∧ Paired F B B'
  | _, _, _, _, _, _, .nil, h => by simp at h
  | _, _, _, _, _, 0, .cons a t, _ => ⟨[], _, _, [], _, _, rfl, rfl, rfl, .nil, a, t⟩
  | _, _, _, _, _, n + 1, .cons a t, h => by
    obtain ⟨A, x, B, A', y, B', e1, e2, e3, p1, p2, p3⟩ := paired_mid (n := n) t (by simpa using h)
    exact ⟨_ :: A, x, B, _ :: A', y, B', by rw [e1]; rfl, by rw [e2]; rfl, by rw [List.length_cons, e3], .cons a p1, p2, p3⟩
theorem ok_spT (F : DefAt K mg "_law_spoiled_text" s_law_spoiled_text ["_law_parts_here", "_law_kind", "_law_cell"]) (T : Txt mg) (D_law_text : Dn P w K mg base "_law_text" 1 ["_law_parts_here"] (spText K)) : Dn P w K mg base "_law_spoiled_text" 2 ["_law_parts_here", "_law_kind", "_law_cell"] (spSpT K) := by
  have sc := sc_law_spoiled_text
  refine F.ok sc (fun vs H Q E h => ?_) (fun f cdv A outer s H vs Q E hr h => ?_)
  · obtain ⟨_, _, _, _, _, rfl, _⟩ := h; rfl
  obtain ⟨g, kind, cell, ps, ds, rfl, hT, isp, gp, p2, p6, k0, k6, c0, c6, q⟩ := h
  have al := pr_len isp
  obtain ⟨L0, L1, Lx2, L3, hb, hL_139, hL_141, hL_143, hL_145⟩ := sp_body
  rw [hb]
  refine ⟨_, (pss_cons (ps_set (i := 3) sc.nd rfl (Or.inl rfl) (pe_ix (ixL (K := K) rfl) (pv 0) (pe_op op_mod (pv 2) (pe_callB (clLen (K := K) rfl) rfl T.b_len PySem.boot_len (pa_cons (pv 0) pa_nil))) (fun _ _ => rfl)))
      (pss_cut (ps_if (pt_cmpR op_eq (pv 1) pe_int (nomark _))
      (pss_one (ps_asg (pe_ix (ixL (K := K) rfl) (pe_lstQ (hL_139 _)) (pe_op op_mod (pe_op op_fdiv (pv 2) pe_int) pe_int) (fun _ _ => rfl)) (pg_sub (pv 3) pe_int set_list)))
      pss_nil)
      (pss_cut (ps_if (pt_cmpR op_eq (pv 1) pe_int (nomark _))
      (pss_one (ps_asg (pe_ix (ixL (K := K) rfl) (pe_lstQ (hL_141 _)) (pe_op op_mod (pe_op op_fdiv (pv 2) pe_int) pe_int) (fun _ _ => rfl)) (pg_sub (pv 3) pe_int set_list)))
      pss_nil)
      (pss_cut (ps_if (pt_cmpR op_eq (pv 1) pe_int (nomark _))
      (pss_one (ps_asg (pe_ix (ixL (K := K) rfl) (pe_lstQ (hL_143 _)) (pe_op op_mod (pe_op op_fdiv (pv 2) pe_int) pe_int) (fun _ _ => rfl)) (pg_sub (pe_ix (ixL (K := K) rfl) (pe_ix (ixL (K := K) rfl) (pv 3) pe_int (fun _ _ => rfl)) pe_int (fun _ _ => rfl)) pe_int set_list)))
      pss_nil)
      (pss_cut (ps_if (pt_cmpR op_eq (pv 1) pe_int (nomark _))
      (pss_cons (ps_set (i := 4) sc.nd rfl (Or.inl rfl) (pe_lstQ (hL_145 _)))
      (pss_one (ps_asg (pe_ix (ixL (K := K) rfl) (pv 4) (pe_op op_mod (pe_op op_fdiv (pv 2) pe_int) pe_int) (fun _ _ => rfl)) (pg_sub (pe_ix (ixL (K := K) rfl) (pe_ix (ixL (K := K) rfl) (pv 3) pe_int (fun _ _ => rfl)) pe_int (fun _ _ => rfl)) pe_int set_list))))
      pss_nil)
      (pss_cut (ps_if (pt_cmpR op_eq (pv 1) pe_int (nomark _))
      (pss_one (ps_asg (pe_lst (pa_cons (pe_op op_add_str (pe_ix (ixL (K := K) rfl) (pe_ix (ixL (K := K) rfl) (pe_ix (ixL (K := K) rfl) (pv 3) pe_int (fun _ _ => rfl)) pe_int (fun _ _ => rfl)) pe_int (fun _ _ => rfl)) (pe_ix (ixL (K := K) rfl) (pe_ix (ixL (K := K) rfl) (pe_ix (ixL (K := K) rfl) (pv 3) pe_int (fun _ _ => rfl)) pe_int (fun _ _ => rfl)) pe_int (fun _ _ => rfl))) pa_nil)) (pg_sub (pe_ix (ixL (K := K) rfl) (pv 3) pe_int (fun _ _ => rfl)) pe_int set_list)))
      pss_nil)
      (pss_cons (ps_set (i := 5) sc.nd rfl (Or.inl rfl) (pe_dn D_law_text hr (pa_cons (pv 0) pa_nil)))
      (pss_cons (ps_if (pt_cmpR op_eq (pv 1) pe_int (nomark _))
      (pss_one (ps_ret (pe_ix (ixL (K := K) rfl) (pe_lstQ (qa_cons (pe_op op_add_str (pv 5) pe_str) (qa_cons (pe_op op_add_str pe_str (pv 5)) (qa_cons (pe_op op_add_str (pv 5) pe_str) (qa_cons (pe_op op_add_str (pv 5) pe_str) (qa_cons (pe_op op_add_str (pv 5) pe_str) (qa_cons (pe_op op_add_str pe_str (pv 5)) qa_nil))))))) (pe_op op_mod (pe_op op_fdiv (pv 2) pe_int) pe_int) (fun _ _ => rfl))))
      pss_nil)
      (pss_cons (ps_ifRep (i := 1) (o := 5) rfl (Or.inl rfl) rfl (Or.inl rfl) (pcs_lits (Lits.cons (Lits.cons (Lits.cons (Lits.cons (Lits.cons Lits.nil)))))) (pe_op op_mod (pe_op op_fdiv (pv 2) pe_int) pe_int) (fun _ _ => rfl) (by decide))
      (pss_cons (ps_if (pt_cmpR op_eq (pv 1) pe_int (nomark _))
      (pss_one (ps_ret (pe_ix (ixL (K := K) rfl) (pe_lstQ (qa_cons pe_non (qa_cons pe_int (qa_cons pe_bl (qa_cons (pe_tup (pa_cons (pv 5) pa_nil)) (qa_cons (pe_lst (pa_cons (pv 5) pa_nil)) qa_nil)))))) (pe_op op_mod (pe_op op_fdiv (pv 2) pe_int) pe_int) (fun _ _ => rfl))))
      pss_nil)
      (pss_one (ps_ret (pv 5))))))))))))), ?_⟩
  have m0 := Int.emod_nonneg cell (show ((ps.map fun p => V.ref p.a).length : Int) ≠ 0 by rw [List.length_map]; omega)
  have m1 := Int.emod_lt_of_pos cell (show (0 : Int) < ((ps.map fun p => V.ref p.a).length : Int) by rw [List.length_map]; omega)
  obtain ⟨n, hn⟩ := Int.eq_ofNat_of_zero_le m0
  rw [hn, List.length_map] at m1
  obtain ⟨PA, p, PB, DA, r, DB, eps, eds, en, ispA, isp1, ispB⟩ := paired_mid (n := n) isp (by omega)
  have hpa : atI (ps.map fun p => V.ref p.a) ((n : Nat) : Int) = some (.ref p.a) := atI_nat (j := n) (by
    rw [List.getElem?_map, eps, ← en, List.getElem?_append_right (Nat.le_refl _), Nat.sub_self]; rfl)
  refine ⟨_, rfl, _, rfl, _, rfl, g, _, rfl, .inl (SqL.of hT.g), _, _, rfl, rfl, (by rw [List.length_map]; omega), g, _, _, .ref p.a, rfl, rfl, SqL.of hT.g, (by rw [hn]; exact hpa), ?_⟩
  have rm : r ∈ ds := by rw [eds]; exact List.mem_append_right _ List.mem_cons_self
  have rok := gp.ok r rm
  obtain ⟨i1, i2, i3⟩ := isp1
  obtain ⟨v, vs, evs⟩ := List.exists_cons_of_ne_nil (gp.ne r rm)
  rw [evs] at i3
  obtain ⟨w, ws, ews⟩ : ∃ w ws, p.ws = w :: ws := by
    cases e : p.ws with
    | nil => rw [e] at i3; cases i3
    | cons w ws => exact ⟨w, ws, rfl⟩
  rw [ews] at i3
  injection i3 with w2 i4
  have w2 : w.2 = [v.1, intS v.2] := w2
  have i4 : (ws.map fun w => w.2) = vs.map fun w => [w.1, intS w.2] := i4
  have vok := rok.ws v (by rw [evs]; exact List.mem_cons_self)
  have f5 : PFew p := isp_few ⟨i1, i2, by rw [evs, ews, List.map_cons, List.map_cons, w2, i4]⟩ rok
  have few : ∀ x ∈ ps, PFew x := isps_few isp gp.ok
  have pin : p ∈ PA ++ p :: PB := List.mem_append_right _ List.mem_cons_self
  have ad : ∀ x ∈ pE p, x.1 ∈ (tE g (PA ++ p :: PB)).map fun x => x.1 := fun x hx => List.mem_map.mpr ⟨x, List.mem_cons_of_mem _ (List.mem_flatten.mpr ⟨pE p, List.mem_map.mpr ⟨p, pin, rfl⟩, hx⟩), rfl⟩
  have ad1 : p.a ∈ (tE g (PA ++ p :: PB)).map fun x => x.1 := ad _ List.mem_cons_self
  have ad2 : p.wa ∈ (tE g (PA ++ p :: PB)).map fun x => x.1 := ad _ (List.mem_cons_of_mem _ List.mem_cons_self)
  have ad3 : w.1 ∈ (tE g (PA ++ p :: PB)).map fun x => x.1 := ad (wE w) (List.mem_cons_of_mem _ (List.mem_cons_of_mem _ (by rw [ews]; exact List.mem_cons_self)))
  have hT0 : HT H g (PA ++ p :: PB) := by rw [← eps]; exact hT
  have wnm : isName p.nm = true := by rw [i1]; exact rok.nm
  have ejn : ∀ x y : Str, ((x ++ y : Str)).length = x.length + y.length := app_len
  have i6 : 0 ≤ cell / 7 % 6 ∧ cell / 7 % 6 < 6 := ⟨Int.emod_nonneg _ (by decide), Int.emod_lt_of_pos _ (by decide)⟩
  have i8 : 0 ≤ cell / 7 % 8 ∧ cell / 7 % 8 < 8 := ⟨Int.emod_nonneg _ (by decide), Int.emod_lt_of_pos _ (by decide)⟩
  have i15 : 0 ≤ cell / 7 % 15 ∧ cell / 7 % 15 < 15 := ⟨Int.emod_nonneg _ (by decide), Int.emod_lt_of_pos _ (by decide)⟩
  have wdp : ∀ (nm sg : Str) (l : List Str), wds { p with nm := nm, sg := sg, ws := (w.1, l) :: ws } = (nm ++ sg) :: Txt.join ":" l :: ws.map fun w => Txt.join ":" w.2 := fun nm sg l => rfl
  refine ⟨SdP g PA PB p H kind cell 1, ?_, ?_⟩
  · refine ⟨_, rfl, rfl, _, rfl, ?_⟩
    rw [de]
    refine ite2 (fun cc => ?_) (fun cc => ?_)
    rotate_left
    · have c' : ¬ kind = 0 := fun z => cc (decide_eq_true z)
      exact ⟨p, _, rfl, hT0, Keep.refl, fun z => by omega, fun _ => rfl⟩
    have c' := of_decide_eq_true cc
    refine ⟨(by show 6 ≤ sizeLine; decide), fun wp hwp => ?_⟩
    have s1 := same_upd hwp (.lst (bad0.map V.str))
    have k1 : upd H wp (.lst (bad0.map V.str)) wp = some (.lst (bad0.map V.str)) := upd_same
    generalize upd H wp (.lst (bad0.map V.str)) = H1 at s1 k1 ⊢
    obtain ⟨x, hx, hm, _⟩ := pick (l := bad0) (n := cell / 7 % 6) i6.1 i6.2
    have hT1 := hT0.up s1
    refine ⟨_, rfl, _, _, rfl, rfl, ⟨by decide, by decide⟩, _, _, rfl, rfl, (show (0 : Int) < 6 by decide), wp, _, _, .str x, rfl, rfl, SqL.of k1, hx, ?_⟩
    refine ⟨_, rfl, p.a, _, 0, 0, rfl, rfl, (HT.part hT1 pin).1, rfl, ?_⟩
    refine ⟨{ p with nm := x }, _, rfl, HT.head hT1 x p.sg, (Keep.refl.same s1).put ad1 _, fun _ => ⟨fun q hq => .inl ?_, ⟨(bad0_ok x hm).2, f5.s, f5.l, f5.w⟩⟩, fun z => by omega⟩
    show runP q (wordL ((x ++ p.sg) :: _)) = _
    rw [i2]; exact bad_nm hm _ _ hq
  rintro σ' H1 ⟨p', y4, rfl, hT1, kp, A1, B1⟩
  refine ⟨SdP g PA PB p H kind cell 2, ?_, ?_⟩
  · refine ⟨_, rfl, rfl, _, rfl, ?_⟩
    rw [de]
    refine ite2 (fun cc => ?_) (fun cc => ?_)
    rotate_left
    · have c' : ¬ kind = 1 := fun z => cc (decide_eq_true z)
      exact ⟨_, _, rfl, hT1, kp, fun z => A1 (by omega), fun z => B1 (by omega)⟩
    have c' := of_decide_eq_true cc
    have e := B1 (by omega)
    subst e
    refine ⟨(by show 8 ≤ sizeLine; decide), fun wp hwp => ?_⟩
    have s1 := same_upd hwp (.lst (bad1.map V.str))
    have k1 : upd H1 wp (.lst (bad1.map V.str)) wp = some (.lst (bad1.map V.str)) := upd_same
    generalize upd H1 wp (.lst (bad1.map V.str)) = H2 at s1 k1 ⊢
    obtain ⟨x, hx, hm, _⟩ := pick (l := bad1) (n := cell / 7 % 8) i8.1 i8.2
    have hT2 := hT1.up s1
    refine ⟨_, rfl, _, _, rfl, rfl, ⟨by decide, by decide⟩, _, _, rfl, rfl, (show (0 : Int) < 8 by decide), wp, _, _, .str x, rfl, rfl, SqL.of k1, hx, ?_⟩
    refine ⟨_, rfl, p'.a, _, 1, 1, rfl, rfl, (HT.part hT2 pin).1, rfl, ?_⟩
    refine ⟨{ p' with sg := x }, _, rfl, HT.head hT2 p'.nm x, (kp.same s1).put ad1 _, fun _ => ⟨fun q hq => .inl ?_, ⟨f5.n, (bad1_ok x hm).2, f5.l, f5.w⟩⟩, fun z => by omega⟩
    show runP q (wordL ((p'.nm ++ x) :: p'.ws.map fun w => Txt.join ":" w.2)) = _
    rw [ews]; exact bad_sg wnm hm _ _ hq
  clear hT1 kp A1 B1
  rintro σ' H1 ⟨p', y4, rfl, hT1, kp, A1, B1⟩
  refine ⟨SdP g PA PB p H kind cell 3, ?_, ?_⟩
  · refine ⟨_, rfl, rfl, _, rfl, ?_⟩
    rw [de]
    refine ite2 (fun cc => ?_) (fun cc => ?_)
    rotate_left
    · have c' : ¬ kind = 2 := fun z => cc (decide_eq_true z)
      exact ⟨_, _, rfl, hT1, kp, fun z => A1 (by omega), fun z => B1 (by omega)⟩
    have c' := of_decide_eq_true cc
    have e := B1 (by omega)
    subst e
    refine ⟨(by show 8 ≤ sizeLine; decide), fun wp hwp => ?_⟩
    have s1 := same_upd hwp (.lst (bad2.map V.str))
    have k1 : upd H1 wp (.lst (bad2.map V.str)) wp = some (.lst (bad2.map V.str)) := upd_same
    generalize upd H1 wp (.lst (bad2.map V.str)) = H2 at s1 k1 ⊢
    obtain ⟨x, hx, hm, _⟩ := pick (l := bad2) (n := cell / 7 % 8) i8.1 i8.2
    have hT2 := hT1.up s1
    obtain ⟨d1, d2, d3⟩ := HT.part hT2 pin
    have d3' := d3 w (by rw [ews]; exact List.mem_cons_self)
    rw [w2] at d3'
    refine ⟨_, rfl, _, _, rfl, rfl, ⟨by decide, by decide⟩, _, _, rfl, rfl, (show (0 : Int) < 8 by decide), wp, _, _, .str x, rfl, rfl, SqL.of k1, hx, ?_⟩
    refine ⟨_, rfl, p'.a, _, _, .ref p'.wa, rfl, rfl, SqL.of d1, atI_nat (j := 2) rfl, p'.wa, _, _, .ref w.1, rfl, rfl, SqL.of d2, atI_nat (j := 0) (by rw [ews]; rfl), w.1, _, 0, 0, rfl, rfl, d3', rfl, ?_⟩
    refine ⟨{ p' with ws := (w.1, [x, intS v.2]) :: ws }, _, rfl, HT.way hT2 ews [x, intS v.2], (kp.same s1).put ad3 _, fun _ => ⟨fun q hq => .inl ?_, ⟨f5.n, f5.s, by have := f5.l; rw [ews] at this; exact this, fun u hu => ?_⟩⟩, fun z => by omega⟩
    · show runP q (wordL ((p'.nm ++ p'.sg) :: Txt.join ":" [x, intS v.2] :: ws.map fun w => Txt.join ":" w.2)) = _
      rw [join2, i2]; exact bad_wn wnm _ hm _ _ hq
    · rcases List.mem_cons.mp hu with rfl | hu
      · refine ⟨Nat.le_refl _, fun y hy => ?_⟩
        simp only [List.mem_cons, List.not_mem_nil, or_false] at hy
        rcases hy with rfl | rfl
        · exact (bad2_ok _ hm).2
        · have := (amt_is vok.2).2.2.1; omega
      · exact f5.w u (by rw [ews]; exact List.mem_cons_of_mem _ hu)
  clear hT1 kp A1 B1
  rintro σ' H1 ⟨p', y4, rfl, hT1, kp, A1, B1⟩
  refine ⟨SdP g PA PB p H kind cell 4, ?_, ?_⟩
  · refine ⟨_, rfl, rfl, _, rfl, ?_⟩
    rw [de]
    refine ite2 (fun cc => ?_) (fun cc => ?_)
    rotate_left
    · have c' : ¬ kind = 3 := fun z => cc (decide_eq_true z)
      exact ⟨_, _, rfl, hT1, kp, fun z => A1 (by omega), fun z => B1 (by omega)⟩
    have c' := of_decide_eq_true cc
    have e := B1 (by omega)
    subst e
    refine ⟨(by show 15 ≤ sizeLine; decide), fun wp hwp => ?_⟩
    have s1 := same_upd hwp (.lst (bad3.map V.str))
    have k1 : upd H1 wp (.lst (bad3.map V.str)) wp = some (.lst (bad3.map V.str)) := upd_same
    generalize upd H1 wp (.lst (bad3.map V.str)) = H2 at s1 k1 ⊢
    obtain ⟨x, hx, hm, _⟩ := pick (l := bad3) (n := cell / 7 % 15) i15.1 i15.2
    have hT2 := hT1.up s1
    obtain ⟨d1, d2, d3⟩ := HT.part hT2 pin
    have d3' := d3 w (by rw [ews]; exact List.mem_cons_self)
    rw [w2] at d3'
    refine ⟨_, rfl, _, rfl, _, _, rfl, rfl, ⟨by decide, by decide⟩, _, _, rfl, rfl, (show (0 : Int) < 15 by decide), wp, _, _, .str x, rfl, rfl, SqL.of k1, hx, ?_⟩
    refine ⟨_, rfl, p'.a, _, _, .ref p'.wa, rfl, rfl, SqL.of d1, atI_nat (j := 2) rfl, p'.wa, _, _, .ref w.1, rfl, rfl, SqL.of d2, atI_nat (j := 0) (by rw [ews]; rfl), w.1, _, 1, 1, rfl, rfl, d3', rfl, ?_⟩
    refine ⟨{ p' with ws := (w.1, [v.1, x]) :: ws }, _, rfl, HT.way hT2 ews [v.1, x], (kp.same s1).put ad3 _, fun _ => ⟨fun q hq => ?_, ⟨f5.n, f5.s, by have := f5.l; rw [ews] at this; exact this, fun u hu => ?_⟩⟩, fun z => by omega⟩
    · show stopP (runP q (wordL ((p'.nm ++ p'.sg) :: Txt.join ":" [v.1, x] :: ws.map fun w => Txt.join ":" w.2)))
      rw [join2, i2]; exact bad_am wnm _ vok.1 hm _ hq
    · rcases List.mem_cons.mp hu with rfl | hu
      · refine ⟨Nat.le_refl _, fun y hy => ?_⟩
        simp only [List.mem_cons, List.not_mem_nil, or_false] at hy
        rcases hy with rfl | rfl
        · have := (name_few vok.1).2.1; omega
        · exact (bad3_ok _ hm).2
      · exact f5.w u (by rw [ews]; exact List.mem_cons_of_mem _ hu)
  clear hT1 kp A1 B1
  rintro σ' H1 ⟨p', y4, rfl, hT1, kp, A1, B1⟩
  refine ⟨SdP g PA PB p H kind cell 5, ?_, ?_⟩
  · refine ⟨_, rfl, rfl, _, rfl, ?_⟩
    rw [de]
    refine ite2 (fun cc => ?_) (fun cc => ?_)
    rotate_left
    · have c' : ¬ kind = 4 := fun z => cc (decide_eq_true z)
      exact ⟨_, _, rfl, hT1, kp, fun z => A1 (by omega), fun z => B1 (by omega)⟩
    have c' := of_decide_eq_true cc
    have e := B1 (by omega)
    subst e
    obtain ⟨d1, d2, d3⟩ := HT.part hT1 pin
    have d3' := d3 w (by rw [ews]; exact List.mem_cons_self)
    rw [w2] at d3'
    have ln := (name_few vok.1).2.1
    have la := (amt_is vok.2).2.2.1
    refine ⟨_, rfl, p'.a, _, _, .ref p'.wa, rfl, rfl, SqL.of d1, atI_nat (j := 2) rfl, p'.wa, _, _, .ref w.1, rfl, rfl, SqL.of d2, atI_nat (j := 0) (by rw [ews]; rfl), w.1, _, _, .str v.1, rfl, rfl, SqL.of d3', atI_nat (j := 0) rfl, _, rfl, p'.a, _, _, .ref p'.wa, rfl, rfl, SqL.of d1, atI_nat (j := 2) rfl, p'.wa, _, _, .ref w.1, rfl, rfl, SqL.of d2, atI_nat (j := 0) (by rw [ews]; rfl), w.1, _, _, .str (intS v.2), rfl, rfl, SqL.of d3', atI_nat (j := 1) rfl, _, _, rfl, rfl, small (m := 1000) (by omega), (by show 1 ≤ sizeLine; decide), fun xp hxp => ?_⟩
    have sx := same_upd hxp (.lst [V.str (v.1 ++ intS v.2)])
    have d1x := sx _ _ d1
    have d2x := sx _ _ d2
    rw [ews] at d2x
    refine ⟨_, rfl, p'.a, _, _, .ref p'.wa, rfl, rfl, SqL.of d1x, atI_nat (j := 2) rfl, p'.wa, _, 0, 0, rfl, rfl, d2x, (by unfold ixN; rw [if_pos (by decide), if_pos (by rw [List.length_map, List.length_cons]; omega)]; rfl), ?_⟩
    refine ⟨{ p' with ws := (xp, [v.1 ++ intS v.2]) :: ws }, _, rfl, HT.wset hT1 ews hxp [v.1 ++ intS v.2], (kp.same sx).put ad2 _, fun _ => ⟨fun q hq => .inl ?_, ⟨f5.n, f5.s, by have := f5.l; rw [ews] at this; exact this, fun u hu => ?_⟩⟩, fun z => by omega⟩
    · show runP q (wordL ((p'.nm ++ p'.sg) :: Txt.join ":" [v.1 ++ intS v.2] :: ws.map fun w => Txt.join ":" w.2)) = _
      have e1 : Txt.join ":" [v.1 ++ intS v.2] = v.1 ++ intS v.2 := by
        have e2 : (Txt.join ":" [v.1 ++ intS v.2]).cps.toList = (v.1 ++ intS v.2).cps.toList := by rw [flat_join]; rfl
        exact (str_list e2).trans (str_list rfl).symm
      rw [e1, i2]; exact bad_jn wnm _ vok.1 vok.2 _ hq
    · rcases List.mem_cons.mp hu with rfl | hu
      · refine ⟨by show 1 ≤ 2; decide, fun y hy => ?_⟩
        rw [List.mem_singleton.mp hy, app_len]; omega
      · exact f5.w u (by rw [ews]; exact List.mem_cons_of_mem _ hu)
  clear hT1 kp A1 B1
  rintro σ' H3 ⟨p', y4, rfl, hT3, kp, A3, B3⟩
  have pf : PFew p' := by
    by_cases z : kind < 5
    · exact (A3 z).few
    · rw [B3 (by omega)]; exact f5
  have lps : (PA ++ p' :: PB).length = ps.length := by rw [eps, List.length_append, List.length_append, List.length_cons, List.length_cons]
  refine ⟨_, rfl, g, PA ++ p' :: PB, rfl, hT3, by omega, fun x hx => ?_, fun H4 s4 tl => ?_⟩
  · rcases List.mem_append.mp hx with hx | hx
    · exact few x (by rw [eps]; exact List.mem_append_left _ hx)
    rcases List.mem_cons.mp hx with rfl | hx
    · exact pf
    · exact few x (by rw [eps]; exact List.mem_append_right _ (List.mem_cons_of_mem _ hx))
  rw [← eps] at kp
  have kp4 := kp.same s4
  have pne : ds ≠ [] := fun e => by rw [e] at p2; simp at p2
  have e1 : (" " : Str).length = 1 := by decide +kernel
  have e2 : (";" : Str).length = 1 := by decide +kernel
  have e3 : ("; " : Str).length = 2 := by decide +kernel
  have e4 : ("\n" : Str).length = 1 := by decide +kernel
  have good : 5 ≤ kind → textW ((PA ++ p' :: PB).map wds) = textW (ds.map itW) := fun z => by rw [B3 z, ← eps, wdss_is isp]
  generalize hline : textW ((PA ++ p' :: PB).map wds) = line at tl good ⊢
  have i5 : 0 ≤ cell / 7 % 5 ∧ cell / 7 % 5 < 5 := ⟨Int.emod_nonneg _ (by decide), Int.emod_lt_of_pos _ (by decide)⟩
  refine ⟨_, rfl, rfl, _, rfl, ?_⟩
  rw [de]
  refine ite2 (fun cc => ?_) (fun cc => ?_)
  · have c' := of_decide_eq_true cc
    have gl := good (by omega)
    subst gl
    refine ⟨_, rfl, _, _, rfl, rfl, small (m := 100000) (by rw [e1]; omega), _, rfl, _, _, rfl, rfl, small (m := 100000) (by rw [e1]; omega), _, rfl, _, _, rfl, rfl, small (m := 100000) (by rw [e2]; omega), _, rfl, _, _, rfl, rfl, small (m := 100000) (by rw [e3]; omega), _, rfl, _, _, rfl, rfl, small (m := 100000) (by rw [e4]; omega), _, rfl, _, _, rfl, rfl, small (m := 100000) (by rw [e3]; omega), (by show 6 ≤ sizeLine; decide), fun lp hlp => ?_⟩
    obtain ⟨x, hx, hm, _⟩ := pick (l := [textW (ds.map itW) ++ " ", " " ++ textW (ds.map itW), textW (ds.map itW) ++ ";", textW (ds.map itW) ++ "; ", textW (ds.map itW) ++ "\n", "; " ++ textW (ds.map itW)]) (n := cell / 7 % 6) i6.1 i6.2
    refine ⟨_, rfl, _, _, rfl, rfl, ⟨by decide, by decide⟩, _, _, rfl, rfl, (show (0 : Int) < 6 by decide), lp, _, _, .str x, rfl, rfl, SqL.of upd_same, hx, q _ _ (.inr ⟨x, rfl, ?_⟩) (kp4.same (same_upd hlp _))⟩
    simp only [List.mem_cons, List.not_mem_nil, or_false] at hm
    rcases hm with rfl | rfl | rfl | rfl | rfl | rfl
    · exact ⟨by rw [app_len, e1]; omega, badT_suf pne gp.ok fun z hz => by show stopP (runP z [32]); rw [runp_cons, midP_32 hz]; exact .inr (.inl rfl)⟩
    · exact ⟨by rw [app_len, e1]; omega, badT_pre rfl⟩
    · exact ⟨by rw [app_len, e2]; omega, badT_suf pne gp.ok fun z hz => by show stopP (runP z [59]); rw [runp_cons, midP_59 hz]; exact .inr (.inr (.inl rfl))⟩
    · exact ⟨by rw [app_len, e3]; omega, badT_suf pne gp.ok fun z hz => by show stopP (runP z [59, 32]); rw [runp_cons, midP_59 hz]; exact .inr (.inr (.inr (.inl rfl)))⟩
    · exact ⟨by rw [app_len, e4]; omega, badT_suf pne gp.ok fun z hz => by show stopP (runP z [10]); rw [runp_cons, midP_10 hz]; exact .inl rfl⟩
    · exact ⟨by rw [app_len, e3]; omega, badT_pre rfl⟩
  have n5 : ¬ kind = 5 := fun z => cc (decide_eq_true z)
  refine ⟨kind, rfl, fun c' => ?_, fun c' => ?_⟩
  · have gl := good (by omega)
    subst gl
    obtain ⟨zz, _, hm, hz⟩ := pick (l := bad5) (n := cell / 7 % 5) i5.1 i5.2
    have z3 : (("; " : Str) == zz) = false ∧ zz.length ≤ 100 := by
      have h : bad5.all (fun x => !(("; " : Str) == x) && decide (x.length ≤ 100)) = true := by decide +kernel
      have := List.all_eq_true.mp h zz hm
      rw [Bool.and_eq_true] at this
      exact ⟨by simpa using this.1, of_decide_eq_true this.2⟩
    obtain ⟨a1, a2, rest, eps2⟩ : ∃ a1 a2 rest, ds = a1 :: a2 :: rest := by
      match ds, p2 with
      | a1 :: a2 :: rest, _ => exact ⟨a1, a2, rest, rfl⟩
    have hb := rep_bad (ps := rest) (gp.ok a1 (by rw [eps2]; exact List.mem_cons_self)) (gp.ok a2 (by rw [eps2]; exact List.mem_cons_of_mem _ List.mem_cons_self)) hm
    rw [← eps2] at hb
    refine ⟨_, rfl, _, rfl, _, _, rfl, rfl, ⟨by decide, by decide⟩, _, _, rfl, rfl, (show (0 : Int) < 5 by decide), (cell / 7 % 5).toNat, zz, ?_, hz, z3.1, by omega, z3.2, small (m := 100000) (by have := hb.2; omega), q _ _ (.inr ⟨_, rfl, by have := hb.2; omega, hb.1⟩) kp4⟩
    show V.int (cell / 7 % 5) = V.int _
    congr 1
    omega
  refine ⟨_, rfl, rfl, _, rfl, ?_⟩
  rw [de]
  refine ite2 (fun cc => ?_) (fun cc => ?_)
  · refine ⟨_, rfl, (by show 1 ≤ sizeLine; decide), fun tp htp => ?_⟩
    have s5 := same_upd htp (.tup [V.str line])
    have k5 : upd H4 tp (.tup [V.str line]) tp = some (.tup [V.str line]) := upd_same
    generalize upd H4 tp (.tup [V.str line]) = H5 at s5 k5 ⊢
    refine ⟨_, rfl, (by show 1 ≤ sizeLine; decide), fun lp hlp => ?_⟩
    have s6 := same_upd hlp (.lst [V.str line])
    have k6' : upd H5 lp (.lst [V.str line]) lp = some (.lst [V.str line]) := upd_same
    have k5' := s6 _ _ k5
    generalize upd H5 lp (.lst [V.str line]) = H6 at s6 k6' k5' ⊢
    refine ⟨(by show 5 ≤ sizeLine; decide), fun op hop => ?_⟩
    have s7 := same_upd hop (.lst [V.non, .int 0, .bl false, .ref tp, .ref lp])
    have k7 : upd H6 op (.lst [V.non, .int 0, .bl false, .ref tp, .ref lp]) op = some (.lst [V.non, .int 0, .bl false, .ref tp, .ref lp]) := upd_same
    replace k5' := s7 _ _ k5'
    replace k6' := s7 _ _ k6'
    generalize upd H6 op (.lst [V.non, .int 0, .bl false, .ref tp, .ref lp]) = H7 at s7 k7 k5' k6' ⊢
    obtain ⟨u, hu, bu⟩ : ∃ u, atI [V.non, .int 0, .bl false, .ref tp, .ref lp] (cell / 7 % 5) = some u ∧ BadV K H7 u := by
      generalize cell / 7 % 5 = j at i5
      obtain rfl | rfl | rfl | rfl | rfl : j = 0 ∨ j = 1 ∨ j = 2 ∨ j = 3 ∨ j = 4 := by omega
      · exact ⟨_, atI_nat (j := 0) rfl, .inl ⟨"NoneType", rfl, rfl⟩⟩
      · exact ⟨_, atI_nat (j := 1) rfl, .inl ⟨"int", rfl, rfl⟩⟩
      · exact ⟨_, atI_nat (j := 2) rfl, .inl ⟨"bool", rfl, rfl⟩⟩
      · exact ⟨_, atI_nat (j := 3) rfl, .inl ⟨"tuple", .inr (.inl ⟨rfl, _, k5'⟩), rfl⟩⟩
      · exact ⟨_, atI_nat (j := 4) rfl, .inl ⟨"list", .inl ⟨rfl, .inl ⟨_, k6'⟩⟩, rfl⟩⟩
    exact ⟨_, rfl, _, _, rfl, rfl, ⟨by decide, by decide⟩, _, _, rfl, rfl, (show (0 : Int) < 5 by decide), op, _, _, u, rfl, rfl, SqL.of k7, hu, q _ _ bu (kp4.same (s5.trans (s6.trans s7)))⟩
  have n7 : ¬ kind = 7 := fun z => cc (decide_eq_true z)
  refine ⟨_, rfl, q _ _ (.inr ⟨line, rfl, by omega, ?_⟩) kp4⟩
  rw [← hline, List.map_append, List.map_cons]
  refine badT_part (fun z hz => ?_) (A3 (by omega)).no
  obtain ⟨y, hy, rfl⟩ := List.mem_map.mp hz
  obtain ⟨j, hj⟩ := List.getElem?_of_mem hy
  obtain ⟨d, hd, id⟩ := L2.Paired.at ispA hj
  rw [wds_is id]
  exact pok_l (gp.ok d (by rw [eds]; exact List.mem_append_left _ (List.mem_of_getElem? hd)))
theorem set_self {α : Type} {l : List α} {n : Nat} {x : α} (h : l[n]? = some x) : l.set n x = l := by
  refine List.ext_getElem? fun i => ?_
  by_cases e : i = n
  · subst e
    rw [List.getElem?_set_self (List.getElem?_eq_some_iff.mp h).1, h]
  · rw [List.getElem?_set_ne (Ne.symm e)]
def PDue (ds : List PPTy) (x : Str) : Prop := (x = "NoName" ∧ (¬ (pnms ds).Nodup ∨ ∃ p ∈ ds, ∃ w ∈ p.2.2, w.1 ∉ pnms ds)) ∨ ((pnms ds).Nodup ∧ (∀ p ∈ ds, ∀ w ∈ p.2.2, w.1 ∈ pnms ds) ∧ ((x = "TooMany" ∧ 16 < ds.length) ∨ (x = "NoWay" ∧ ds.length ≤ 16 ∧ ∃ r ∈ prows ds, ¬ PwGood r.2)))
theorem mid_set {α : Type} {A B : List α} {x : α} (y : α) : (A ++ x :: B).set A.length y = A ++ y :: B := by
  rw [List.set_append_right _ _ (Nat.le_refl _), Nat.sub_self]; rfl
theorem mid_at {α : Type} {A B : List α} {x : α} : (A ++ x :: B)[A.length]? = some x := by
  rw [List.getElem?_append_right (Nat.le_refl _), Nat.sub_self]; rfl
theorem pnms_mid (A B : List PPTy) (d : PPTy) : pnms (A ++ d :: B) = pnms A ++ d.1 :: pnms B := by unfold pnms; rw [List.map_append]; rfl
theorem twice {l : List Str} {i j : Nat} {x : Str} (hij : i ≠ j) (hi : l[i]? = some x) (hj : l[j]? = some x) : ¬ l.Nodup := fun nd => hij ((List.getElem?_inj (List.getElem?_eq_some_iff.mp hi).1 nd).mp (hi.trans hj.symm))
abbrev x4 : List Str := ["NoText", "NoName", "NoWay", "TooMany"]
def spSpR (K : PySem.W.Frag) : Sp := fun vs H Q _ => ∃ (g : Addr) (kind cell : Int) (ps : List PD) (ds : List PPTy), vs = [.ref g, .int kind, .int cell] ∧ HT H g ps ∧ Paired IsP ps ds ∧ GP ds ∧ 2 ≤ ds.length ∧ ds.length ≤ 6 ∧ 8 ≤ kind ∧ kind < 14 ∧ 0 ≤ cell ∧ cell < 65521 ∧ ∀ (ps' : List PD) (ds' : List PPTy) (x : Str) H', HT H' g ps' → Paired IsP ps' ds' → ds'.length = ds.length → (∀ p ∈ ds', POk p) → PDue ds' x → x ∈ x4 → Keep (tE g ps) H H' → Q (.str x) H'
theorem bad_row {A B : List PPTy} {d d' : PPTy} (gp : GP (A ++ d :: B)) (h6 : (A ++ d :: B).length ≤ 6) (e1 : d'.1 = d.1) (hin : ∀ w ∈ d'.2.2, w.1 ∈ pnms (A ++ d :: B)) (hb : d'.2.2 = [] ∨ ¬ (d'.2.2.map fun w => w.1).Nodup) : PDue (A ++ d' :: B) "NoWay" := by
  have en : pnms (A ++ d' :: B) = pnms (A ++ d :: B) := by rw [pnms_mid, pnms_mid, e1]
  have el : (A ++ d' :: B).length = (A ++ d :: B).length := by simp
  refine .inr ⟨by rw [en]; exact gp.nd, fun p hp w hw => ?_, .inr ⟨rfl, by omega, prow (pnms (A ++ d' :: B)) d', List.mem_map.mpr ⟨d', List.mem_append_right _ List.mem_cons_self, rfl⟩, fun z => ?_⟩⟩
  · rw [en]
    rcases List.mem_append.mp hp with hp | hp
    · exact gp.inn p (List.mem_append_left _ hp) w hw
    rcases List.mem_cons.mp hp with rfl | hp
    · exact hin w hw
    · exact gp.inn p (List.mem_append_right _ (List.mem_cons_of_mem _ hp)) w hw
  · rcases hb with hb | hb
    · refine z.1 ?_
      show d'.2.2.map _ = []
      rw [hb]; rfl
    · refine hb ?_
      have z2 := z.2
      have e2 : ((prow (pnms (A ++ d' :: B)) d').2.map fun w => w.1) = (d'.2.2.map fun w => w.1).map fun x => (((pnms (A ++ d' :: B)).idxOf x : Nat) : Int) := by
        show (d'.2.2.map _).map _ = _
        rw [List.map_map, List.map_map]; rfl
      rw [e2] at z2
      exact List.Pairwise.imp (fun h e => h (by rw [e])) (List.pairwise_map.mp z2)
theorem nodup_subG {α : Type} [BEq α] [LawfulBEq α] : ∀ (l1 l2 : List α), l1.Nodup → (∀ x ∈ l1, x ∈ l2) → l1.length ≤ l2.length
  | [], _, _, _ => Nat.zero_le _
  | x :: l1, l2, hn, hs => by
    have hx : x ∈ l2 := hs x List.mem_cons_self
    have hxn := (List.nodup_cons.mp hn).1
    have := nodup_subG l1 (l2.erase x) (List.nodup_cons.mp hn).2 fun y hy => (List.mem_erase_of_ne (fun e => by subst e; exact hxn hy)).mpr (hs y (List.mem_cons_of_mem _ hy))
    rw [List.length_erase_of_mem hx] at this
    have hp : 0 < l2.length := List.length_pos_of_mem hx
    rw [List.length_cons]; omega
theorem letters_more {ns : List Str} (h : ns.length ≤ 17) (ha : ∀ (i : Nat) (c : Nat), abc.cps[i]? = some c → (⟨#[c]⟩ : Str) ∈ ns) : False := by
  have nd : abc.cps.toList.Nodup := by decide +kernel
  have sub : ∀ c ∈ abc.cps.toList, c ∈ ns.map fun x => x.cps.toList.headD 0 := fun c hc => by
    obtain ⟨i, hi⟩ := List.getElem?_of_mem hc
    exact List.mem_map.mpr ⟨_, ha i c (by rw [← Array.getElem?_toList]; exact hi), rfl⟩
  have := nodup_subG _ _ nd sub
  rw [List.length_map] at this
  have l : abc.cps.toList.length = 26 := by decide +kernel
  omega
theorem clr {H : Hp} {g : Addr} {ps : List PD} {ds : List PPTy} {m : Nat} (h : HT H g ps) (isp : Paired IsP ps ds) (hm : m < ps.length) : ∃ p d, ps[m]? = some p ∧ ds[m]? = some d ∧ H p.a = some (.lst [.str p.nm, .str p.sg, .ref p.wa]) ∧ H p.wa = some (.lst (p.ws.map fun w => .ref w.1)) ∧ p.wa ∈ ((tE g ps).map fun x => x.1) ∧ IsP p d ∧ ∃ ps2, HT (upd H p.wa (.lst [])) g ps2 ∧ Paired IsP ps2 (ds.set m (d.1, d.2.1, [])) := by
  obtain ⟨A, p, B, A', d, B', e1, e2, e3, p1, i1, p3⟩ := paired_mid (n := m) isp hm
  subst e1; subst e2; subst e3
  have pin : p ∈ A ++ p :: B := List.mem_append_right _ List.mem_cons_self
  obtain ⟨d1, d2, _⟩ := HT.part h pin
  refine ⟨p, d, mid_at, by rw [pr_len p1]; exact mid_at, d1, d2, List.mem_map.mpr ⟨(p.wa, _), List.mem_cons_of_mem _ (List.mem_flatten.mpr ⟨pE p, List.mem_map.mpr ⟨p, pin, rfl⟩, List.mem_cons_of_mem _ List.mem_cons_self⟩), rfl⟩, i1, A ++ { p with ws := [] } :: B, HT.wclear h, ?_⟩
  rw [pr_len p1, mid_set]
  exact L2.Paired.app p1 (.cons ⟨i1.1, i1.2.1, rfl⟩ p3)
theorem te_head {g : Addr} {A B : List PD} {p : PD} {nm sg : Str} : ((tE g (A ++ { p with nm := nm, sg := sg } :: B)).map fun x => x.1) = (tE g (A ++ p :: B)).map fun x => x.1 := by rw [tE_at, tE_at]; simp [pE]
theorem te_way {g : Addr} {A B : List PD} {p : PD} {w : Addr × List Str} {ws : List (Addr × List Str)} (hw : p.ws = w :: ws) {l : List Str} : ((tE g (A ++ { p with ws := (w.1, l) :: ws } :: B)).map fun x => x.1) = (tE g (A ++ p :: B)).map fun x => x.1 := by rw [tE_at, tE_at]; simp [pE, wE, hw]
theorem pok_clr {d : PPTy} (h : POk d) : POk (d.1, d.2.1, []) := ⟨h.nm, h.h, (fun _ z => by cases z), Nat.zero_le _⟩
theorem ok_spR (F : DefAt K mg "_law_spoiled_rows" s_law_spoiled_rows ["_law_parts_here", "_law_kind", "_law_cell"]) (T : Txt mg) : Dn P w K mg base "_law_spoiled_rows" 1 ["_law_parts_here", "_law_kind", "_law_cell"] (spSpR K) := by
  have sc := sc_law_spoiled_rows
  refine F.ok sc (fun vs H Q E h => ?_) (fun f cdv A outer s H vs Q E hr h => ?_)
  · obtain ⟨_, _, _, _, _, rfl, _⟩ := h; rfl
  obtain ⟨g, kind, cell, ps, ds, rfl, hT, isp, gp, p2, p6, k0, k1, c0, c6, q⟩ := h
  have al := pr_len isp
  refine ⟨_, (pss_cons (ps_set (i := 3) sc.nd rfl (Or.inl rfl) (pe_op op_mod (pv 2) (pe_callB (clLen (K := K) rfl) rfl T.b_len PySem.boot_len (pa_cons (pv 0) pa_nil))))
      (pss_cons (ps_set (i := 4) sc.nd rfl (Or.inl rfl) (pe_op op_mod (pe_op op_add (pe_op op_add (pv 3) pe_int) (pe_op op_mod (pe_op op_fdiv (pv 2) pe_int) (pe_op op_sub (pe_callB (clLen (K := K) rfl) rfl T.b_len PySem.boot_len (pa_cons (pv 0) pa_nil)) pe_int))) (pe_callB (clLen (K := K) rfl) rfl T.b_len PySem.boot_len (pa_cons (pv 0) pa_nil))))
      (pss_cons (ps_if (PW.pt (pw_or (pt_cmpR op_eq (pv 1) pe_int (nomark _)) (pw_or1 (pt_cmpR op_eq (pv 1) pe_int (nomark _)))))
      (pss_cons (ps_asg (pe_ix (ixL (K := K) rfl) (pe_ix (ixL (K := K) rfl) (pv 0) (pv 4) (fun _ _ => rfl)) pe_int (fun _ _ => rfl)) (pg_sub (pe_ix (ixL (K := K) rfl) (pv 0) (pv 3) (fun _ _ => rfl)) pe_int set_list))
      (pss_cut (ps_if (pt_cmpR op_eq (pv 1) pe_int (nomark _))
      (pss_one (ps_expr (pe_bm0 PySem.F.plainAttrs_list PySem.F.slot_list_clear PySem.F.type_list_clear mt_clear (pe_ix (ixL (K := K) rfl) (pe_ix (ixL (K := K) rfl) (pv 0) (pv 4) (fun _ _ => rfl)) pe_int (fun _ _ => rfl)))))
      pss_nil)
      (pss_one (ps_ret pe_str))))
      pss_nil)
      (pss_cons (ps_if (PW.pt (pw_or (pt_cmpR op_eq (pv 1) pe_int (nomark _)) (pw_or1 (pt_cmpR op_eq (pv 1) pe_int (nomark _)))))
      (pss_cons (ps_set (i := 5) sc.nd rfl (Or.inr rfl) (pe_lc (defScope s_law_spoiled_rows) ["_law_parts_here", "_law_kind", "_law_cell", "_law_at", "_law_other", "_law_used", "_law_names", "_law_ways"] ["_law_part"] 1 [] (pi_list (pv 0)) (fun _ _ _ _ _ _ => (ptg_name (show List.Nodup (["_law_part"] : List Str) by decide +kernel) rfl rfl)) (fun _ _ _ _ _ _ => pts_nil) (fun _ _ _ _ _ _ => (pe_ix (ixL (K := K) rfl) (pv 0) pe_int (fun _ _ => rfl)))))
      (pss_cons (ps_lc (i := 6) (defScope s_law_spoiled_rows) ["_law_parts_here", "_law_kind", "_law_cell", "_law_at", "_law_other", "_law_used", "_law_names", "_law_ways"] ["_law_sign", "_law_used"] 1 [5] sc.nd rfl rfl (pi_str pe_str) (fun _ _ _ _ _ _ => (ptg_name (show List.Nodup (["_law_sign", "_law_used"] : List Str) by decide +kernel) rfl rfl)) (fun _ _ _ _ _ _ => (pts_one (pt_cmpR (notInS (K := K) rfl) (pv 0) (pv 1) rfl))) (fun _ _ _ _ _ _ => (pv 0)))
      (pss_cons (ps_asg (pe_ix (ixL (K := K) rfl) (pv 6) (pe_op op_mod (pe_op op_fdiv (pv 2) pe_int) (pe_callB (clLen (K := K) rfl) rfl T.b_len PySem.boot_len (pa_cons (pv 6) pa_nil))) (fun _ _ => rfl)) (pg_sub (pe_ix (ixL (K := K) rfl) (pe_ix (ixL (K := K) rfl) (pe_ix (ixL (K := K) rfl) (pv 0) (pv 3) (fun _ _ => rfl)) pe_int (fun _ _ => rfl)) pe_int (fun _ _ => rfl)) pe_int set_list))
      (pss_cut (ps_if (pt_cmpR op_eq (pv 1) pe_int (nomark _))
      (pss_one (ps_expr (pe_bm0 PySem.F.plainAttrs_list PySem.F.slot_list_clear PySem.F.type_list_clear mt_clear (pe_ix (ixL (K := K) rfl) (pe_ix (ixL (K := K) rfl) (pv 0) (pv 4) (fun _ _ => rfl)) pe_int (fun _ _ => rfl)))))
      pss_nil)
      (pss_one (ps_ret pe_str))))))
      pss_nil)
      (pss_cons (ps_if (pt_cmpR op_eq (pv 1) pe_int (nomark _))
      (pss_cons (ps_expr (pe_bm0 PySem.F.plainAttrs_list PySem.F.slot_list_clear PySem.F.type_list_clear mt_clear (pe_ix (ixL (K := K) rfl) (pe_ix (ixL (K := K) rfl) (pv 0) (pv 3) (fun _ _ => rfl)) pe_int (fun _ _ => rfl))))
      (pss_one (ps_ret pe_str)))
      pss_nil)
      (pss_cons (ps_set (i := 7) sc.nd rfl (Or.inl rfl) (pe_ix (ixL (K := K) rfl) (pe_ix (ixL (K := K) rfl) (pv 0) (pv 3) (fun _ _ => rfl)) pe_int (fun _ _ => rfl)))
      (pss_cons (ps_expr (pe_bm PySem.F.plainAttrs_list PySem.F.slot_list_append PySem.F.type_list_append mt_append (pv 7) (pa_cons (pe_lst (pa_cons (pe_ix (ixL (K := K) rfl) (pe_ix (ixL (K := K) rfl) (pv 7) pe_int (fun _ _ => rfl)) pe_int (fun _ _ => rfl)) (pa_cons (pe_ix (ixL (K := K) rfl) (pe_lst (pa_cons (pe_ix (ixL (K := K) rfl) (pe_ix (ixL (K := K) rfl) (pv 7) pe_int (fun _ _ => rfl)) pe_int (fun _ _ => rfl)) (pa_cons pe_str (pa_cons (pe_op op_add_str pe_str (pe_op op_mul_str pe_str pe_int)) pa_nil)))) (pe_op op_mod (pe_op op_fdiv (pv 2) pe_int) pe_int) (fun _ _ => rfl)) pa_nil))) pa_nil)))
      (pss_one (ps_ret pe_str))))))))), ?_⟩
  have ll : (ps.map fun p => V.ref p.a).length = ps.length := List.length_map _
  have m0 := Int.emod_nonneg cell (show ((ps.map fun p => V.ref p.a).length : Int) ≠ 0 by omega)
  have m1 := Int.emod_lt_of_pos cell (show (0 : Int) < ((ps.map fun p => V.ref p.a).length : Int) by omega)
  obtain ⟨n, hn⟩ := Int.eq_ofNat_of_zero_le m0
  rw [hn] at m1
  have o0 := Int.emod_nonneg (cell / 7) (show ((ps.map fun p => V.ref p.a).length : Int) - 1 ≠ 0 by omega)
  have o1 := Int.emod_lt_of_pos (cell / 7) (show (0 : Int) < ((ps.map fun p => V.ref p.a).length : Int) - 1 by omega)
  obtain ⟨d, hd⟩ := Int.eq_ofNat_of_zero_le o0
  rw [hd] at o1
  have q0 := Int.emod_nonneg ((n : Int) + 1 + d) (show ((ps.map fun p => V.ref p.a).length : Int) ≠ 0 by omega)
  have q1 := Int.emod_lt_of_pos ((n : Int) + 1 + d) (show (0 : Int) < ((ps.map fun p => V.ref p.a).length : Int) by omega)
  obtain ⟨m, hm⟩ := Int.eq_ofNat_of_zero_le q0
  rw [hm] at q1
  have nm_ne : n ≠ m := fun e => by
    subst e
    rw [ll] at hm m1 o1
    by_cases h : (n : Int) + 1 + d < (ps.length : Nat)
    · rw [Int.emod_eq_of_lt (by omega) h] at hm; omega
    · have : ((n : Int) + 1 + d) % (ps.length : Nat) = (n : Int) + 1 + d - (ps.length : Nat) := by
        rw [← Int.sub_emod_right, Int.emod_eq_of_lt (by omega) (by omega)]
      omega
  rw [ll] at m1 q1
  obtain ⟨PA, p, PB, DA, r, DB, eps, eds, en, ispA, isp1, ispB⟩ := paired_mid (n := n) isp (by omega)
  have eDA : DA.length = n := by rw [← pr_len ispA, en]
  have pin : p ∈ ps := by rw [eps]; exact List.mem_append_right _ List.mem_cons_self
  have rm : r ∈ ds := by rw [eds]; exact List.mem_append_right _ List.mem_cons_self
  have hdsn : ds[n]? = some r := by rw [eds, ← eDA]; exact mid_at
  have hpsn : ps[n]? = some p := by rw [eps, ← en]; exact mid_at
  have rok := gp.ok r rm
  obtain ⟨i1, i2, i3⟩ := isp1
  obtain ⟨v, vs, evs⟩ := List.exists_cons_of_ne_nil (gp.ne r rm)
  rw [evs] at i3
  obtain ⟨w, ws, ews⟩ : ∃ w ws, p.ws = w :: ws := by
    cases e : p.ws with
    | nil => rw [e] at i3; cases i3
    | cons w ws => exact ⟨w, ws, rfl⟩
  rw [ews] at i3
  injection i3 with w2 i4
  have w2 : w.2 = [v.1, intS v.2] := w2
  have i4 : (ws.map fun w => w.2) = vs.map fun w => [w.1, intS w.2] := i4
  have vok := rok.ws v (by rw [evs]; exact List.mem_cons_self)
  have hT0 : HT H g (PA ++ p :: PB) := by rw [← eps]; exact hT
  obtain ⟨d1, d2, d3⟩ := HT.part hT pin
  have d3' := d3 w (by rw [ews]; exact List.mem_cons_self)
  rw [w2] at d3'
  have ad : ∀ x ∈ pE p, x.1 ∈ (tE g ps).map fun x => x.1 := fun x hx => List.mem_map.mpr ⟨x, List.mem_cons_of_mem _ (List.mem_flatten.mpr ⟨pE p, List.mem_map.mpr ⟨p, pin, rfl⟩, hx⟩), rfl⟩
  have ad1 := ad _ List.mem_cons_self
  have ad2 := ad _ (List.mem_cons_of_mem _ List.mem_cons_self)
  have ad3 : w.1 ∈ (tE g ps).map fun x => x.1 := ad (wE w) (List.mem_cons_of_mem _ (List.mem_cons_of_mem _ (by rw [ews]; exact List.mem_cons_self)))
  have hata : atI (ps.map fun p => V.ref p.a) ((n : Nat) : Int) = some (.ref p.a) := atI_nat (j := n) (by rw [List.getElem?_map, hpsn]; rfl)
  obtain ⟨pm, hpm⟩ : ∃ pm, ps[m]? = some pm := ⟨_, List.getElem?_eq_getElem (by omega)⟩
  obtain ⟨dm, hdm, ispm⟩ := L2.Paired.at isp hpm
  have hatm : atI (ps.map fun p => V.ref p.a) ((m : Nat) : Int) = some (.ref pm.a) := atI_nat (j := m) (by rw [List.getElem?_map, hpm]; rfl)
  have hnA : (pnms ds)[n]? = some r.1 := by unfold pnms; rw [List.getElem?_map, hdsn]; rfl
  have hnB : (pnms ds)[m]? = some dm.1 := by unfold pnms; rw [List.getElem?_map, hdm]; rfl
  refine ⟨_, rfl, _, rfl, g, _, rfl, .inl (SqL.of hT.g), _, _, rfl, rfl, (by omega), ?_⟩
  have hmod : (fun i j : Int => V.int (i % j)) cell ((ps.map fun p => V.ref p.a).length : Int) = V.int (n : Nat) := by show V.int (cell % _) = _; rw [hn]
  rw [hmod]
  clear hmod
  refine ⟨_, rfl, _, _, rfl, rfl, _, rfl, _, _, rfl, rfl, ⟨by decide, by decide⟩, _, rfl, g, _, rfl, .inl (SqL.of hT.g), _, _, rfl, rfl, _, _, rfl, rfl, (by omega), _, _, rfl, rfl, _, rfl, g, _, rfl, .inl (SqL.of hT.g), _, _, rfl, rfl, (by omega), ?_⟩
  have hmod : (fun i j : Int => V.int (i % j)) ((n : Nat) + 1 + cell / 7 % (((ps.map fun p => V.ref p.a).length : Int) - 1)) ((ps.map fun p => V.ref p.a).length : Int) = V.int (m : Nat) := by show V.int ((_ + 1 + _) % _) = _; rw [hd, hm]
  rw [hmod]
  clear hmod
  by_cases kA : kind = 8 ∨ kind = 12
  · by_cases k8 : kind = 8
    · refine ⟨_, rfl, rfl, _, rfl, ?_⟩
      rw [de, decide_eq_true k8]
      refine iteT ?_
      have pmin := List.mem_of_getElem? hpm
      refine ⟨_, rfl, _, rfl, g, _, _, .ref pm.a, rfl, rfl, SqL.of hT.g, hatm, pm.a, _, _, .str pm.nm, rfl, rfl, SqL.of (HT.part hT pmin).1, atI_nat (j := 0) rfl, _, rfl, _, rfl, g, _, _, .ref p.a, rfl, rfl, SqL.of hT.g, hata, p.a, _, 0, 0, rfl, rfl, d1, rfl, ?_⟩
      have hT1 := HT.head hT0 pm.nm p.sg
      have kp1 := (Keep.refl (M := tE g ps) (H := H)).put ad1 (.lst [.str pm.nm, .str p.sg, .ref p.wa])
      have te : ((tE g (PA ++ { p with nm := pm.nm, sg := p.sg } :: PB)).map fun x => x.1) = (tE g ps).map fun x => x.1 := by rw [te_head, ← eps]
      have isp' : Paired IsP (PA ++ { p with nm := pm.nm, sg := p.sg } :: PB) (DA ++ (dm.1, r.2) :: DB) := L2.Paired.app ispA (.cons ⟨ispm.1, i2, by rw [ews, evs, List.map_cons, List.map_cons, w2, i4]⟩ ispB)
      have l1 : (PA ++ { p with nm := pm.nm, sg := p.sg } :: PB).length = ps.length := by rw [eps]; simp
      have l2 : (DA ++ (dm.1, r.2) :: DB).length = ds.length := by rw [eds]; simp
      have ok' : ∀ x ∈ DA ++ (dm.1, r.2) :: DB, POk x := fun x hx => by
        rcases List.mem_append.mp hx with hx | hx
        · exact gp.ok x (by rw [eds]; exact List.mem_append_left _ hx)
        rcases List.mem_cons.mp hx with rfl | hx
        · exact ⟨(gp.ok dm (List.mem_of_getElem? hdm)).nm, rok.h, rok.ws, rok.l⟩
        · exact gp.ok x (by rw [eds]; exact List.mem_append_right _ (List.mem_cons_of_mem _ hx))
      have hn' : (DA ++ (dm.1, r.2) :: DB)[n]? = some (dm.1, r.2) := by rw [← eDA]; exact mid_at
      have ens : pnms (DA ++ (dm.1, r.2) :: DB) = (pnms ds).set n dm.1 := by
        rw [eds, ← eDA, pnms_mid, pnms_mid, show DA.length = (pnms DA).length from (List.length_map _).symm, mid_set]
      generalize hH1 : upd H p.a (.lst [.str pm.nm, .str p.sg, .ref p.wa]) = H1 at hT1 kp1
      rw [show upd H p.a (.lst ([V.str p.nm, V.str p.sg, V.ref p.wa].set 0 (V.str pm.nm))) = H1 from hH1]
      refine ⟨fun σ' H2 => ∃ (ps2 : List PD) (ds2 : List PPTy), σ' = [some (.ref g), some (.int kind), some (.int cell), some (.int (n : Nat)), some (.int (m : Nat)), none, none, none] ∧ HT H2 g ps2 ∧ Paired IsP ps2 ds2 ∧ ds2.length = ds.length ∧ (∀ p ∈ ds2, POk p) ∧ pnms ds2 = pnms (DA ++ (dm.1, r.2) :: DB) ∧ Keep (tE g ps) H H2 ∧ ds2[n]? = some (dm.1, r.2), ?_, ?_⟩
      · refine ⟨_, rfl, rfl, _, rfl, ?_⟩
        rw [de]
        refine ite2 (fun _ => ?_) (fun _ => ?_)
        · obtain ⟨p3, d4, c1, c2, c3, c4, c5, c6', ps2, hT2, isp2⟩ := clr hT1 isp' (m := m) (by rw [l1]; omega)
          refine ⟨_, rfl, _, rfl, g, _, _, .ref p3.a, rfl, rfl, SqL.of hT1.g, atI_nat (j := m) (by rw [List.getElem?_map, c1]; rfl), p3.a, _, _, .ref p3.wa, rfl, rfl, SqL.of c3, atI_nat (j := 2) rfl, .inl ⟨rfl, _, SqL.of c4⟩, p3.wa, _, rfl, rfl, c4, ?_⟩
          refine ⟨ps2, _, rfl, hT2, isp2, by rw [List.length_set]; exact l2, fun x hx => ?_, ?_, kp1.put (by rw [← te]; exact c5) _, ?_⟩
          · rcases List.mem_or_eq_of_mem_set hx with hx | rfl
            · exact ok' x hx
            · exact pok_clr (ok' d4 (List.mem_of_getElem? c2))
          · unfold pnms
            rw [List.map_set]
            exact set_self (by rw [List.getElem?_map, c2]; rfl)
          · rw [List.getElem?_set_ne (Ne.symm nm_ne)]; exact hn'
        · exact ⟨_, _, rfl, hT1, isp', l2, ok', rfl, kp1, hn'⟩
      rintro σ' H2 ⟨ps2, ds2, rfl, hT2, isp2, ll2, ok2, en2, kp2, _⟩
      refine q ps2 ds2 "NoName" H2 hT2 isp2 ll2 ok2 (.inl ⟨rfl, .inl ?_⟩) (by decide) kp2
      rw [en2, ens]
      exact twice nm_ne (List.getElem?_set_self (List.getElem?_eq_some_iff.mp hnA).1) (by rw [List.getElem?_set_ne nm_ne]; exact hnB)
    · refine ⟨_, rfl, rfl, _, rfl, ?_⟩
      rw [de, decide_eq_false k8]
      refine iteF ?_
      refine ⟨_, rfl, rfl, _, rfl, ?_⟩
      rw [de, decide_eq_true (show kind = 12 by omega)]
      refine iteT ?_
      have pmin := List.mem_of_getElem? hpm
      refine ⟨_, rfl, _, rfl, g, _, _, .ref pm.a, rfl, rfl, SqL.of hT.g, hatm, pm.a, _, _, .str pm.nm, rfl, rfl, SqL.of (HT.part hT pmin).1, atI_nat (j := 0) rfl, _, rfl, _, rfl, g, _, _, .ref p.a, rfl, rfl, SqL.of hT.g, hata, p.a, _, 0, 0, rfl, rfl, d1, rfl, ?_⟩
      have hT1 := HT.head hT0 pm.nm p.sg
      have kp1 := (Keep.refl (M := tE g ps) (H := H)).put ad1 (.lst [.str pm.nm, .str p.sg, .ref p.wa])
      have te : ((tE g (PA ++ { p with nm := pm.nm, sg := p.sg } :: PB)).map fun x => x.1) = (tE g ps).map fun x => x.1 := by rw [te_head, ← eps]
      have isp' : Paired IsP (PA ++ { p with nm := pm.nm, sg := p.sg } :: PB) (DA ++ (dm.1, r.2) :: DB) := L2.Paired.app ispA (.cons ⟨ispm.1, i2, by rw [ews, evs, List.map_cons, List.map_cons, w2, i4]⟩ ispB)
      have l1 : (PA ++ { p with nm := pm.nm, sg := p.sg } :: PB).length = ps.length := by rw [eps]; simp
      have l2 : (DA ++ (dm.1, r.2) :: DB).length = ds.length := by rw [eds]; simp
      have ok' : ∀ x ∈ DA ++ (dm.1, r.2) :: DB, POk x := fun x hx => by
        rcases List.mem_append.mp hx with hx | hx
        · exact gp.ok x (by rw [eds]; exact List.mem_append_left _ hx)
        rcases List.mem_cons.mp hx with rfl | hx
        · exact ⟨(gp.ok dm (List.mem_of_getElem? hdm)).nm, rok.h, rok.ws, rok.l⟩
        · exact gp.ok x (by rw [eds]; exact List.mem_append_right _ (List.mem_cons_of_mem _ hx))
      have hn' : (DA ++ (dm.1, r.2) :: DB)[n]? = some (dm.1, r.2) := by rw [← eDA]; exact mid_at
      have ens : pnms (DA ++ (dm.1, r.2) :: DB) = (pnms ds).set n dm.1 := by
        rw [eds, ← eDA, pnms_mid, pnms_mid, show DA.length = (pnms DA).length from (List.length_map _).symm, mid_set]
      generalize hH1 : upd H p.a (.lst [.str pm.nm, .str p.sg, .ref p.wa]) = H1 at hT1 kp1
      rw [show upd H p.a (.lst ([V.str p.nm, V.str p.sg, V.ref p.wa].set 0 (V.str pm.nm))) = H1 from hH1]
      refine ⟨fun σ' H2 => ∃ (ps2 : List PD) (ds2 : List PPTy), σ' = [some (.ref g), some (.int kind), some (.int cell), some (.int (n : Nat)), some (.int (m : Nat)), none, none, none] ∧ HT H2 g ps2 ∧ Paired IsP ps2 ds2 ∧ ds2.length = ds.length ∧ (∀ p ∈ ds2, POk p) ∧ pnms ds2 = pnms (DA ++ (dm.1, r.2) :: DB) ∧ Keep (tE g ps) H H2 ∧ ds2[n]? = some (dm.1, r.2), ?_, ?_⟩
      · refine ⟨_, rfl, rfl, _, rfl, ?_⟩
        rw [de]
        refine ite2 (fun _ => ?_) (fun _ => ?_)
        · obtain ⟨p3, d4, c1, c2, c3, c4, c5, c6', ps2, hT2, isp2⟩ := clr hT1 isp' (m := m) (by rw [l1]; omega)
          refine ⟨_, rfl, _, rfl, g, _, _, .ref p3.a, rfl, rfl, SqL.of hT1.g, atI_nat (j := m) (by rw [List.getElem?_map, c1]; rfl), p3.a, _, _, .ref p3.wa, rfl, rfl, SqL.of c3, atI_nat (j := 2) rfl, .inl ⟨rfl, _, SqL.of c4⟩, p3.wa, _, rfl, rfl, c4, ?_⟩
          refine ⟨ps2, _, rfl, hT2, isp2, by rw [List.length_set]; exact l2, fun x hx => ?_, ?_, kp1.put (by rw [← te]; exact c5) _, ?_⟩
          · rcases List.mem_or_eq_of_mem_set hx with hx | rfl
            · exact ok' x hx
            · exact pok_clr (ok' d4 (List.mem_of_getElem? c2))
          · unfold pnms
            rw [List.map_set]
            exact set_self (by rw [List.getElem?_map, c2]; rfl)
          · rw [List.getElem?_set_ne (Ne.symm nm_ne)]; exact hn'
        · exact ⟨_, _, rfl, hT1, isp', l2, ok', rfl, kp1, hn'⟩
      rintro σ' H2 ⟨ps2, ds2, rfl, hT2, isp2, ll2, ok2, en2, kp2, _⟩
      refine q ps2 ds2 "NoName" H2 hT2 isp2 ll2 ok2 (.inl ⟨rfl, .inl ?_⟩) (by decide) kp2
      rw [en2, ens]
      exact twice nm_ne (List.getElem?_set_self (List.getElem?_eq_some_iff.mp hnA).1) (by rw [List.getElem?_set_ne nm_ne]; exact hnB)
  refine ⟨_, rfl, rfl, _, rfl, ?_⟩
  rw [de, decide_eq_false (fun z => kA (.inl z))]
  refine iteF ?_
  refine ⟨_, rfl, rfl, _, rfl, ?_⟩
  rw [de, decide_eq_false (fun z => kA (.inr z))]
  refine iteF ?_
  obtain ⟨un, hun⟩ : ∃ un, un = ps.map fun p => p.nm := ⟨_, rfl⟩
  have ull : un.length = ps.length := by rw [hun, List.length_map]
  have eun : un = pnms ds := by
    rw [hun]
    have go : ∀ {ps : List PD} {ds : List PPTy}, Paired IsP ps ds → (ps.map fun p => p.nm) = pnms ds := fun {ps ds} h => by
      induction h with
      | nil => rfl
      | cons a _ ih => rw [List.map_cons, ih, a.1]; rfl
    exact go isp
  by_cases kB : kind = 9 ∨ kind = 13
  · by_cases k9 : kind = 9
    · refine ⟨_, rfl, rfl, _, rfl, ?_⟩
      rw [de, decide_eq_true k9]
      refine iteT ?_
      refine ⟨_, rfl, g, rfl, ⟨_, SqL.of hT.g⟩, comp_listD (K := K) (a := g) (xs := ps.map fun p => V.ref p.a) (fun i ys H3 => H3 = H ∧ ys = ((un.take i).map V.str)) ⟨rfl, rfl⟩ (small (m := 1000) (by omega)) (fun i ys H3 hi h => ?_) (fun i u ys H3 hi h => ?_) (fun ys H3 h up hup => ?_)⟩
      · obtain ⟨rfl, rfl⟩ := h
        exact ⟨SqL.of hT.g, by simp; omega⟩
      · obtain ⟨rfl, rfl⟩ := h
        rw [List.getElem?_map] at hi
        obtain ⟨z, hz, rfl⟩ : ∃ z, ps[i]? = some z ∧ u = V.ref z.a := by
          cases e : ps[i]? with
          | none => rw [e] at hi; cases hi
          | some z => rw [e] at hi; cases hi; exact ⟨z, rfl, rfl⟩
        have hu : un[i]? = some z.nm := by rw [hun, List.getElem?_map, hz]; rfl
        refine comp_yes ⟨_, rfl, z.a, _, _, _, rfl, rfl, SqL.of (HT.part hT (List.mem_of_getElem? hz)).1, atI_nat (j := 0) rfl, rfl, ?_⟩
        rw [List.take_add_one, hu, List.map_append]; rfl
      obtain ⟨rfl, rfl⟩ := h
      rw [ll, ← ull, List.take_length]
      have s1 := same_upd hup (.lst (un.map V.str))
      have ku : upd H3 up (.lst (un.map V.str)) up = some (.lst (un.map V.str)) := upd_same
      generalize upd H3 up (.lst (un.map V.str)) = H1 at s1 ku ⊢
      refine ⟨abc, rfl, comp_strD (z := abc) (fun i ys H2 => H2 = H1 ∧ ∃ L : List Str, ys = L.map V.str ∧ L.length ≤ i ∧ (∀ x ∈ L, isName x = true ∧ x ∉ un) ∧ ∀ (j c : Nat), j < i → abc.cps[j]? = some c → (⟨#[c]⟩ : Str) ∈ un ∨ L ≠ []) ⟨rfl, [], rfl, Nat.le_refl _, (fun _ z => by cases z), fun j c z => absurd z (Nat.not_lt_zero j)⟩ (small (m := 1000) (by decide +kernel)) (fun i ys H2 hi h => ?_) (fun i c ys H2 hi h => ?_) (fun ys H2 h np hnp => ?_)⟩
      · obtain ⟨rfl, L, rfl, hl, _⟩ := h
        rw [List.length_map]; exact hl
      · obtain ⟨rfl, L, rfl, hl, hL, hk⟩ := h
        refine ⟨_, rfl, _, rfl, up, _, rfl, .inl (SqL.of ku), rfl, (by rw [List.all_map]; exact List.all_eq_true.mpr fun _ _ => rfl), _, rfl, ?_⟩
        have ei : (if true = true then !inV (V.str ⟨#[c]⟩) (un.map V.str) else inV (V.str ⟨#[c]⟩) (un.map V.str)) = !decide ((⟨#[c]⟩ : Str) ∈ un) := by rw [inV_str]; rfl
        rw [ei]
        refine ite2 (fun e => ?_) (fun e => ?_)
        · have e' : ¬ (⟨#[c]⟩ : Str) ∈ un := by simpa using e
          refine ⟨_, rfl, rfl, L ++ [⟨#[c]⟩], by rw [List.map_append]; rfl, by rw [List.length_append, List.length_singleton]; omega, fun x hx => ?_, fun j c' hj hc' => .inr (fun z => by simp at z)⟩
          rcases List.mem_append.mp hx with hx | hx
          · exact hL x hx
          · rw [List.mem_singleton.mp hx]
            refine ⟨name_back (l := [c]) (Nat.le_refl _) (by show 1 ≤ 8; decide) fun y hy => ?_, e'⟩
            rw [List.mem_singleton.mp hy]
            have h4 : abc.cps.toList.all (fun c => decide (97 ≤ c ∧ c ≤ 122)) = true := by decide +kernel
            exact of_decide_eq_true (List.all_eq_true.mp h4 c (List.mem_of_getElem? (i := i) (by rw [Array.getElem?_toList]; exact hi)))
        · have e' : (⟨#[c]⟩ : Str) ∈ un := by simpa using e
          refine ⟨rfl, L, rfl, by omega, hL, fun j c' hj hc' => ?_⟩
          by_cases ej : j < i
          · exact hk j c' ej hc'
          · have : j = i := by omega
            subst this
            rw [hi] at hc'
            injection hc' with hc'
            rw [← hc']; exact .inl e'
      obtain ⟨rfl, L, rfl, hl, hL, hk⟩ := h
      have Lne : L ≠ [] := fun e => letters_more (ns := un) (by omega) fun j c hc => by
        rcases hk j c (Array.getElem?_eq_some_iff.mp hc).1 hc with z | z
        · exact z
        · exact absurd e z
      have Lpos : 0 < L.length := List.length_pos_iff.mpr Lne
      have s2 := s1.trans (same_upd hnp (.lst (L.map V.str)))
      have kn : upd H2 np (.lst (L.map V.str)) np = some (.lst (L.map V.str)) := upd_same
      generalize upd H2 np (.lst (L.map V.str)) = H4 at s2 kn ⊢
      have lL : (L.map V.str).length = L.length := List.length_map _
      obtain ⟨x, hx, hm', _⟩ := pick (l := L) (n := cell / 7 % ((L.map V.str).length : Int)) (Int.emod_nonneg _ (by omega)) (by rw [lL]; exact Int.emod_lt_of_pos _ (by omega))
      obtain ⟨xn, xu⟩ := hL x hm'
      refine ⟨_, rfl, _, rfl, _, _, rfl, rfl, ⟨by decide, by decide⟩, _, rfl, np, _, rfl, .inl (SqL.of kn), _, _, rfl, rfl, (by omega), np, _, _, .str x, rfl, rfl, SqL.of kn, hx, _, rfl, _, rfl, g, _, _, .ref p.a, rfl, rfl, SqL.of (s2 _ _ hT.g), hata, p.a, _, _, .ref p.wa, rfl, rfl, SqL.of (s2 _ _ d1), atI_nat (j := 2) rfl, p.wa, _, _, .ref w.1, rfl, rfl, SqL.of (s2 _ _ d2), atI_nat (j := 0) (by rw [ews]; rfl), w.1, _, 0, 0, rfl, rfl, s2 _ _ d3', rfl, ?_⟩
      have hT1 := HT.way (hT0.up s2) ews [x, intS v.2]
      have kp1 := ((Keep.refl (M := tE g ps) (H := H3)).same s2).put ad3 (.lst ([x, intS v.2].map V.str))
      have te : ((tE g (PA ++ { p with ws := (w.1, [x, intS v.2]) :: ws } :: PB)).map fun x => x.1) = (tE g ps).map fun x => x.1 := by rw [te_way ews, ← eps]
      have isp' : Paired IsP (PA ++ { p with ws := (w.1, [x, intS v.2]) :: ws } :: PB) (DA ++ (r.1, r.2.1, (x, v.2) :: vs) :: DB) := L2.Paired.app ispA (.cons ⟨i1, i2, by show [x, intS v.2] :: _ = [x, intS v.2] :: _; rw [i4]⟩ ispB)
      have l1 : (PA ++ { p with ws := (w.1, [x, intS v.2]) :: ws } :: PB).length = ps.length := by rw [eps]; simp
      have l2 : (DA ++ (r.1, r.2.1, (x, v.2) :: vs) :: DB).length = ds.length := by rw [eds]; simp
      have ok' : ∀ y ∈ DA ++ (r.1, r.2.1, (x, v.2) :: vs) :: DB, POk y := fun y hy => by
        rcases List.mem_append.mp hy with hy | hy
        · exact gp.ok y (by rw [eds]; exact List.mem_append_left _ hy)
        rcases List.mem_cons.mp hy with rfl | hy
        · refine ⟨rok.nm, rok.h, fun u hu => ?_, by have := rok.l; rw [evs] at this; exact this⟩
          rcases List.mem_cons.mp hu with rfl | hu
          · exact ⟨xn, vok.2⟩
          · exact rok.ws u (by rw [evs]; exact List.mem_cons_of_mem _ hu)
        · exact gp.ok y (by rw [eds]; exact List.mem_append_right _ (List.mem_cons_of_mem _ hy))
      have hn' : (DA ++ (r.1, r.2.1, (x, v.2) :: vs) :: DB)[n]? = some (r.1, r.2.1, (x, v.2) :: vs) := by rw [← eDA]; exact mid_at
      have ens : pnms (DA ++ (r.1, r.2.1, (x, v.2) :: vs) :: DB) = pnms ds := by rw [eds, pnms_mid, pnms_mid]
      generalize hH1 : upd H4 w.1 (.lst ([x, intS v.2].map V.str)) = H5 at hT1 kp1
      rw [show upd H4 w.1 (.lst (([v.1, intS v.2].map V.str).set 0 (V.str x))) = H5 from hH1]
      refine ⟨fun σ' H2 => ∃ (ps2 : List PD) (ds2 : List PPTy), σ' = [some (.ref g), some (.int kind), some (.int cell), some (.int (n : Nat)), some (.int (m : Nat)), some (.ref up), some (.ref np), none] ∧ HT H2 g ps2 ∧ Paired IsP ps2 ds2 ∧ ds2.length = ds.length ∧ (∀ p ∈ ds2, POk p) ∧ pnms ds2 = pnms (DA ++ (r.1, r.2.1, (x, v.2) :: vs) :: DB) ∧ Keep (tE g ps) H3 H2 ∧ ds2[n]? = some (r.1, r.2.1, (x, v.2) :: vs), ?_, ?_⟩
      · refine ⟨_, rfl, rfl, _, rfl, ?_⟩
        rw [de]
        refine ite2 (fun _ => ?_) (fun _ => ?_)
        · obtain ⟨p3, d4, c1, c2, c3, c4, c5, c6', ps2, hT2, isp2⟩ := clr hT1 isp' (m := m) (by rw [l1]; omega)
          refine ⟨_, rfl, _, rfl, g, _, _, .ref p3.a, rfl, rfl, SqL.of hT1.g, atI_nat (j := m) (by rw [List.getElem?_map, c1]; rfl), p3.a, _, _, .ref p3.wa, rfl, rfl, SqL.of c3, atI_nat (j := 2) rfl, .inl ⟨rfl, _, SqL.of c4⟩, p3.wa, _, rfl, rfl, c4, ?_⟩
          refine ⟨ps2, _, rfl, hT2, isp2, by rw [List.length_set]; exact l2, fun x hx => ?_, ?_, kp1.put (by rw [← te]; exact c5) _, ?_⟩
          · rcases List.mem_or_eq_of_mem_set hx with hx | rfl
            · exact ok' x hx
            · exact pok_clr (ok' d4 (List.mem_of_getElem? c2))
          · unfold pnms
            rw [List.map_set]
            exact set_self (by rw [List.getElem?_map, c2]; rfl)
          · rw [List.getElem?_set_ne (Ne.symm nm_ne)]; exact hn'
        · exact ⟨_, _, rfl, hT1, isp', l2, ok', rfl, kp1, hn'⟩
      rintro σ' H6 ⟨ps2, ds2, rfl, hT2, isp2, ll2, ok2, en2, kp2, hn2⟩
      refine q ps2 ds2 "NoName" H6 hT2 isp2 ll2 ok2 (.inl ⟨rfl, .inr ⟨_, List.mem_of_getElem? hn2, (x, v.2), List.mem_cons_self, ?_⟩⟩) (by decide) kp2
      rw [en2, ens, ← eun]
      exact xu
    · refine ⟨_, rfl, rfl, _, rfl, ?_⟩
      rw [de, decide_eq_false k9]
      refine iteF ?_
      refine ⟨_, rfl, rfl, _, rfl, ?_⟩
      rw [de, decide_eq_true (show kind = 13 by omega)]
      refine iteT ?_
      refine ⟨_, rfl, g, rfl, ⟨_, SqL.of hT.g⟩, comp_listD (K := K) (a := g) (xs := ps.map fun p => V.ref p.a) (fun i ys H3 => H3 = H ∧ ys = ((un.take i).map V.str)) ⟨rfl, rfl⟩ (small (m := 1000) (by omega)) (fun i ys H3 hi h => ?_) (fun i u ys H3 hi h => ?_) (fun ys H3 h up hup => ?_)⟩
      · obtain ⟨rfl, rfl⟩ := h
        exact ⟨SqL.of hT.g, by simp; omega⟩
      · obtain ⟨rfl, rfl⟩ := h
        rw [List.getElem?_map] at hi
        obtain ⟨z, hz, rfl⟩ : ∃ z, ps[i]? = some z ∧ u = V.ref z.a := by
          cases e : ps[i]? with
          | none => rw [e] at hi; cases hi
          | some z => rw [e] at hi; cases hi; exact ⟨z, rfl, rfl⟩
        have hu : un[i]? = some z.nm := by rw [hun, List.getElem?_map, hz]; rfl
        refine comp_yes ⟨_, rfl, z.a, _, _, _, rfl, rfl, SqL.of (HT.part hT (List.mem_of_getElem? hz)).1, atI_nat (j := 0) rfl, rfl, ?_⟩
        rw [List.take_add_one, hu, List.map_append]; rfl
      obtain ⟨rfl, rfl⟩ := h
      rw [ll, ← ull, List.take_length]
      have s1 := same_upd hup (.lst (un.map V.str))
      have ku : upd H3 up (.lst (un.map V.str)) up = some (.lst (un.map V.str)) := upd_same
      generalize upd H3 up (.lst (un.map V.str)) = H1 at s1 ku ⊢
      refine ⟨abc, rfl, comp_strD (z := abc) (fun i ys H2 => H2 = H1 ∧ ∃ L : List Str, ys = L.map V.str ∧ L.length ≤ i ∧ (∀ x ∈ L, isName x = true ∧ x ∉ un) ∧ ∀ (j c : Nat), j < i → abc.cps[j]? = some c → (⟨#[c]⟩ : Str) ∈ un ∨ L ≠ []) ⟨rfl, [], rfl, Nat.le_refl _, (fun _ z => by cases z), fun j c z => absurd z (Nat.not_lt_zero j)⟩ (small (m := 1000) (by decide +kernel)) (fun i ys H2 hi h => ?_) (fun i c ys H2 hi h => ?_) (fun ys H2 h np hnp => ?_)⟩
      · obtain ⟨rfl, L, rfl, hl, _⟩ := h
        rw [List.length_map]; exact hl
      · obtain ⟨rfl, L, rfl, hl, hL, hk⟩ := h
        refine ⟨_, rfl, _, rfl, up, _, rfl, .inl (SqL.of ku), rfl, (by rw [List.all_map]; exact List.all_eq_true.mpr fun _ _ => rfl), _, rfl, ?_⟩
        have ei : (if true = true then !inV (V.str ⟨#[c]⟩) (un.map V.str) else inV (V.str ⟨#[c]⟩) (un.map V.str)) = !decide ((⟨#[c]⟩ : Str) ∈ un) := by rw [inV_str]; rfl
        rw [ei]
        refine ite2 (fun e => ?_) (fun e => ?_)
        · have e' : ¬ (⟨#[c]⟩ : Str) ∈ un := by simpa using e
          refine ⟨_, rfl, rfl, L ++ [⟨#[c]⟩], by rw [List.map_append]; rfl, by rw [List.length_append, List.length_singleton]; omega, fun x hx => ?_, fun j c' hj hc' => .inr (fun z => by simp at z)⟩
          rcases List.mem_append.mp hx with hx | hx
          · exact hL x hx
          · rw [List.mem_singleton.mp hx]
            refine ⟨name_back (l := [c]) (Nat.le_refl _) (by show 1 ≤ 8; decide) fun y hy => ?_, e'⟩
            rw [List.mem_singleton.mp hy]
            have h4 : abc.cps.toList.all (fun c => decide (97 ≤ c ∧ c ≤ 122)) = true := by decide +kernel
            exact of_decide_eq_true (List.all_eq_true.mp h4 c (List.mem_of_getElem? (i := i) (by rw [Array.getElem?_toList]; exact hi)))
        · have e' : (⟨#[c]⟩ : Str) ∈ un := by simpa using e
          refine ⟨rfl, L, rfl, by omega, hL, fun j c' hj hc' => ?_⟩
          by_cases ej : j < i
          · exact hk j c' ej hc'
          · have : j = i := by omega
            subst this
            rw [hi] at hc'
            injection hc' with hc'
            rw [← hc']; exact .inl e'
      obtain ⟨rfl, L, rfl, hl, hL, hk⟩ := h
      have Lne : L ≠ [] := fun e => letters_more (ns := un) (by omega) fun j c hc => by
        rcases hk j c (Array.getElem?_eq_some_iff.mp hc).1 hc with z | z
        · exact z
        · exact absurd e z
      have Lpos : 0 < L.length := List.length_pos_iff.mpr Lne
      have s2 := s1.trans (same_upd hnp (.lst (L.map V.str)))
      have kn : upd H2 np (.lst (L.map V.str)) np = some (.lst (L.map V.str)) := upd_same
      generalize upd H2 np (.lst (L.map V.str)) = H4 at s2 kn ⊢
      have lL : (L.map V.str).length = L.length := List.length_map _
      obtain ⟨x, hx, hm', _⟩ := pick (l := L) (n := cell / 7 % ((L.map V.str).length : Int)) (Int.emod_nonneg _ (by omega)) (by rw [lL]; exact Int.emod_lt_of_pos _ (by omega))
      obtain ⟨xn, xu⟩ := hL x hm'
      refine ⟨_, rfl, _, rfl, _, _, rfl, rfl, ⟨by decide, by decide⟩, _, rfl, np, _, rfl, .inl (SqL.of kn), _, _, rfl, rfl, (by omega), np, _, _, .str x, rfl, rfl, SqL.of kn, hx, _, rfl, _, rfl, g, _, _, .ref p.a, rfl, rfl, SqL.of (s2 _ _ hT.g), hata, p.a, _, _, .ref p.wa, rfl, rfl, SqL.of (s2 _ _ d1), atI_nat (j := 2) rfl, p.wa, _, _, .ref w.1, rfl, rfl, SqL.of (s2 _ _ d2), atI_nat (j := 0) (by rw [ews]; rfl), w.1, _, 0, 0, rfl, rfl, s2 _ _ d3', rfl, ?_⟩
      have hT1 := HT.way (hT0.up s2) ews [x, intS v.2]
      have kp1 := ((Keep.refl (M := tE g ps) (H := H3)).same s2).put ad3 (.lst ([x, intS v.2].map V.str))
      have te : ((tE g (PA ++ { p with ws := (w.1, [x, intS v.2]) :: ws } :: PB)).map fun x => x.1) = (tE g ps).map fun x => x.1 := by rw [te_way ews, ← eps]
      have isp' : Paired IsP (PA ++ { p with ws := (w.1, [x, intS v.2]) :: ws } :: PB) (DA ++ (r.1, r.2.1, (x, v.2) :: vs) :: DB) := L2.Paired.app ispA (.cons ⟨i1, i2, by show [x, intS v.2] :: _ = [x, intS v.2] :: _; rw [i4]⟩ ispB)
      have l1 : (PA ++ { p with ws := (w.1, [x, intS v.2]) :: ws } :: PB).length = ps.length := by rw [eps]; simp
      have l2 : (DA ++ (r.1, r.2.1, (x, v.2) :: vs) :: DB).length = ds.length := by rw [eds]; simp
      have ok' : ∀ y ∈ DA ++ (r.1, r.2.1, (x, v.2) :: vs) :: DB, POk y := fun y hy => by
        rcases List.mem_append.mp hy with hy | hy
        · exact gp.ok y (by rw [eds]; exact List.mem_append_left _ hy)
        rcases List.mem_cons.mp hy with rfl | hy
        · refine ⟨rok.nm, rok.h, fun u hu => ?_, by have := rok.l; rw [evs] at this; exact this⟩
          rcases List.mem_cons.mp hu with rfl | hu
          · exact ⟨xn, vok.2⟩
          · exact rok.ws u (by rw [evs]; exact List.mem_cons_of_mem _ hu)
        · exact gp.ok y (by rw [eds]; exact List.mem_append_right _ (List.mem_cons_of_mem _ hy))
      have hn' : (DA ++ (r.1, r.2.1, (x, v.2) :: vs) :: DB)[n]? = some (r.1, r.2.1, (x, v.2) :: vs) := by rw [← eDA]; exact mid_at
      have ens : pnms (DA ++ (r.1, r.2.1, (x, v.2) :: vs) :: DB) = pnms ds := by rw [eds, pnms_mid, pnms_mid]
      generalize hH1 : upd H4 w.1 (.lst ([x, intS v.2].map V.str)) = H5 at hT1 kp1
      rw [show upd H4 w.1 (.lst (([v.1, intS v.2].map V.str).set 0 (V.str x))) = H5 from hH1]
      refine ⟨fun σ' H2 => ∃ (ps2 : List PD) (ds2 : List PPTy), σ' = [some (.ref g), some (.int kind), some (.int cell), some (.int (n : Nat)), some (.int (m : Nat)), some (.ref up), some (.ref np), none] ∧ HT H2 g ps2 ∧ Paired IsP ps2 ds2 ∧ ds2.length = ds.length ∧ (∀ p ∈ ds2, POk p) ∧ pnms ds2 = pnms (DA ++ (r.1, r.2.1, (x, v.2) :: vs) :: DB) ∧ Keep (tE g ps) H3 H2 ∧ ds2[n]? = some (r.1, r.2.1, (x, v.2) :: vs), ?_, ?_⟩
      · refine ⟨_, rfl, rfl, _, rfl, ?_⟩
        rw [de]
        refine ite2 (fun _ => ?_) (fun _ => ?_)
        · obtain ⟨p3, d4, c1, c2, c3, c4, c5, c6', ps2, hT2, isp2⟩ := clr hT1 isp' (m := m) (by rw [l1]; omega)
          refine ⟨_, rfl, _, rfl, g, _, _, .ref p3.a, rfl, rfl, SqL.of hT1.g, atI_nat (j := m) (by rw [List.getElem?_map, c1]; rfl), p3.a, _, _, .ref p3.wa, rfl, rfl, SqL.of c3, atI_nat (j := 2) rfl, .inl ⟨rfl, _, SqL.of c4⟩, p3.wa, _, rfl, rfl, c4, ?_⟩
          refine ⟨ps2, _, rfl, hT2, isp2, by rw [List.length_set]; exact l2, fun x hx => ?_, ?_, kp1.put (by rw [← te]; exact c5) _, ?_⟩
          · rcases List.mem_or_eq_of_mem_set hx with hx | rfl
            · exact ok' x hx
            · exact pok_clr (ok' d4 (List.mem_of_getElem? c2))
          · unfold pnms
            rw [List.map_set]
            exact set_self (by rw [List.getElem?_map, c2]; rfl)
          · rw [List.getElem?_set_ne (Ne.symm nm_ne)]; exact hn'
        · exact ⟨_, _, rfl, hT1, isp', l2, ok', rfl, kp1, hn'⟩
      rintro σ' H6 ⟨ps2, ds2, rfl, hT2, isp2, ll2, ok2, en2, kp2, hn2⟩
      refine q ps2 ds2 "NoName" H6 hT2 isp2 ll2 ok2 (.inl ⟨rfl, .inr ⟨_, List.mem_of_getElem? hn2, (x, v.2), List.mem_cons_self, ?_⟩⟩) (by decide) kp2
      rw [en2, ens, ← eun]
      exact xu
  refine ⟨_, rfl, rfl, _, rfl, ?_⟩
  rw [de, decide_eq_false (fun z => kB (.inl z))]
  refine iteF ?_
  refine ⟨_, rfl, rfl, _, rfl, ?_⟩
  rw [de, decide_eq_false (fun z => kB (.inr z))]
  refine iteF ?_
  have okr : ∀ (d' : PPTy), POk d' → ∀ x ∈ DA ++ d' :: DB, POk x := fun d' hd' x hx => by
    rcases List.mem_append.mp hx with hx | hx
    · exact gp.ok x (by rw [eds]; exact List.mem_append_left _ hx)
    rcases List.mem_cons.mp hx with rfl | hx
    · exact hd'
    · exact gp.ok x (by rw [eds]; exact List.mem_append_right _ (List.mem_cons_of_mem _ hx))
  have gp' : GP (DA ++ r :: DB) := by rw [← eds]; exact gp
  have h6' : (DA ++ r :: DB).length ≤ 6 := by rw [← eds]; exact p6
  have hin' : ∀ w ∈ r.2.2, w.1 ∈ pnms (DA ++ r :: DB) := fun w hw => by rw [← eds]; exact gp.inn r rm w hw
  refine ⟨_, rfl, rfl, _, rfl, ?_⟩
  rw [de]
  refine ite2 (fun _ => ?_) (fun _ => ?_)
  · refine ⟨_, rfl, _, rfl, g, _, _, .ref p.a, rfl, rfl, SqL.of hT.g, hata, p.a, _, _, .ref p.wa, rfl, rfl, SqL.of d1, atI_nat (j := 2) rfl, .inl ⟨rfl, _, SqL.of d2⟩, p.wa, _, rfl, rfl, d2, ?_⟩
    exact q (PA ++ { p with ws := [] } :: PB) (DA ++ (r.1, r.2.1, []) :: DB) "NoWay" _ (HT.wclear hT0) (L2.Paired.app ispA (.cons ⟨i1, i2, rfl⟩ ispB)) (by rw [eds]; simp) (okr _ (pok_clr rok)) (bad_row gp' h6' rfl (fun w hw => by cases hw) (.inl rfl)) (by decide) (Keep.refl.put ad2 _)
  · refine ⟨_, rfl, _, rfl, g, _, _, .ref p.a, rfl, rfl, SqL.of hT.g, hata, p.a, _, _, .ref p.wa, rfl, rfl, SqL.of d1, atI_nat (j := 2) rfl, ?_⟩
    have d2' := d2
    rw [ews] at d2'
    have la := (amt_is vok.2).2.2.1
    refine ⟨_, rfl, .inl ⟨rfl, _, SqL.of d2⟩, _, rfl, p.wa, _, _, .ref w.1, rfl, rfl, SqL.of d2', atI_nat (j := 0) rfl, w.1, _, _, .str v.1, rfl, rfl, SqL.of d3', atI_nat (j := 0) rfl, _, rfl, p.wa, _, _, .ref w.1, rfl, rfl, SqL.of d2', atI_nat (j := 0) rfl, w.1, _, _, .str (intS v.2), rfl, rfl, SqL.of d3', atI_nat (j := 1) rfl, _, _, rfl, rfl, (by decide), (by decide), (by decide +kernel), (by decide +kernel), (Nat.le_trans (by decide +kernel : (repS "9" 60).length ≤ 1000) (small (m := 1000) (Nat.le_refl _))), _, _, rfl, rfl, (Nat.le_trans (by decide +kernel : ("-" : Str).length + (repS "9" 60).length ≤ 1000) (small (m := 1000) (Nat.le_refl _))), (by show 3 ≤ sizeLine; decide), fun lp hlp => ?_⟩
    have s1 := same_upd hlp (.lst ([intS v.2, "7", "-" ++ repS "9" 60].map V.str))
    have k1 : upd H lp (.lst ([intS v.2, "7", "-" ++ repS "9" 60].map V.str)) lp = some (.lst ([intS v.2, "7", "-" ++ repS "9" 60].map V.str)) := upd_same
    generalize hH1 : upd H lp (.lst ([intS v.2, "7", "-" ++ repS "9" 60].map V.str)) = H1 at s1 k1
    rw [show upd H lp (.lst [V.str (intS v.2), V.str "7", V.str ("-" ++ repS "9" 60)]) = H1 from hH1]
    obtain ⟨y, hy, hym, _⟩ := pick (l := [intS v.2, "7", "-" ++ repS "9" 60]) (n := cell / 7 % 3) (Int.emod_nonneg _ (by decide)) (Int.emod_lt_of_pos _ (by decide))
    obtain ⟨z', ez, zok⟩ : ∃ z' : Int, y = intS z' ∧ AmtOk z' := by
      simp only [List.mem_cons, List.not_mem_nil, or_false] at hym
      rcases hym with rfl | rfl | rfl
      · exact ⟨_, rfl, vok.2⟩
      · exact ⟨7, by decide +kernel, by unfold AmtOk; decide⟩
      · exact ⟨-(10 ^ 60 - 1), by decide +kernel, by unfold AmtOk; decide⟩
    refine ⟨_, rfl, _, _, rfl, rfl, ⟨by decide, by decide⟩, _, _, rfl, rfl, (show (0 : Int) < 3 by decide), lp, _, _, .str y, rfl, rfl, SqL.of k1, hy, (by show 2 ≤ sizeLine; decide), fun xp hxp => ?_⟩
    have s2 := same_upd hxp (.lst ([v.1, y].map V.str))
    have wl : p.ws.length ≤ 2 := by
      have e1 := congrArg List.length i4
      rw [List.length_map, List.length_map] at e1
      have e2 := gp.l2 r rm
      rw [evs, List.length_cons] at e2
      rw [ews, List.length_cons]; omega
    refine ⟨p.wa, _, _, rfl, rfl, s2 _ _ (s1 _ _ d2), smlt (m := 100) (by rw [List.length_map]; omega), ?_⟩
    have hT2 := HT.wapp (hT0.up s1) hxp [v.1, y]
    refine q _ (DA ++ (r.1, r.2.1, r.2.2 ++ [(v.1, z')]) :: DB) "NoWay" _ hT2 (L2.Paired.app ispA (.cons ⟨i1, i2, ?_⟩ ispB)) (by rw [eds]; simp) (okr _ ⟨rok.nm, rok.h, fun u hu => ?_, by show (r.2.2 ++ [(v.1, z')]).length ≤ 3; rw [List.length_append, List.length_singleton]; have := gp.l2 r rm; omega⟩) (bad_row gp' h6' rfl (fun u hu => ?_) (.inr fun nd => ?_)) (by decide) ((Keep.refl.same (s1.trans s2)).put ad2 _)
    · show ((p.ws ++ [(xp, [v.1, y])]).map fun w => w.2) = (r.2.2 ++ [(v.1, z')]).map fun w => [w.1, intS w.2]
      rw [List.map_append, List.map_append, ews, evs, List.map_cons, List.map_cons, w2, i4, ez]; rfl
    · rcases List.mem_append.mp hu with hu | hu
      · exact rok.ws u hu
      · rw [List.mem_singleton.mp hu]; exact ⟨vok.1, zok⟩
    · rcases List.mem_append.mp hu with hu | hu
      · exact hin' u hu
      · rw [List.mem_singleton.mp hu]; exact hin' v (by rw [evs]; exact List.mem_cons_self)
    · have nd' : ((r.2.2 ++ [(v.1, z')]).map fun w => w.1).Nodup := nd
      rw [List.map_append] at nd'
      exact (List.nodup_append.mp nd').2.2 v.1 (List.mem_map.mpr ⟨v, by rw [evs]; exact List.mem_cons_self, rfl⟩) v.1 (List.mem_singleton.mpr rfl) rfl
def nmC (cell : Int) (k : Nat) : Str := wrd [((k : Int) + cell) % 26]
theorem nmc_name (cell : Int) (k : Nat) : isName (nmC cell k) = true := wrd_name (Nat.le_refl _) (by show 1 ≤ 8; decide) fun t ht => by
  rw [List.mem_singleton.mp ht]
  exact ⟨Int.emod_nonneg _ (by decide), Int.emod_lt_of_pos _ (by decide)⟩
theorem nmc_nd (cell : Int) : ((List.range 17).map (nmC cell)).Nodup := map_nodup fun i j hi hj e => by
  have h := wrd_inj (fun t ht => by rw [List.mem_singleton.mp ht]; exact Int.emod_nonneg _ (by decide)) (fun t ht => by rw [List.mem_singleton.mp ht]; exact Int.emod_nonneg _ (by decide)) e
  injection h with h _
  omega
theorem nmc_way (cell : Int) : wrd [cell % 26] ∈ (List.range 17).map (nmC cell) := List.mem_map.mpr ⟨0, List.mem_range.mpr (by decide), by unfold nmC; rw [show (((0 : Nat) : Int) + cell) = cell by omega]⟩
def dC (cell : Int) (k : Nat) : PPTy := (nmC cell k, 1, [(wrd [cell % 26], cell)])
structure M17 (cell : Int) (ds : List PPTy) : Prop where
  nm : pnms ds = (List.range 17).map (nmC cell)
  ok : ∀ d ∈ ds, POk d
  inn : ∀ d ∈ ds, ∀ x ∈ d.2.2, x.1 = wrd [cell % 26]
theorem M17.len {cell : Int} {ds : List PPTy} (h : M17 cell ds) : ds.length = 17 := by
  have := congrArg List.length h.nm
  unfold pnms at this
  simpa using this
def spMany (K : PySem.W.Frag) : Sp := fun vs H Q _ => ∃ (g : Addr) (us : List V) (kind cell : Int), vs = [.ref g, .int kind, .int cell] ∧ H g = some (.lst us) ∧ 0 ≤ cell ∧ cell < 65521 ∧ ∀ (ps : List PD) (ds : List PPTy) (x : Str) H', HT H' g ps → Paired IsP ps ds → ds.length = 17 → (∀ p ∈ ds, POk p) → PDue ds x → x ∈ x4 → (∀ b o, b ≠ g → H b = some o → H' b = some o) → Q (.str x) H'
theorem ok_many (F : DefAt K mg "_law_many" s_law_many ["_law_parts_here", "_law_kind", "_law_cell"]) (T : Txt mg) : Dn P w K mg base "_law_many" 1 ["_law_parts_here", "_law_kind", "_law_cell"] (spMany K) := by
  have sc := sc_law_many
  refine F.ok sc (fun vs H Q E h => ?_) (fun f cdv A outer s H vs Q E hr h => ?_)
  · obtain ⟨_, _, _, _, rfl, _⟩ := h; rfl
  obtain ⟨g, us, kind, cell, rfl, hg, c0, c6, q⟩ := h
  have aok : AmtOk cell := ⟨by omega, by omega⟩
  refine ⟨_, (pss_cons (ps_set (i := 3) sc.nd rfl (Or.inl rfl) pe_str)
      (pss_cons (ps_expr (pe_bm0 PySem.F.plainAttrs_list PySem.F.slot_list_clear PySem.F.type_list_clear mt_clear (pv 0)))
      (pss_cons (ps_for PassesOwn.never rfl (pi_range1 rfl T.b_range (pa_cons pe_int pa_nil)) (pg_name (i := 4) sc.nd rfl (Or.inl rfl))
      (pss_one (ps_expr (pe_bm PySem.F.plainAttrs_list PySem.F.slot_list_append PySem.F.type_list_append mt_append (pv 0) (pa_cons (pe_lst (pa_cons (pe_ix ix_str (pv 3) (pe_op op_mod (pe_op op_add (pv 4) (pv 2)) pe_int) (fun _ _ => rfl)) (pa_cons pe_str (pa_cons (pe_lst (pa_cons (pe_lst (pa_cons (pe_ix ix_str (pv 3) (pe_op op_mod (pv 2) pe_int) (fun _ _ => rfl)) (pa_cons (pe_callTy call_str_int rfl T.b_str PyProof.Rows.boot_str (pa_cons (pv 2) pa_nil)) pa_nil))) pa_nil)) pa_nil)))) pa_nil)))))
      (pss_cut (ps_if (pt_cmpR op_eq (pv 1) pe_int (nomark _))
      (pss_one (ps_expr (pe_bm0 PySem.F.plainAttrs_list PySem.F.slot_list_clear PySem.F.type_list_clear mt_clear (pe_ix (ixL (K := K) rfl) (pe_ix (ixL (K := K) rfl) (pv 0) (pe_op op_mod (pe_op op_fdiv (pv 2) pe_int) pe_int) (fun _ _ => rfl)) pe_int (fun _ _ => rfl)))))
      pss_nil)
      (pss_cons (ps_if (pt_cmpR op_eq (pe_op op_mod (pe_op op_fdiv (pv 2) pe_int) pe_int) pe_int (nomark _))
      (pss_cons (ps_asg (pe_ix (ixL (K := K) rfl) (pe_ix (ixL (K := K) rfl) (pv 0) (pe_op op_mod (pe_op op_add (pe_op op_fdiv (pv 2) pe_int) pe_int) pe_int) (fun _ _ => rfl)) pe_int (fun _ _ => rfl)) (pg_sub (pe_ix (ixL (K := K) rfl) (pv 0) (pe_op op_mod (pe_op op_fdiv (pv 2) pe_int) pe_int) (fun _ _ => rfl)) pe_int set_list))
      (pss_one (ps_ret pe_str)))
      pss_nil)
      (pss_one (ps_ret pe_str))))))), ?_⟩
  refine ⟨_, rfl, .inl ⟨rfl, _, SqL.of hg⟩, g, _, rfl, rfl, hg, ?_⟩
  have kp0 : ∀ b o, b ≠ g → H b = some o → upd H g (.lst []) b = some o := fun b o nb e => by rw [upd_ne nb]; exact e
  have hg0 : upd H g (.lst []) g = some (.lst []) := upd_same
  generalize upd H g (.lst []) = H0 at kp0 hg0 ⊢
  have m26 : 0 ≤ cell % 26 ∧ cell % 26 < 26 := ⟨Int.emod_nonneg _ (by decide), Int.emod_lt_of_pos _ (by decide)⟩
  refine ⟨17, rfl, by decide, by decide, for_range (lo := 0) (n := (17 : Int).toNat) (fun i σ H1 => ∃ (ps : List PD) (y : Option V), σ = [some (.ref g), some (.int kind), some (.int cell), some (.str abc), y] ∧ HT H1 g ps ∧ Paired IsP ps ((List.range i).map (dC cell)) ∧ (∀ b o, b ≠ g → H b = some o → H1 b = some o) ∧ ∀ x ∈ tE g ps, x.1 = g ∨ H x.1 = none)
    ⟨[], _, rfl, ⟨List.nodup_cons.mpr ⟨(fun z => by cases z), List.nodup_nil⟩, fun x hx => by rw [List.mem_singleton.mp hx]; exact hg0⟩, .nil, kp0, fun x hx => by rw [List.mem_singleton.mp hx]; exact .inl rfl⟩ (fun i σ H1 hi h => ?_) (fun σ H1 h => ?_)⟩
  · obtain ⟨ps, y, rfl, hT, isp, kp, fr⟩ := h
    have al : ps.length = i := by rw [pr_len isp, List.length_map, List.length_range]
    have i17 : i < 17 := hi
    have mk26 : 0 ≤ (0 + ((i : Nat) : Int) + cell) % 26 ∧ (0 + ((i : Nat) : Int) + cell) % 26 < 26 := ⟨Int.emod_nonneg _ (by decide), Int.emod_lt_of_pos _ (by decide)⟩
    refine ⟨_, rfl, .inl ⟨rfl, _, SqL.of hT.g⟩, _, rfl, _, rfl, _, rfl, _, _, rfl, rfl, _, _, rfl, rfl, (show (0 : Int) < 26 by decide), abc, _, _, rfl, rfl, (by decide +kernel), abc_at _ mk26.1 mk26.2, _, rfl, _, rfl, _, _, rfl, rfl, (show (0 : Int) < 26 by decide), abc, _, _, rfl, rfl, (by decide +kernel), abc_at _ m26.1 m26.2, _, rfl, cell, rfl, log_amt aok, (by show 2 ≤ sizeLine; decide), fun w1 hw1 => ?_⟩
    have M1 := (HM.new (A := []) (B := []) (H := H1) ⟨List.nodup_nil, (fun _ z => by cases z)⟩ hw1 (.lst ([wrd [cell % 26], intS cell].map V.str)))
    have s1 := same_upd hw1 (.lst ([wrd [cell % 26], intS cell].map V.str))
    generalize hH2 : upd H1 w1 (.lst ([wrd [cell % 26], intS cell].map V.str)) = H2 at M1 s1
    rw [show upd H1 w1 (.lst [V.str ⟨#[lt1 (cell % 26)]⟩, V.str (Str.ofString (toString cell))]) = H2 from hH2]
    refine ⟨(by show 1 ≤ sizeLine; decide), fun wa hwa => ?_⟩
    have M2 := HM.new (A := []) (B := [(w1, HO.lst ([wrd [cell % 26], intS cell].map V.str))]) M1 hwa (.lst [V.ref w1])
    have s2 := same_upd hwa (.lst [V.ref w1])
    generalize upd H2 wa (.lst [V.ref w1]) = H3 at M2 s2 ⊢
    refine ⟨(by show 3 ≤ sizeLine; decide), fun pa hpa => ?_⟩
    have M3 := HM.new (A := []) (B := (wa, HO.lst [V.ref w1]) :: [(w1, HO.lst ([wrd [cell % 26], intS cell].map V.str))]) M2 hpa (.lst [V.str (nmC cell i), .str (sgS 1), .ref wa])
    have s3 := same_upd hpa (.lst [V.str (nmC cell i), .str (sgS 1), .ref wa])
    have e0 : (⟨#[lt1 ((0 + ((i : Nat) : Int) + cell) % 26)]⟩ : Str) = nmC cell i := by rw [Int.zero_add]; rfl
    rw [e0]
    generalize hH4 : upd H3 pa (.lst [V.str (nmC cell i), .str (sgS 1), .ref wa]) = H4 at M3 s3
    rw [show upd H3 pa (.lst [V.str (nmC cell i), V.str "-", V.ref wa]) = H4 from hH4]
    have s14 := s1.trans (s2.trans s3)
    have f1 : H1 w1 = none := hw1
    have f2 : H1 wa = none := s1.free hwa
    have f3 : H1 pa = none := (s1.trans s2).free hpa
    have hPE : HM H4 (pE (PD.mk pa (nmC cell i) (sgS 1) wa [(w1, [wrd [cell % 26], intS cell])])) := M3
    have hn : ∀ x ∈ pE (PD.mk pa (nmC cell i) (sgS 1) wa [(w1, [wrd [cell % 26], intS cell])]), H1 x.1 = none := fun x hx => by
      rcases List.mem_cons.mp hx with rfl | hx
      · exact f3
      rcases List.mem_cons.mp hx with rfl | hx
      · exact f2
      · rw [List.mem_singleton.mp hx]; exact f1
    have hP := HT.push hT s14 hPE hn
    refine ⟨g, _, _, rfl, rfl, s14 _ _ hT.g, smlt (m := 100) (by rw [List.length_map]; omega), ?_⟩
    refine ⟨ps ++ [PD.mk pa (nmC cell i) (sgS 1) wa [(w1, [wrd [cell % 26], intS cell])]], _, rfl, hP, ?_, fun b o nb e => ?_, fun x hx => ?_⟩
    · rw [List.range_succ, List.map_append]
      exact L2.Paired.app isp (.cons ⟨rfl, rfl, rfl⟩ .nil)
    · rw [upd_ne nb]; exact s14 _ _ (kp b o nb e)
    · have hx' : x.1 = g ∨ x ∈ (ps.map pE).flatten ∨ x ∈ pE (PD.mk pa (nmC cell i) (sgS 1) wa [(w1, [wrd [cell % 26], intS cell])]) := by
        rcases List.mem_cons.mp hx with rfl | hx
        · exact .inl rfl
        · rw [List.map_append, List.flatten_append] at hx
          rcases List.mem_append.mp hx with hx | hx
          · exact .inr (.inl hx)
          · refine .inr (.inr ?_)
            simpa using hx
      rcases hx' with e | hx | hx
      · exact .inl e
      · exact fr x (List.mem_cons_of_mem _ hx)
      · by_cases eg : x.1 = g
        · exact .inl eg
        · refine .inr ?_
          cases e : H x.1 with
          | none => rfl
          | some o => have h2 := hn x hx; rw [kp x.1 o eg e] at h2; cases h2
  obtain ⟨ps, y, rfl, hT, isp, kp, fr⟩ := h
  replace isp : Paired IsP ps ((List.range 17).map (dC cell)) := isp
  have M : M17 cell ((List.range 17).map (dC cell)) := by
    refine ⟨by unfold pnms; rw [List.map_map]; rfl, fun d hd => ?_, fun d hd x hx => ?_⟩
    · obtain ⟨k, _, rfl⟩ := List.mem_map.mp hd
      refine ⟨nmc_name cell k, .inr rfl, fun x hx => ?_, by show 1 ≤ 3; decide⟩
      rw [List.mem_singleton.mp hx]
      obtain ⟨j, _, e⟩ := List.mem_map.mp (nmc_way cell)
      exact ⟨by show isName (wrd [cell % 26]) = true; rw [← e]; exact nmc_name _ _, aok⟩
    · obtain ⟨k, _, rfl⟩ := List.mem_map.mp hd
      rw [List.mem_singleton.mp hx]
  generalize (List.range 17).map (dC cell) = ds at isp M
  have pl : ps.length = 17 := by rw [pr_len isp, M.len]
  have a17 : 0 ≤ cell / 26 % 17 ∧ cell / 26 % 17 < 17 := ⟨Int.emod_nonneg _ (by decide), Int.emod_lt_of_pos _ (by decide)⟩
  have b17 : 0 ≤ (cell / 26 + 1) % 17 ∧ (cell / 26 + 1) % 17 < 17 := ⟨Int.emod_nonneg _ (by decide), Int.emod_lt_of_pos _ (by decide)⟩
  obtain ⟨n1, hn1⟩ := Int.eq_ofNat_of_zero_le a17.1
  obtain ⟨n2, hn2⟩ := Int.eq_ofNat_of_zero_le b17.1
  have nne : n1 ≠ n2 := by omega
  refine ⟨fun σ' H2 => ∃ (ps2 : List PD) (ds2 : List PPTy), σ' = [some (.ref g), some (.int kind), some (.int cell), some (.str abc), y] ∧ HT H2 g ps2 ∧ Paired IsP ps2 ds2 ∧ M17 cell ds2 ∧ (∀ b o, b ≠ g → H b = some o → H2 b = some o) ∧ ∀ x ∈ tE g ps2, x.1 = g ∨ H x.1 = none, ?_, ?_⟩
  · refine ⟨_, rfl, rfl, _, rfl, ?_⟩
    rw [de]
    refine ite2 (fun _ => ?_) (fun _ => ?_)
    · obtain ⟨A, p, B, A', d, B', e1, e2, e3, q1, i1, q3⟩ := paired_mid (n := n1) isp (by omega)
      subst e1; subst e2; subst e3
      have pin : p ∈ A ++ p :: B := List.mem_append_right _ List.mem_cons_self
      obtain ⟨d1, d2, _⟩ := HT.part hT pin
      refine ⟨_, rfl, _, rfl, _, _, rfl, rfl, ⟨by decide, by decide⟩, _, _, rfl, rfl, (show (0 : Int) < 17 by decide), g, _, _, .ref p.a, rfl, rfl, SqL.of hT.g, (by rw [hn1]; exact atI_nat (j := A.length) (by rw [List.getElem?_map, mid_at]; rfl)), p.a, _, _, .ref p.wa, rfl, rfl, SqL.of d1, atI_nat (j := 2) rfl, .inl ⟨rfl, _, SqL.of d2⟩, p.wa, _, rfl, rfl, d2, ?_⟩
      have hmem : ∀ x ∈ pE p, x ∈ tE g (A ++ p :: B) := fun x hx => List.mem_cons_of_mem _ (List.mem_flatten.mpr ⟨pE p, List.mem_map.mpr ⟨p, pin, rfl⟩, hx⟩)
      refine ⟨A ++ { p with ws := [] } :: B, A' ++ (d.1, d.2.1, []) :: B', rfl, HT.wclear hT, L2.Paired.app q1 (.cons ⟨i1.1, i1.2.1, rfl⟩ q3), ⟨?_, fun x hx => ?_, fun x hx u hu => ?_⟩, fun b o nb e => ?_, fun x hx => ?_⟩
      · rw [← M.nm, pnms_mid, pnms_mid]
      · rcases List.mem_append.mp hx with hx | hx
        · exact M.ok x (List.mem_append_left _ hx)
        rcases List.mem_cons.mp hx with rfl | hx
        · exact pok_clr (M.ok d (List.mem_append_right _ List.mem_cons_self))
        · exact M.ok x (List.mem_append_right _ (List.mem_cons_of_mem _ hx))
      · rcases List.mem_append.mp hx with hx | hx
        · exact M.inn x (List.mem_append_left _ hx) u hu
        rcases List.mem_cons.mp hx with rfl | hx
        · cases hu
        · exact M.inn x (List.mem_append_right _ (List.mem_cons_of_mem _ hx)) u hu
      · have f := fr (p.wa, _) (hmem _ (List.mem_cons_of_mem _ List.mem_cons_self))
        rw [upd_ne (fun z => by
          rcases f with f | f
          · exact nb (z.trans f)
          · rw [z, f] at e; cases e)]
        exact kp b o nb e
      · rw [tE_at] at hx
        have key : ∀ z ∈ tE g (A ++ p :: B), z.1 = x.1 → x.1 = g ∨ H x.1 = none := fun z hz e => by rw [← e]; exact fr z hz
        rcases List.mem_append.mp hx with hx | hx
        · rcases List.mem_cons.mp hx with rfl | hx
          · exact .inl rfl
          · exact fr x (List.mem_cons_of_mem _ (by rw [List.map_append, List.flatten_append]; exact List.mem_append_left _ hx))
        rcases List.mem_append.mp hx with hx | hx
        · rcases List.mem_cons.mp hx with rfl | hx
          · exact key _ (hmem _ List.mem_cons_self) rfl
          rcases List.mem_cons.mp hx with rfl | hx
          · exact key _ (hmem _ (List.mem_cons_of_mem _ List.mem_cons_self)) rfl
          · cases hx
        · exact fr x (List.mem_cons_of_mem _ (by rw [List.map_append, List.flatten_append, List.map_cons, List.flatten_cons]; exact List.mem_append_right _ (List.mem_append_right _ hx)))
    · exact ⟨ps, ds, rfl, hT, isp, M, kp, fr⟩
  clear hT isp M kp fr
  rintro σ' H2 ⟨ps2, ds2, rfl, hT, isp, M, kp, fr⟩
  have pl2 : ps2.length = 17 := by rw [pr_len isp, M.len]
  refine ⟨_, rfl, _, _, rfl, rfl, ⟨by decide, by decide⟩, _, _, rfl, rfl, (show (0 : Int) < 2 by decide), rfl, _, rfl, ?_⟩
  refine ite2 (fun _ => ?_) (fun _ => ?_)
  rotate_left
  · refine q ps2 ds2 "TooMany" H2 hT isp M.len M.ok (.inr ⟨by rw [M.nm]; exact nmc_nd cell, fun d hd x hx => ?_, .inl ⟨rfl, by rw [M.len]; decide⟩⟩) (by decide) kp
    rw [M.inn d hd x hx, M.nm]
    exact nmc_way cell
  obtain ⟨pm, hpm⟩ : ∃ pm, ps2[n2]? = some pm := ⟨_, List.getElem?_eq_getElem (by omega)⟩
  obtain ⟨dm, hdm, ispm⟩ := L2.Paired.at isp hpm
  have hnB : (pnms ds2)[n2]? = some dm.1 := by unfold pnms; rw [List.getElem?_map, hdm]; rfl
  have pmin := List.mem_of_getElem? hpm
  obtain ⟨A, p, B, A', d, B', e1, e2, e3, q1, i1, q3⟩ := paired_mid (n := n1) isp (by omega)
  have eA : A'.length = n1 := by rw [← pr_len q1, e3]
  have hpa : ps2[n1]? = some p := by rw [e1, ← e3]; exact mid_at
  have pin : p ∈ ps2 := List.mem_of_getElem? hpa
  obtain ⟨d1, d2, _⟩ := HT.part hT pin
  refine ⟨_, rfl, _, rfl, _, _, rfl, rfl, ⟨by decide, by decide⟩, _, _, rfl, rfl, _, _, rfl, rfl, (show (0 : Int) < 17 by decide), g, _, _, .ref pm.a, rfl, rfl, SqL.of hT.g, (by rw [hn2]; exact atI_nat (j := n2) (by rw [List.getElem?_map, hpm]; rfl)), pm.a, _, _, .str pm.nm, rfl, rfl, SqL.of (HT.part hT pmin).1, atI_nat (j := 0) rfl, _, rfl, _, rfl, _, _, rfl, rfl, ⟨by decide, by decide⟩, _, _, rfl, rfl, (show (0 : Int) < 17 by decide), g, _, _, .ref p.a, rfl, rfl, SqL.of hT.g, (by rw [hn1]; exact atI_nat (j := n1) (by rw [List.getElem?_map, hpa]; rfl)), p.a, _, 0, 0, rfl, rfl, d1, rfl, ?_⟩
  have hT0 : HT H2 g (A ++ p :: B) := by rw [← e1]; exact hT
  have f := fr (p.a, _) (List.mem_cons_of_mem _ (List.mem_flatten.mpr ⟨pE p, List.mem_map.mpr ⟨p, pin, rfl⟩, List.mem_cons_self⟩))
  have dmem : d ∈ ds2 := by rw [e2]; exact List.mem_append_right _ List.mem_cons_self
  refine q (A ++ { p with nm := pm.nm, sg := p.sg } :: B) (A' ++ (dm.1, d.2) :: B') "NoName" _ (HT.head hT0 pm.nm p.sg) (L2.Paired.app q1 (.cons ⟨ispm.1, i1.2.1, i1.2.2⟩ q3)) (by rw [← M.len, e2]; simp) (fun x hx => ?_) (.inl ⟨rfl, .inl ?_⟩) (by decide) fun b o nb e => ?_
  · rcases List.mem_append.mp hx with hx | hx
    · exact M.ok x (by rw [e2]; exact List.mem_append_left _ hx)
    rcases List.mem_cons.mp hx with rfl | hx
    · exact ⟨(M.ok dm (List.mem_of_getElem? hdm)).nm, (M.ok d dmem).h, (M.ok d dmem).ws, (M.ok d dmem).l⟩
    · exact M.ok x (by rw [e2]; exact List.mem_append_right _ (List.mem_cons_of_mem _ hx))
  · have ens : pnms (A' ++ (dm.1, d.2) :: B') = (pnms ds2).set n1 dm.1 := by
      rw [e2, ← eA, pnms_mid, pnms_mid, show A'.length = (pnms A').length from (List.length_map _).symm, mid_set]
    rw [ens]
    exact twice nne (List.getElem?_set_self (by unfold pnms; rw [List.length_map, M.len]; omega)) (by rw [List.getElem?_set_ne nne]; exact hnB)
  · rw [upd_ne (fun z => by
      rcases f with f | f
      · exact nb (z.trans f)
      · rw [z, f] at e; cases e)]
    exact kp b o nb e
def Due (K : PySem.W.Frag) (H : Hp) (v : V) (x : Str) : Prop := ((∃ S, kindV H v S ∧ PySem.W.kitOne K (.type S) (.type "str") = some false) ∧ x = "NoText") ∨ ∃ s, v = .str s ∧ s.length ≤ 50000 ∧ ((x = "NoText" ∧ ∀ ps, ¬ FormP s ps) ∨ ∃ ps, FormP s ps ∧ ps.length ≤ 17 ∧ (∀ p ∈ ps, POk p) ∧ PDue ps x)
theorem due_sp {H : Hp} {v : V} {x : Str} {Q : VK} {E : XK} (h : Due K H v x) (q : ∀ H', Same H H' → E (.ref (clK K x)) none H') : spReadPX K [v] H Q E := by
  rcases h with ⟨⟨S, hk, kt⟩, rfl⟩ | ⟨s, rfl, hs, ⟨rfl, no⟩ | ⟨ps, f, l17, ok, due⟩⟩
  · exact ⟨v, rfl, .inl ⟨S, hk, kt, q⟩⟩
  · exact ⟨_, rfl, .inr ⟨s, rfl, hs, fun _ => q, fun ps f => absurd f (no ps)⟩⟩
  · refine ⟨_, rfl, .inr ⟨s, rfl, hs, fun no => absurd f (no ps), fun ps' f' => ?_⟩⟩
    have e := formp_one f f'
    subst e
    refine ⟨by omega, fun p hp => by have := (ok p hp).l; omega, ?_⟩
    rcases due with ⟨rfl, nn | ⟨p, hp, y, hy, no⟩⟩ | ⟨nd, inn, ⟨rfl, hb⟩ | ⟨rfl, h16, r, hr, hb⟩⟩
    · exact ⟨fun _ => q, fun nd => absurd nd nn, fun nd => absurd nd nn⟩
    · exact ⟨fun _ => q, fun _ _ => q, fun _ z => absurd (z p hp y hy) no⟩
    · exact ⟨fun nn => absurd nd nn, fun _ ⟨p, hp, y, hy, no⟩ => absurd (inn p hp y hy) no, fun _ _ => ⟨fun _ => q, fun z => by omega, fun z => by omega⟩⟩
    · exact ⟨fun nn => absurd nd nn, fun _ ⟨p, hp, y, hy, no⟩ => absurd (inn p hp y hy) no, fun _ _ => ⟨fun z => by omega, fun _ _ => q, fun _ z => absurd (z r hr) hb⟩⟩
theorem idx_nd {ns l : List Str} (h : l.Nodup) (hs : ∀ x ∈ l, x ∈ ns) : (l.map fun x => ((ns.idxOf x : Nat) : Int)).Nodup := by
  unfold List.Nodup
  rw [List.pairwise_map]
  refine List.Pairwise.imp_of_mem (fun {a b} ha hb hne e => hne ?_) h
  have e' : ns.idxOf a = ns.idxOf b := by omega
  have h1 := List.getElem_idxOf (List.idxOf_lt_length_iff.mpr (hs a ha))
  have h2 := List.getElem_idxOf (List.idxOf_lt_length_iff.mpr (hs b hb))
  rw [← h1, ← h2]
  simp only [e']
theorem good_sp {H : Hp} {ps : List PPTy} {Q : VK} {E : XK} (gp : GP ps) (hne : ps ≠ []) (h6 : ps.length ≤ 6) (hl : (textW (ps.map itW)).length ≤ 50000) (q : ∀ (p : Addr) (xs : List V) (H' : Hp), Same H H' → H' p = some (.tup xs) → Q (.ref p) H') : spReadPX K [.str (textW (ps.map itW))] H Q E := by
  have f := formp_is hne gp.ok
  refine ⟨_, rfl, .inr ⟨_, rfl, hl, fun no => absurd f (no ps), fun ps' f' => ?_⟩⟩
  have e := formp_one f f'
  subst e
  have gd : ∀ r ∈ prows ps', PwGood r.2 := fun r hr => by
    obtain ⟨p, hp, rfl⟩ := List.mem_map.mp hr
    refine ⟨fun e => gp.ne p hp (List.map_eq_nil_iff.mp e), ?_⟩
    have e2 : ((prow (pnms ps') p).2.map fun w => w.1) = (p.2.2.map fun w => w.1).map fun x => (((pnms ps').idxOf x : Nat) : Int) := by
      show (p.2.2.map _).map _ = _
      rw [List.map_map, List.map_map]; rfl
    rw [e2]
    exact idx_nd (gp.un p hp) fun x hx => by
      obtain ⟨w, hw, rfl⟩ := List.mem_map.mp hx
      exact gp.inn p hp w hw
  exact ⟨by omega, fun p hp => by have := (gp.ok p hp).l; omega, fun nn => absurd gp.nd nn, fun _ ⟨p, hp, y, hy, no⟩ => absurd (gp.inn p hp y hy) no, fun _ _ => ⟨fun z => by omega, fun _ ⟨r, hr, z⟩ => absurd (gd r hr) z, fun _ _ => q⟩⟩
theorem kind_up {H H' : Hp} {v : V} {S : String} (s0 : Same H H') (hk : kindV H v S) : kindV H' v S := by
  cases v with
  | ref a =>
    rcases hk with ⟨e1, ⟨xs, hk⟩ | ⟨o, xs, hk⟩⟩ | ⟨e1, xs, hk⟩ | ⟨e1, kvs, hk⟩
    · exact .inl ⟨e1, .inl ⟨xs, s0 _ _ hk⟩⟩
    · exact .inl ⟨e1, .inr ⟨o, xs, s0 _ _ hk⟩⟩
    · exact .inr (.inl ⟨e1, xs, s0 _ _ hk⟩)
    · exact .inr (.inr ⟨e1, kvs, s0 _ _ hk⟩)
  | non => exact hk
  | bl b => exact hk
  | int i => exact hk
  | str z => exact hk
  | byt b => exact hk
  | flt b => exact hk
  | ty n => exact hk
theorem Due.up {H H' : Hp} {v : V} {x : Str} (due : Due K H v x) (s0 : Same H H') : Due K H' v x := by
  rcases due with ⟨⟨S, hk, kt⟩, e⟩ | z
  · exact .inl ⟨⟨S, kind_up s0 hk, kt⟩, e⟩
  · exact .inr z
def mk6 (x : Str) : List Bool := [true, decide (x = "NoText"), decide (x = "NoName"), decide (x = "NoWay"), decide (x = "TooMany"), false]
theorem x4_in {x : Str} (h : x ∈ x4) : x ∈ xRs ∧ x ≠ "NoAmount" ∧ x ≠ "NoHand" := by
  simp only [List.mem_cons, List.not_mem_nil, or_false] at h
  rcases h with rfl | rfl | rfl | rfl <;> exact ⟨by decide, by decide, by decide⟩
def spMarks (K : PySem.W.Frag) : Sp := fun vs H Q _ => ∃ (v : V) (x : Str), vs = [v] ∧ Due K H v x ∧ x ∈ x4 ∧ ∀ (p : Addr) (H' : Hp), Same H H' → H' p = some (.lst ((mk6 x).map V.bl)) → Q (.ref p) H'
theorem ok_marks (F : DefAt K mg "_law_marks" s_law_marks ["_law_line"]) (T : Txt mg) (XC : XT K mg "GarthError" xRs xNs) (D_read_purses : DnX P w K mg base "read_purses" 7 ["text"] (spReadPX K)) : Dn P w K mg base "_law_marks" 8 ["_law_line"] (spMarks K) := by
  have sc := sc_law_marks
  refine F.ok sc (fun vs H Q E h => ?_) (fun f cdv A outer s H vs Q E hr h => ?_)
  · obtain ⟨_, _, rfl, _⟩ := h; rfl
  obtain ⟨v, x, rfl, due, hx4, q⟩ := h
  obtain ⟨hx, xa, xh⟩ := x4_in hx4
  refine ⟨_, (pss_cons (ps_set (i := 1) sc.nd rfl (Or.inl rfl) (pe_lst pa_nil))
      (pss_cons (ps_tryE (i := 2) D_read_purses hr (pa_cons (pv 0) pa_nil) (XC.m "GarthError" (by decide)) (fun _ => (pss_cons (ps_set (i := 1) sc.nd rfl (Or.inl rfl) (pe_lst (pa_cons (pe_callB (call_isiVK (T := "ValueError") (K := K) rfl) rfl T.b_isinstance PyProof.Rows.boot_isinstance (pa_cons (pv 2) (pa_cons (pe_bltn (v := .ty "ValueError") rfl T.b_ValueError boot_VE rfl) pa_nil))) (pa_cons (pe_callB (call_isiEK (K := K) rfl) rfl T.b_isinstance PyProof.Rows.boot_isinstance (pa_cons (pv 2) (pa_cons (pe_glob (v := .ref (clK K "NoText")) rfl (XC.m "NoText" (by decide)) rfl) pa_nil))) (pa_cons (pe_callB (call_isiEK (K := K) rfl) rfl T.b_isinstance PyProof.Rows.boot_isinstance (pa_cons (pv 2) (pa_cons (pe_glob (v := .ref (clK K "NoName")) rfl (XC.m "NoName" (by decide)) rfl) pa_nil))) (pa_cons (pe_callB (call_isiEK (K := K) rfl) rfl T.b_isinstance PyProof.Rows.boot_isinstance (pa_cons (pv 2) (pa_cons (pe_glob (v := .ref (clK K "NoWay")) rfl (XC.m "NoWay" (by decide)) rfl) pa_nil))) pa_nil))))))
      (pss_one (ps_set (i := 1) sc.nd rfl (Or.inl rfl) (pe_op op_cat (pv 1) (pe_lst (pa_cons (pe_callB (call_isiEK (K := K) rfl) rfl T.b_isinstance PyProof.Rows.boot_isinstance (pa_cons (pv 2) (pa_cons (pe_glob (v := .ref (clK K "TooMany")) rfl (XC.m "TooMany" (by decide)) rfl) pa_nil))) (pa_cons (pe_callB (call_isiTK (K := K) rfl) rfl T.b_isinstance PyProof.Rows.boot_isinstance (pa_cons (pv 2) (pa_cons (pe_tup (pa_cons (pe_glob (v := .ref (clK K "NoAmount")) rfl (XC.m "NoAmount" (by decide)) rfl) (pa_cons (pe_glob (v := .ref (clK K "NoHand")) rfl (XC.m "NoHand" (by decide)) rfl) pa_nil))) pa_nil))) pa_nil)))))))) sc.nd rfl rfl)
      (pss_one (ps_ret (pv 1))))), ?_⟩
  refine ⟨Nat.zero_le _, fun p0 h0 => ?_⟩
  have s0 := same_upd h0 (.lst [])
  have due' := due.up s0
  generalize upd H p0 (.lst []) = H0 at s0 due' ⊢
  refine ⟨_, rfl, ?_⟩
  unfold tNil
  refine due_sp due' fun H1 s1 => ?_
  refine ⟨_, rfl, XC.hit x hx, fun ea hea => ?_⟩
  have he : upd H1 ea (xcO ea (clK K x)) ea = some (xcO ea (clK K x)) := upd_same
  have s2 := s0.trans (s1.trans (same_upd hea (xcO ea (clK K x))))
  generalize upd H1 ea (xcO ea (clK K x)) = H2 at he s2 ⊢
  have k := XC.k x hx
  refine ⟨_, rfl, ea, _, _, rfl, he, k, XC.val x hx, _, rfl, ea, _, _, _, rfl, he, k, XC.one x hx "NoText" (by decide), _, rfl, ea, _, _, _, rfl, he, k, XC.one x hx "NoName" (by decide), _, rfl, ea, _, _, _, rfl, he, k, XC.one x hx "NoWay" (by decide), (by show 4 ≤ sizeLine; decide), fun p1 h1 => ?_⟩
  have s3 := same_upd h1 (.lst [V.bl true, .bl (decide (x = "NoText")), .bl (decide (x = "NoName")), .bl (decide (x = "NoWay"))])
  have k3 : upd H2 p1 (.lst [V.bl true, .bl (decide (x = "NoText")), .bl (decide (x = "NoName")), .bl (decide (x = "NoWay"))]) p1 = some (.lst [V.bl true, .bl (decide (x = "NoText")), .bl (decide (x = "NoName")), .bl (decide (x = "NoWay"))]) := upd_same
  replace he := s3 _ _ he
  replace s3 := s2.trans s3
  generalize upd H2 p1 (.lst [V.bl true, .bl (decide (x = "NoText")), .bl (decide (x = "NoName")), .bl (decide (x = "NoWay"))]) = H3 at s3 k3 he ⊢
  have kf : ∀ y ∈ xNs, x ≠ y → PySem.W.kitOne K (.ref (clK K x)) (.ref (clK K y)) = some false := fun y hy ne => by
    have h := XC.one x hx y hy
    rwa [decide_eq_false ne] at h
  refine ⟨_, rfl, _, rfl, ea, _, _, _, rfl, he, k, XC.one x hx "TooMany" (by decide), _, rfl, (by show 2 ≤ sizeLine; decide), fun tp htp => ?_⟩
  have s4 := same_upd htp (.tup [V.ref (clK K "NoAmount"), .ref (clK K "NoHand")])
  have k4 : upd H3 tp (.tup [V.ref (clK K "NoAmount"), .ref (clK K "NoHand")]) tp = some (.tup ([clK K "NoAmount", clK K "NoHand"].map V.ref)) := upd_same
  replace he := s4 _ _ he
  replace k3 := s4 _ _ k3
  replace s4 := s3.trans s4
  generalize upd H3 tp (.tup [V.ref (clK K "NoAmount"), .ref (clK K "NoHand")]) = H4 at s4 k4 k3 he ⊢
  refine ⟨ea, _, tp, _, rfl, he, k, k4, fun c hc => ?_, (by show 2 ≤ sizeLine; decide), fun p2 h2 => ?_⟩
  · simp only [List.mem_cons, List.not_mem_nil, or_false] at hc
    rcases hc with rfl | rfl
    · exact kf "NoAmount" (by decide) xa
    · exact kf "NoHand" (by decide) xh
  refine ⟨p1, p2, _, _, rfl, rfl, same_upd h2 _ _ _ k3, upd_same, (by show 6 ≤ sizeLine; decide), fun p3 h3 => ?_⟩
  exact ⟨_, rfl, q p3 _ (s4.trans ((same_upd h2 _).trans (same_upd h3 _))) upd_same⟩
def PreDue (K : PySem.W.Frag) (H : Hp) (v : V) (x : Str) : Prop := ((∃ S, kindV H v S ∧ PySem.W.kitOne K (.type S) (.type "str") = some false) ∧ x = "NoText") ∨ ∃ s, v = .str s ∧ s.length ≤ 20000 ∧ ((x = "NoText" ∧ BadT s) ∨ ∃ ps, s = textW (ps.map itW) ∧ ps ≠ [] ∧ ps.length ≤ 17 ∧ (∀ p ∈ ps, POk p) ∧ PDue ps x)
theorem pre_due {H : Hp} {v : V} {x : Str} (h : PreDue K H v x) : Due K H v x := by
  rcases h with z | ⟨s, e, hs, ⟨rfl, b⟩ | ⟨ps, rfl, hne, l17, ok, due⟩⟩
  · exact .inl z
  · exact .inr ⟨s, e, by omega, .inl ⟨rfl, badT_no b⟩⟩
  · exact .inr ⟨_, e, by omega, .inr ⟨ps, formp_is hne ok, l17, ok, due⟩⟩
theorem pre_suf {s t : Str} {H : Hp} {x : Str} (h : PreDue K H (.str s) x) (ht : t ∈ bad6) : ∀ ps, ¬ FormP (s ++ "; " ++ t) ps := by
  have el : ("; " ++ t : Str).cps.toList = 59 :: 32 :: t.cps.toList := by rw [app_list]; rfl
  have e1 : (s ++ "; " ++ t).cps.toList = s.cps.toList ++ (59 :: 32 :: t.cps.toList) := by rw [app_list, app_list, List.append_assoc]; rfl
  have ea : s ++ "; " ++ t = s ++ ("; " ++ t) := (str_list e1).trans (str_list (by rw [app_list, el])).symm
  rw [ea]
  rcases h with ⟨⟨S, hk, kt⟩, _⟩ | ⟨s', e, _, ⟨_, b⟩ | ⟨ps, rfl, hne, _, ok, _⟩⟩
  · have : S = "str" := hk
    subst this
    rw [isi_same] at kt
    cases kt
  · injection e with e
    subst e
    exact badT_end b (by rw [el]; exact .inr ⟨_, rfl⟩)
  · injection e with e
    subst e
    refine no_form ?_
    rw [app_list, runp_app, el, runp_cons, midP_59 (line_mid hne ok (.inl rfl)), runp_cons]
    exact (bad6_ok t ht).1
def spLaw (K : PySem.W.Frag) : Sp := fun vs H Q _ => ∃ (a : Addr) (ns : List Int), vs = [.ref a] ∧ SqL K H a (ns.map V.int) ∧ ns.length ≤ 63 ∧ ∀ H', Q (.bl true) H'
theorem ok_law {f : Addr} {fd : FuncData} (F : Fun K "law" "law" s_law f fd) (T : Txt mg) (D_read_purses : DnX P w K mg base "read_purses" 7 ["text"] (spReadPX K)) (D_law_cell_at : Dn P w K mg base "_law_cell_at" 1 ["_law_script", "_law_k"] (spCell K)) (D_law_parts : Dn P w K mg base "_law_parts" 2 ["_law_script", "_law_many_here"] (spParts K)) (D_law_text : Dn P w K mg base "_law_text" 1 ["_law_parts_here"] (spText K)) (D_law_spoiled_text : Dn P w K mg base "_law_spoiled_text" 2 ["_law_parts_here", "_law_kind", "_law_cell"] (spSpT K)) (D_law_spoiled_rows : Dn P w K mg base "_law_spoiled_rows" 1 ["_law_parts_here", "_law_kind", "_law_cell"] (spSpR K)) (D_law_many : Dn P w K mg base "_law_many" 1 ["_law_parts_here", "_law_kind", "_law_cell"] (spMany K)) (D_law_marks : Dn P w K mg base "_law_marks" 8 ["_law_line"] (spMarks K)) : FnOk P w K mg base CX0 9 f fd ["_law_script"] (spLaw K) := by
  have sc := sc_law
  refine F.ok sc (fun vs H Q E h => ?_) (fun cdv A outer s H vs Q E hr h => ?_)
  · obtain ⟨_, _, rfl, _⟩ := h; rfl
  obtain ⟨sa, ns, rfl, hS, h63, q⟩ := h
  refine ⟨_, (pss_cons (ps_set (i := 1) sc.nd rfl (Or.inl rfl) (pe_op op_mod (pe_op op_mul (pe_dn D_law_cell_at hr (pa_cons (pv 0) (pa_cons pe_int pa_nil))) pe_int) pe_int))
      (pss_cons (ps_set (i := 2) sc.nd rfl (Or.inl rfl) (pe_dn D_law_parts hr (pa_cons (pv 0) (pa_cons (pe_op op_add pe_int (pe_op op_mod (pv 1) pe_int)) pa_nil))))
      (pss_cons (ps_set (i := 3) sc.nd rfl (Or.inl rfl) (pe_dn D_law_text hr (pa_cons (pv 2) pa_nil)))
      (pss_cons (ps_set (i := 4) sc.nd rfl (Or.inl rfl) (pe_op op_mod (pe_op op_fdiv (pv 1) pe_int) pe_int))
      (pss_cut (ps_if (pt_cmpR op_gt (pv 4) pe_int (nomark _))
      (pss_one (ps_set (i := 4) sc.nd rfl (Or.inl rfl) pe_int))
      pss_nil)
      (pss_cons (ps_set (i := 1) sc.nd rfl (Or.inl rfl) (pe_op op_mod (pe_op op_mul (pe_dn D_law_cell_at hr (pa_cons (pv 0) (pa_cons pe_int pa_nil))) pe_int) pe_int))
      (pss_cons (ps_set (i := 5) sc.nd rfl (Or.inr rfl) pe_str)
      (pss_cons (ps_set (i := 6) sc.nd rfl (Or.inl rfl) pe_non)
      (pss_cut (ps_if (pt_cmpR op_lt (pv 4) pe_int (nomark _))
      (pss_one (ps_set (i := 6) sc.nd rfl (Or.inl rfl) (pe_dn D_law_spoiled_text hr (pa_cons (pv 2) (pa_cons (pv 4) (pa_cons (pv 1) pa_nil))))))
      (pss_one (ps_if (pt_cmpR op_lt (pv 4) pe_int (nomark _))
      (pss_cons (ps_set (i := 5) sc.nd rfl (Or.inr rfl) (pe_dn D_law_spoiled_rows hr (pa_cons (pv 2) (pa_cons (pv 4) (pa_cons (pv 1) pa_nil)))))
      (pss_one (ps_set (i := 6) sc.nd rfl (Or.inl rfl) (pe_dn D_law_text hr (pa_cons (pv 2) pa_nil)))))
      (pss_cons (ps_set (i := 5) sc.nd rfl (Or.inr rfl) (pe_dn D_law_many hr (pa_cons (pv 2) (pa_cons (pv 4) (pa_cons (pv 1) pa_nil)))))
      (pss_one (ps_set (i := 6) sc.nd rfl (Or.inl rfl) (pe_dn D_law_text hr (pa_cons (pv 2) pa_nil))))))))
      (pss_cons (ps_set (i := 7) sc.nd rfl (Or.inl rfl) (pe_op op_mod (pe_dn D_law_cell_at hr (pa_cons (pv 0) (pa_cons pe_int pa_nil))) pe_int))
      (pss_cut (ps_if (PW.pt (pw_and (pt_cmpR op_eq (pv 7) pe_int (nomark _)) (pw_and1 (pt_val (pe_callB (clIsi (K := K) rfl (T := "str")) rfl T.b_isinstance PyProof.Rows.boot_isinstance (pa_cons (pv 6) (pa_cons (pe_bltn (v := .ty "str") rfl T.b_str PyProof.Rows.boot_str rfl) pa_nil)))))))
      (pss_cons (ps_set (i := 8) sc.nd rfl (Or.inl rfl) (pe_strs (Lits.cons (Lits.cons (Lits.cons (Lits.cons (Lits.cons (Lits.cons (Lits.cons Lits.nil)))))))))
      (pss_cons (ps_set (i := 6) sc.nd rfl (Or.inl rfl) (pe_op op_add_str (pe_op op_add_str (pv 6) pe_str) (pe_ix (ixL (K := K) rfl) (pv 8) (pe_op op_mod (pe_op op_fdiv (pe_dn D_law_cell_at hr (pa_cons (pv 0) (pa_cons pe_int pa_nil))) pe_int) pe_int) (fun _ _ => rfl))))
      (pss_one (ps_set (i := 5) sc.nd rfl (Or.inr rfl) pe_str))))
      pss_nil)
      (pss_cons (ps_set (i := 9) sc.nd rfl (Or.inl rfl) (pe_lst (pa_cons pe_str (pa_cons pe_str (pa_cons pe_str (pa_cons pe_str pa_nil))))))
      (pss_cons (ps_if (pt_cmpR (op_neR (rcok_lst eqok_bool) (hu_n hr 1)) (pe_dn D_law_marks hr (pa_cons (pv 6) pa_nil)) (pe_op op_cat (pe_op op_cat (pe_lst (pa_cons pe_bl pa_nil)) (pe_lc (defScope s_law) ["_law_script", "_law_cell", "_law_parts_here", "_law_good", "_law_kind", "_law_due", "_law_line", "_law_more", "_law_some", "_law_words"] ["_law_word", "_law_due"] 1 [5] (pi_list (pv 9)) (fun _ _ _ _ _ _ => (ptg_name (show List.Nodup (["_law_word", "_law_due"] : List Str) by decide +kernel) rfl rfl)) (fun _ _ _ _ _ _ => pts_nil) (fun _ _ _ _ _ _ => (pe_cmpR op_eq (pv 0) (pv 1) (nomark _))))) (pe_lst (pa_cons pe_bl pa_nil))) (nomark _))
      (pss_one (ps_ret pe_bl))
      pss_nil)
      (pss_one (ps_ret (pe_callB (clIsi (K := K) rfl (T := "tuple")) rfl T.b_isinstance PyProof.Rows.boot_isinstance (pa_cons (pe_dnX passX0 D_read_purses hr (pa_cons (pv 3) pa_nil)) (pa_cons (pe_bltn (v := .ty "tuple") rfl T.b_tuple PyProof.Rows.boot_tuple rfl) pa_nil)))))))))))))))))), ?_⟩
  refine ⟨_, rfl, sa, ns, 0, rfl, hS, h63, by decide, fun z0 => ⟨_, _, rfl, rfl, .inr ⟨by decide, by decide⟩, _, _, rfl, rfl, (show (0 : Int) < 65537 by decide), ?_⟩⟩
  have cb0 : 0 ≤ z0 * 48271 % 65537 ∧ z0 * 48271 % 65537 < 65537 := ⟨Int.emod_nonneg _ (by decide), Int.emod_lt_of_pos _ (by decide)⟩
  generalize hc : z0 * 48271 % 65537 = cell at cb0
  replace hc : (fun i j : Int => V.int (i % j)) (z0 * 48271) 65537 = V.int cell := by rw [← hc]
  rw [hc]
  clear hc
  have m5 : 0 ≤ cell % 5 ∧ cell % 5 < 5 := ⟨Int.emod_nonneg _ (by decide), Int.emod_lt_of_pos _ (by decide)⟩
  refine ⟨_, rfl, _, rfl, _, _, rfl, rfl, (show (0 : Int) < 5 by decide), _, _, rfl, rfl, sa, ns, 2 + cell % 5, rfl, hS, h63, by omega, by omega, fun g ps ds H1 s1 hT isp hfr pl gp => ?_⟩
  have pl2 : 2 ≤ ds.length ∧ ds.length ≤ 6 := by omega
  have ppl := pr_len isp
  have pne : ds ≠ [] := fun e => by rw [e] at pl2; simp at pl2
  refine ⟨_, rfl, g, ps, rfl, hT, by omega, isps_few isp gp.ok, fun H2 s2 gl => ?_⟩
  rw [wdss_is isp] at gl ⊢
  replace hT := HM.up hT s2
  have s02 := s1.trans s2
  have keep : ∀ {H3 : Hp}, Keep (tE g ps) H2 H3 → Same H H3 := fun {H3} k b o e => k b o (fun z => by
    obtain ⟨x, hx, rfl⟩ := List.mem_map.mp z
    rw [hfr x hx] at e; cases e) (s02 _ _ e)
  have keepg : ∀ {H3 : Hp}, (∀ b o, b ≠ g → H2 b = some o → H3 b = some o) → Same H H3 := fun {H3} k b o e => k b o (fun z => by rw [z, hfr (g, _) List.mem_cons_self] at e; cases e) (s02 _ _ e)
  refine ⟨_, rfl, _, _, rfl, rfl, ⟨by decide, by decide⟩, _, _, rfl, rfl, (show (0 : Int) < 20 by decide), ?_⟩
  have kb : 0 ≤ cell / 5 % 20 ∧ cell / 5 % 20 < 20 := ⟨Int.emod_nonneg _ (by decide), Int.emod_lt_of_pos _ (by decide)⟩
  generalize hk : cell / 5 % 20 = kind0 at kb
  replace hk : (fun i j : Int => V.int (i % j)) (cell / 5) 20 = V.int kind0 := by rw [← hk]
  rw [hk]
  clear hk
  refine ⟨fun σ' H3 => ∃ kind : Int, σ' = [some (.ref sa), some (.int cell), some (.ref g), some (.str (textW (ds.map itW))), some (.int kind), none, none, none, none, none] ∧ H3 = H2 ∧ 0 ≤ kind ∧ kind ≤ 15, ?_, ?_⟩
  · refine ⟨_, rfl, _, _, rfl, rfl, _, rfl, ?_⟩
    refine ite2 (fun cc => ?_) (fun cc => ?_)
    · exact ⟨3, rfl, rfl, by decide, by decide⟩
    · have : ¬ (15 : Int) < kind0 := fun z => cc (decide_eq_true z)
      exact ⟨kind0, rfl, rfl, kb.1, by omega⟩
  clear kb
  rintro σ' H3 ⟨kind, rfl, rfl, kb⟩
  refine ⟨_, rfl, sa, ns, 2, rfl, s02.seq hS, h63, by decide, fun z1 => ⟨_, _, rfl, rfl, .inr ⟨by decide, by decide⟩, _, _, rfl, rfl, (show (0 : Int) < 65521 by decide), ?_⟩⟩
  have cb : 0 ≤ z1 * 30011 % 65521 ∧ z1 * 30011 % 65521 < 65521 := ⟨Int.emod_nonneg _ (by decide), Int.emod_lt_of_pos _ (by decide)⟩
  generalize hc : z1 * 30011 % 65521 = c at cb
  replace hc : (fun i j : Int => V.int (i % j)) (z1 * 30011) 65521 = V.int c := by rw [← hc]
  rw [hc]
  clear hc
  refine ⟨fun σ' H4 => ∃ (v : V) (x : Str), σ' = [some (.ref sa), some (.int c), some (.ref g), some (.str (textW (ds.map itW))), some (.int kind), some (.str x), some v, none, none, none] ∧ Same H H4 ∧ PreDue K H4 v x ∧ x ∈ x4, ?_, ?_⟩
  · refine ⟨_, rfl, _, _, rfl, rfl, _, rfl, ?_⟩
    refine ite2 (fun cc => ?_) (fun cc => ?_)
    · have c' : kind < 8 := of_decide_eq_true cc
      refine ⟨_, rfl, _, rfl, _, rfl, g, kind, c, ps, ds, rfl, hT, isp, gp, pl2.1, pl2.2, kb.1, c', cb.1, cb.2, fun v H4 bv kp => ?_⟩
      refine ⟨v, "NoText", rfl, keep kp, ?_, by decide⟩
      rcases bv with bv | ⟨s, e, hs, b⟩
      · exact .inl ⟨bv, rfl⟩
      · exact .inr ⟨s, e, hs, .inl ⟨rfl, b⟩⟩
    have c7 : ¬ kind < 8 := fun z => cc (decide_eq_true z)
    refine ⟨_, rfl, _, _, rfl, rfl, _, rfl, ?_⟩
    refine ite2 (fun cc => ?_) (fun cc => ?_)
    · have c' : kind < 14 := of_decide_eq_true cc
      refine ⟨_, rfl, _, rfl, _, rfl, g, kind, c, ps, ds, rfl, hT, isp, gp, pl2.1, pl2.2, by omega, c', cb.1, cb.2, fun ps' qs x H4 hT4 isp4 ql ok due hx kp => ?_⟩
      refine ⟨_, rfl, g, ps', rfl, hT4, by rw [pr_len isp4]; omega, isps_few isp4 ok, fun H5 s5 tl => ?_⟩
      rw [wdss_is isp4] at tl ⊢
      exact ⟨_, x, rfl, (keep kp).trans s5, .inr ⟨_, rfl, by omega, .inr ⟨qs, rfl, fun e => by rw [e] at ql; simp at ql; omega, by omega, ok, due⟩⟩, hx⟩
    · refine ⟨_, rfl, _, rfl, _, rfl, g, _, kind, c, rfl, HT.g hT, cb.1, cb.2, fun ps' qs x H4 hT4 isp4 ql ok due hx kp => ?_⟩
      refine ⟨_, rfl, g, ps', rfl, hT4, by rw [pr_len isp4]; omega, isps_few isp4 ok, fun H5 s5 tl => ?_⟩
      rw [wdss_is isp4] at tl ⊢
      exact ⟨_, x, rfl, (keepg kp).trans s5, .inr ⟨_, rfl, by omega, .inr ⟨qs, rfl, fun e => by rw [e] at ql; simp at ql, by omega, ok, due⟩⟩, hx⟩
  rintro σ' H4 ⟨v, x, rfl, s3, pre, hx⟩
  clear hT
  refine ⟨_, rfl, sa, ns, 3, rfl, s3.seq hS, h63, by decide, fun z2 => ⟨_, _, rfl, rfl, (show (0 : Int) < 4 by decide), ?_⟩⟩
  refine ⟨fun σ' H5 => ∃ (v : V) (x : Str) (y : Option V), σ' = [some (.ref sa), some (.int c), some (.ref g), some (.str (textW (ds.map itW))), some (.int kind), some (.str x), some v, some (.int (z2 % 4)), y, none] ∧ Same H H5 ∧ Due K H5 v x ∧ x ∈ x4, ?_, ?_⟩
  · refine ⟨_, rfl, rfl, _, rfl, ?_⟩
    rw [de]
    refine ite2 (fun cc => ?_) (fun cc => ?_)
    rotate_left
    · refine iteF ?_
      exact ⟨v, x, _, rfl, s3, pre_due pre, hx⟩
    rcases id pre with ⟨⟨S, hk, kt⟩, _⟩ | ⟨s, rfl, hs, _⟩
    · refine ⟨_, rfl, _, S, _, rfl, hk, kt, false, rfl, ?_⟩
      refine iteF ?_
      exact ⟨v, x, _, rfl, s3, pre_due pre, hx⟩
    · refine ⟨_, rfl, _, "str", _, rfl, rfl, isi_same _, true, rfl, ?_⟩
      refine iteT ?_
      have e2 : ("; " : Str).length = 2 := by decide +kernel
      refine ⟨(by show 7 ≤ sizeLine; decide), fun wp hwp => ?_⟩
      have s4 := s3.trans (same_upd hwp (.lst (bad6.map V.str)))
      have k4 : upd H4 wp (.lst (bad6.map V.str)) wp = some (.lst (bad6.map V.str)) := upd_same
      generalize upd H4 wp (.lst (bad6.map V.str)) = H5 at s4 k4 ⊢
      refine ⟨_, rfl, _, _, rfl, rfl, small (m := 100000) (by rw [e2]; omega), _, rfl, _, rfl, sa, ns, 3, rfl, s4.seq hS, h63, by decide, fun z3 => ?_⟩
      obtain ⟨t, ht, hm, _⟩ := pick (l := bad6) (n := z3 / 4 % 7) (Int.emod_nonneg _ (by decide)) (Int.emod_lt_of_pos _ (by decide))
      have t2 := (bad6_ok t hm).2
      refine ⟨_, _, rfl, rfl, ⟨by decide, by decide⟩, _, _, rfl, rfl, (show (0 : Int) < 7 by decide), wp, _, _, .str t, rfl, rfl, SqL.of k4, ht, _, _, rfl, rfl, small (m := 100000) (by rw [app_len, e2]; omega), ?_⟩
      exact ⟨.str (s ++ "; " ++ t), "NoText", _, rfl, s4, .inr ⟨_, rfl, by rw [app_len, app_len, e2]; omega, .inl ⟨rfl, pre_suf pre hm⟩⟩, by decide⟩
  clear pre hx s3
  rintro σ' H5 ⟨v, x, y8, rfl, s4, due, hx⟩
  refine ⟨(by show 4 ≤ sizeLine; decide), fun wp hwp => ?_⟩
  have k5 : upd H5 wp (.lst (x4.map V.str)) wp = some (.lst (x4.map V.str)) := upd_same
  have due5 := due.up (same_upd hwp (.lst (x4.map V.str)))
  generalize hH6 : upd H5 wp (.lst (x4.map V.str)) = H6 at k5 due5
  rw [show upd H5 wp (.lst [V.str "NoText", .str "NoName", .str "NoWay", .str "TooMany"]) = H6 from hH6]
  refine ⟨_, rfl, v, x, rfl, due5, hx, fun p H7 s6 kp => ?_⟩
  replace k5 := s6 _ _ k5
  refine ⟨(by show 1 ≤ sizeLine; decide), fun p1 h1 => ?_⟩
  have s7 := same_upd h1 (.lst [V.bl true])
  have k7 : upd H7 p1 (.lst [V.bl true]) p1 = some (.lst [V.bl true]) := upd_same
  replace k5 := s7 _ _ k5
  replace kp := s7 _ _ kp
  generalize upd H7 p1 (.lst [V.bl true]) = H8 at s7 k7 k5 kp ⊢
  refine ⟨_, rfl, wp, rfl, ⟨_, SqL.of k5⟩, comp_listD (K := K) (a := wp) (xs := x4.map V.str) (fun i ys H3 => H3 = H8 ∧ ys = ((x4.take i).map fun w => decide (x = w)).map V.bl) ⟨rfl, rfl⟩ (small (m := 1000) (by show 4 ≤ 1000; decide)) (fun i ys H3 hi h => ?_) (fun i u ys H3 hi h => ?_) (fun ys H3 h lb hlb => ?_)⟩
  · obtain ⟨rfl, rfl⟩ := h
    exact ⟨SqL.of k5, by rw [List.length_map, List.length_map, List.length_take]; exact Nat.min_le_left _ _⟩
  · obtain ⟨rfl, rfl⟩ := h
    rw [List.getElem?_map] at hi
    obtain ⟨t, ht, rfl⟩ : ∃ t, x4[i]? = some t ∧ u = V.str t := by
      cases e : x4[i]? with
      | none => rw [e] at hi; cases hi
      | some z => rw [e] at hi; cases hi; exact ⟨z, rfl, rfl⟩
    refine comp_yes ⟨_, rfl, _, rfl, rfl, rfl, ?_⟩
    rw [List.take_add_one, ht, List.map_append, List.map_append, sw]
    have : decide (t = x) = decide (x = t) := by rw [Bool.eq_iff_iff, decide_eq_true_eq, decide_eq_true_eq]; exact eq_comm
    rw [this]; rfl
  obtain ⟨rfl, rfl⟩ := h
  have s8 := same_upd hlb (.lst ((x4.map fun w => decide (x = w)).map V.bl))
  have k8 : upd H3 lb (.lst ((x4.map fun w => decide (x = w)).map V.bl)) lb = some (.lst ((x4.map fun w => decide (x = w)).map V.bl)) := upd_same
  replace k7 := s8 _ _ k7
  replace kp := s8 _ _ kp
  refine ⟨p1, lb, _, _, rfl, rfl, k7, k8, (by show 5 ≤ sizeLine; decide), fun p2 h2 => ?_⟩
  have s9 := same_upd h2 (.lst ([V.bl true] ++ (x4.map fun w => decide (x = w)).map V.bl))
  have kp9 := s9 _ _ kp
  refine ⟨(by show 1 ≤ sizeLine; decide), fun p3 h3 => ?_⟩
  refine ⟨p2, p3, _, _, rfl, rfl, same_upd h3 _ _ _ upd_same, upd_same, (by show 6 ≤ sizeLine; decide), fun p4 h4 => ?_⟩
  have kp' := ((same_upd h3 (.lst [V.bl false])).trans (same_upd h4 (.lst (([V.bl true] ++ (x4.map fun w => decide (x = w)).map V.bl) ++ [V.bl false])))) _ _ kp9
  refine ⟨mk6 x, ⟨p, _, rfl, kp', paired_map (F := rBool _) (f := V.bl) (fun _ => rfl) _⟩, ⟨p4, _, rfl, upd_same, paired_map (F := rBool _) (f := V.bl) (fun _ => rfl) (mk6 x)⟩, _, rfl, iteF ?_⟩
  refine ⟨_, rfl, ?_⟩
  unfold tNil
  refine good_sp gp pne pl2.2 (by omega) fun rp xs H9 s9 h9 => ?_
  exact ⟨_, "tuple", _, rfl, .inr (.inl ⟨rfl, _, h9⟩), isi_same _, q H9⟩
theorem main {f : Addr} {fd : FuncData} (T : Txt mg)
    (XC : XT K mg "GarthError" xRs xNs)
    (A_is_whole : DefAt K mg "is_whole" s_is_whole ["value"])
    (A_is_place : DefAt K mg "is_place" s_is_place ["value", "count"])
    (A_check_hand : DefAt K mg "check_hand" s_check_hand ["hand"])
    (A_check_ways : DefAt K mg "check_ways" s_check_ways ["ways", "count"])
    (A_check_purse_ways : DefAt K mg "check_purse_ways" s_check_purse_ways ["ways", "count"])
    (A_check_amounts : DefAt K mg "check_amounts" s_check_amounts ["ways"])
    (A_check_purse_rows : DefAt K mg "check_purse_rows" s_check_purse_rows ["rows"])
    (A_purse_game : DefAt K mg "purse_game" s_purse_game ["rows"])
    (A_is_made_of : DefAt K mg "is_made_of" s_is_made_of ["word", "signs", "most"])
    (A_is_name : DefAt K mg "is_name" s_is_name ["word"])
    (A_is_figures : DefAt K mg "is_figures" s_is_figures ["word", "most"])
    (A_is_amount : DefAt K mg "is_amount" s_is_amount ["word"])
    (A_check_form : DefAt K mg "check_form" s_check_form ["right"])
    (A_places_told : DefAt K mg "places_told" s_places_told ["text"])
    (A_read_head : DefAt K mg "read_head" s_read_head ["word"])
    (A_read_purse_way : DefAt K mg "read_purse_way" s_read_purse_way ["word"])
    (A_read_purse_place : DefAt K mg "read_purse_place" s_read_purse_place ["text"])
    (A_numbered : DefAt K mg "numbered" s_numbered ["names"])
    (A_number_of : DefAt K mg "number_of" s_number_of ["numbers", "name"])
    (A_read_purses : DefAt K mg "read_purses" s_read_purses ["text"])
    (A_law_cell_at : DefAt K mg "_law_cell_at" s_law_cell_at ["_law_script", "_law_k"])
    (A_law_parts : DefAt K mg "_law_parts" s_law_parts ["_law_script", "_law_many_here"])
    (A_law_text : DefAt K mg "_law_text" s_law_text ["_law_parts_here"])
    (A_law_spoiled_text : DefAt K mg "_law_spoiled_text" s_law_spoiled_text ["_law_parts_here", "_law_kind", "_law_cell"])
    (A_law_spoiled_rows : DefAt K mg "_law_spoiled_rows" s_law_spoiled_rows ["_law_parts_here", "_law_kind", "_law_cell"])
    (A_law_many : DefAt K mg "_law_many" s_law_many ["_law_parts_here", "_law_kind", "_law_cell"])
    (A_law_marks : DefAt K mg "_law_marks" s_law_marks ["_law_line"])
    (F : Fun K "law" "law" s_law f fd) : FnOk P w K mg base CX0 9 f fd ["_law_script"] (spLaw K) := by
  have wh := ok_is_whole (P := P) (w := w) (base := base) A_is_whole T
  have pl := ok_is_place A_is_place T wh
  have go := ok_purseX A_purse_game T XC (ok_cprX A_check_purse_rows T XC (ok_check_hand A_check_hand T XC wh) (ok_cpwX A_check_purse_ways T XC (ok_check_ways A_check_ways T XC pl)) (ok_caX A_check_amounts T XC wh))
  have md := ok_made (P := P) (w := w) (base := base) A_is_made_of T
  have nm := ok_name A_is_name T md
  have am := ok_amtX A_is_amount T (ok_fig A_is_figures T md)
  have fo := ok_formX (P := P) (w := w) (base := base) A_check_form T XC
  have rg := ok_readPX A_read_purses T (ok_toldX A_places_told T fo) (ok_pplX A_read_purse_place T (ok_headX A_read_head T fo nm) fo (ok_pwayX A_read_purse_way T fo nm am)) (ok_numberedX A_numbered T XC) (ok_numofX A_number_of T XC) go
  have ce := ok_cell (P := P) (w := w) (base := base) A_law_cell_at T
  have te := ok_text (P := P) (w := w) (base := base) A_law_text T
  exact ok_law F T rg ce (ok_parts A_law_parts T ce) te (ok_spT A_law_spoiled_text T te) (ok_spR A_law_spoiled_rows T) (ok_many A_law_many T) (ok_marks A_law_marks T XC rg)
end
def askedOf := ({ ks := [(.df "is_whole", s_is_whole, none), (.df "is_place", s_is_place, none), (.df "check_hand", s_check_hand, none), (.df "check_ways", s_check_ways, none), (.df "check_purse_ways", s_check_purse_ways, none), (.df "check_amounts", s_check_amounts, none), (.df "check_purse_rows", s_check_purse_rows, none), (.df "purse_game", s_purse_game, none), (.df "is_made_of", s_is_made_of, none), (.df "is_name", s_is_name, none), (.df "is_figures", s_is_figures, none), (.df "is_amount", s_is_amount, none), (.df "check_form", s_check_form, none), (.df "places_told", s_places_told, none), (.df "read_head", s_read_head, none), (.df "read_purse_way", s_read_purse_way, none), (.df "read_purse_place", s_read_purse_place, none), (.df "numbered", s_numbered, none), (.df "number_of", s_number_of, none), (.df "read_purses", s_read_purses, none), (.df "_law_cell_at", s_law_cell_at, none), (.df "_law_parts", s_law_parts, none), (.df "_law_text", s_law_text, none), (.df "_law_spoiled_text", s_law_spoiled_text, none), (.df "_law_spoiled_rows", s_law_spoiled_rows, none), (.df "_law_many", s_law_many, none), (.df "_law_marks", s_law_marks, none), (.df "law", s_law, none)], cs := [], is := [("MOST_AMOUNT_FIGURES", 60), ("MOST_LETTERS", 8), ("MOST_PURSE_PLACES", 16)], ss := [("FIGURES", "0123456789"), ("HAND_SIGNS", "+-"), ("LETTERS", "abcdefghijklmnopqrstuvwxyz")], bs := ["ValueError", "abs", "all", "bool", "dict", "enumerate", "int", "isinstance", "len", "range", "set", "sorted", "str", "tuple"], xc := fun K => xcFacts K "GarthError" xRs xNs, ext := fun K => (()), extW := fun w => (()) } : Asked _)
theorem all_mk {P : Program} {w : World} {K : PySem.W.Frag} {h : Heap} {mg : Str → Option Value} {fa : Addr} (e : askedOf.Ok w K) (X : K.In h) (G : h.Ns mainGlobals mg) (hfa : mg "law" = some (.ref fa)) :
    ∃ fd : FuncData, (∀ (s : Shared) (v : Value), BindsTo s fd ⟨[v], []⟩ [("_law_script", v)]) ∧ ∀ base : Heap, K.In base → base.Ns mainGlobals mg → FnOk P w K mg base CX0 9 fa fd ["_law_script"] (spLaw K) := by
  have T : Txt mg := ⟨e.noneAt X G 0 rfl, e.noneAt X G 1 rfl, e.noneAt X G 2 rfl, e.noneAt X G 3 rfl, e.noneAt X G 4 rfl, e.noneAt X G 5 rfl, e.noneAt X G 6 rfl, e.noneAt X G 7 rfl, e.noneAt X G 8 rfl, e.noneAt X G 9 rfl, e.noneAt X G 10 rfl, e.noneAt X G 11 rfl, e.noneAt X G 12 rfl, e.noneAt X G 13 rfl, e.str X G 0 rfl, e.str X G 1 rfl, e.str X G 2 rfl, e.int X G 0 rfl, e.int X G 1 rfl, e.int X G 2 rfl⟩
  have XC := xt_of X G e.exc
  have A0 : DefAt K mg "is_whole" s_is_whole ["value"] := e.defAt X G 0 rfl (fun _ _ _ _ _ _ => L2.arg1 fun _ => rfl)
  have A1 : DefAt K mg "is_place" s_is_place ["value", "count"] := e.defAt X G 1 rfl (fun _ _ _ _ _ _ => L2.arg2 fun _ _ => rfl)
  have A2 : DefAt K mg "check_hand" s_check_hand ["hand"] := e.defAt X G 2 rfl (fun _ _ _ _ _ _ => L2.arg1 fun _ => rfl)
  have A3 : DefAt K mg "check_ways" s_check_ways ["ways", "count"] := e.defAt X G 3 rfl (fun _ _ _ _ _ _ => L2.arg2 fun _ _ => rfl)
  have A4 : DefAt K mg "check_purse_ways" s_check_purse_ways ["ways", "count"] := e.defAt X G 4 rfl (fun _ _ _ _ _ _ => L2.arg2 fun _ _ => rfl)
  have A5 : DefAt K mg "check_amounts" s_check_amounts ["ways"] := e.defAt X G 5 rfl (fun _ _ _ _ _ _ => L2.arg1 fun _ => rfl)
  have A6 : DefAt K mg "check_purse_rows" s_check_purse_rows ["rows"] := e.defAt X G 6 rfl (fun _ _ _ _ _ _ => L2.arg1 fun _ => rfl)
  have A7 : DefAt K mg "purse_game" s_purse_game ["rows"] := e.defAt X G 7 rfl (fun _ _ _ _ _ _ => L2.arg1 fun _ => rfl)
  have A8 : DefAt K mg "is_made_of" s_is_made_of ["word", "signs", "most"] := e.defAt X G 8 rfl (fun _ _ _ _ _ _ => L2.arg3 fun _ _ _ => rfl)
  have A9 : DefAt K mg "is_name" s_is_name ["word"] := e.defAt X G 9 rfl (fun _ _ _ _ _ _ => L2.arg1 fun _ => rfl)
  have A10 : DefAt K mg "is_figures" s_is_figures ["word", "most"] := e.defAt X G 10 rfl (fun _ _ _ _ _ _ => L2.arg2 fun _ _ => rfl)
  have A11 : DefAt K mg "is_amount" s_is_amount ["word"] := e.defAt X G 11 rfl (fun _ _ _ _ _ _ => L2.arg1 fun _ => rfl)
  have A12 : DefAt K mg "check_form" s_check_form ["right"] := e.defAt X G 12 rfl (fun _ _ _ _ _ _ => L2.arg1 fun _ => rfl)
  have A13 : DefAt K mg "places_told" s_places_told ["text"] := e.defAt X G 13 rfl (fun _ _ _ _ _ _ => L2.arg1 fun _ => rfl)
  have A14 : DefAt K mg "read_head" s_read_head ["word"] := e.defAt X G 14 rfl (fun _ _ _ _ _ _ => L2.arg1 fun _ => rfl)
  have A15 : DefAt K mg "read_purse_way" s_read_purse_way ["word"] := e.defAt X G 15 rfl (fun _ _ _ _ _ _ => L2.arg1 fun _ => rfl)
  have A16 : DefAt K mg "read_purse_place" s_read_purse_place ["text"] := e.defAt X G 16 rfl (fun _ _ _ _ _ _ => L2.arg1 fun _ => rfl)
  have A17 : DefAt K mg "numbered" s_numbered ["names"] := e.defAt X G 17 rfl (fun _ _ _ _ _ _ => L2.arg1 fun _ => rfl)
  have A18 : DefAt K mg "number_of" s_number_of ["numbers", "name"] := e.defAt X G 18 rfl (fun _ _ _ _ _ _ => L2.arg2 fun _ _ => rfl)
  have A19 : DefAt K mg "read_purses" s_read_purses ["text"] := e.defAt X G 19 rfl (fun _ _ _ _ _ _ => L2.arg1 fun _ => rfl)
  have A20 : DefAt K mg "_law_cell_at" s_law_cell_at ["_law_script", "_law_k"] := e.defAt X G 20 rfl (fun _ _ _ _ _ _ => L2.arg2 fun _ _ => rfl)
  have A21 : DefAt K mg "_law_parts" s_law_parts ["_law_script", "_law_many_here"] := e.defAt X G 21 rfl (fun _ _ _ _ _ _ => L2.arg2 fun _ _ => rfl)
  have A22 : DefAt K mg "_law_text" s_law_text ["_law_parts_here"] := e.defAt X G 22 rfl (fun _ _ _ _ _ _ => L2.arg1 fun _ => rfl)
  have A23 : DefAt K mg "_law_spoiled_text" s_law_spoiled_text ["_law_parts_here", "_law_kind", "_law_cell"] := e.defAt X G 23 rfl (fun _ _ _ _ _ _ => L2.arg3 fun _ _ _ => rfl)
  have A24 : DefAt K mg "_law_spoiled_rows" s_law_spoiled_rows ["_law_parts_here", "_law_kind", "_law_cell"] := e.defAt X G 24 rfl (fun _ _ _ _ _ _ => L2.arg3 fun _ _ _ => rfl)
  have A25 : DefAt K mg "_law_many" s_law_many ["_law_parts_here", "_law_kind", "_law_cell"] := e.defAt X G 25 rfl (fun _ _ _ _ _ _ => L2.arg3 fun _ _ _ => rfl)
  have A26 : DefAt K mg "_law_marks" s_law_marks ["_law_line"] := e.defAt X G 26 rfl (fun _ _ _ _ _ _ => L2.arg1 fun _ => rfl)
  obtain ⟨kV, doc, pm, an, cdv, ct, FL⟩ := e.law X G 27 rfl hfa
  exact ⟨_, fun s v => .of_eq rfl, fun base _ _ => main (P := P) (w := w) (base := base) T XC A0 A1 A2 A3 A4 A5 A6 A7 A8 A9 A10 A11 A12 A13 A14 A15 A16 A17 A18 A19 A20 A21 A22 A23 A24 A25 A26 FL⟩
def asL : List Nat := [0, 1, 2, 3, 4, 5, 6, 7, 8, 9, 10, 11, 12, 13, 14, 15, 22, 23, 24, 25, 28, 35, 36, 37, 40, 47, 48, 49, 52, 59, 60, 61, 64, 71, 72, 73, 76, 83, 84, 85, 88, 95, 96, 97, 100, 101, 102, 103, 104, 105, 106, 107, 108, 109, 110, 111, 112, 113, 114, 115, 116, 117, 118, 119, 120, 121, 122, 123, 124, 125, 126, 127, 128, 129, 130, 131, 132, 133, 134, 135, 136, 137, 138, 139, 140, 141, 142, 143, 144, 145, 146, 147, 148, 149, 150, 151, 152, 153, 154, 155, 156, 157, 158, 159, 160, 161, 162, 163, 164, 165, 166, 167, 168, 169, 170, 171, 172, 173, 174, 175, 176, 177, 178, 179, 180, 181, 182, 183, 184, 185, 186, 187, 188, 189, 190, 191, 192, 193, 194, 195, 196, 197, 198, 199, 200, 201, 202, 203, 204, 205, 206, 207, 208, 209, 210, 211, 212, 213, 214, 215, 216, 217, 218, 219, 220, 221, 222, 223, 224, 225, 226, 227, 228, 229, 230, 231, 232, 233, 234, 235, 236, 237, 238, 239, 240, 241, 242, 243, 244, 245, 246, 247, 248, 249, 250, 251, 252, 253, 254, 255, 256, 257, 258, 259, 260, 261, 262, 263, 264, 265, 266, 267, 268, 269, 270, 271, 272, 273, 274, 275]
def qV : Program := PySem.W.view PySem.Challenge.pw_rankgarth_k71_texts_of_purse_games_refus [45]
def loV : List Str := (PySem.Challenge.pw_rankgarth_k71_texts_of_purse_games_refus.main.scope.names.map (·.1)).filter fun x => !(x == "law")
def xtV (s : Shared) : Bool := PySem.W.xlAt qV [] s && PySem.W.recOk (PySem.W.RowW.records PySem.Challenge.rw_rankgarth_k71_texts_of_purse_games_refus.row.toRowW) s
def dL : PySem.DefRec := ⟨"law", defArgs s_law, defBody s_law, defScope s_law, posOf s_law⟩
set_option maxHeartbeats 0
theorem head_open : PySem.W.opening PySem.Challenge.pw_rankgarth_k71_texts_of_purse_games_refus = PySem.W.plainProg PySem.Challenge.pw_rankgarth_k71_texts_of_purse_games_refus.main.scope.names := by kernel_rfl
theorem head_run (w : World) (os : OsState) : (topRunQ PySem.Challenge.pw_rankgarth_k71_texts_of_purse_games_refus w 11 (some (.ref 6)) 4882 ⟨boot_tree w.params, 11, {}, Array.mk [], PySem.W.boot_drawn, PySem.W.boot_toks, os⟩ (PySem.W.topStub PySem.Challenge.pw_rankgarth_k71_texts_of_purse_games_refus)).map (fun r => topLook PySem.Challenge.pw_rankgarth_k71_texts_of_purse_games_refus qV loV xtV true (fun s => askedOf.look (partOf asL s.heap)) (PySem.W.boot_heap w.params) r.abs) = some (true, PySem.W.openGood qV loV, askedOf.want w) := by kernel_rfl
theorem head_left : PySem.W.LeftO PySem.Challenge.rw_rankgarth_k71_texts_of_purse_games_refus.row.prog qV loV xtV (fun s => askedOf.look (partOf asL s.heap)) (fun w => askedOf.want w) 4882 :=
  left_tree (p := PySem.Challenge.pw_rankgarth_k71_texts_of_purse_games_refus) (H₀ := PySem.W.boot_heap) (gs₀ := Array.mk []) (d₀ := PySem.W.boot_drawn) (k₀ := PySem.W.boot_toks) (m₀ := 11) (ann := some (.ref 6)) (M := 4882) (T₀ := boot_tree) (n₀ := 11) (life := {}) (PySem.W.boot_open head_open (by decide +kernel) fun s => by kernel_rfl) (fun w => by kernel_rfl) (fun P => by kernel_rfl) head_run (by decide +kernel)
end Law
open PySem PySem.W PyProof.Rows
set_option maxRecDepth 100000 in
set_option maxHeartbeats 0 in
theorem PySem.Challenge.cw_rankgarth_k71_texts_of_purse_games_refus_holds : PySem.Challenge.rw_rankgarth_k71_texts_of_purse_games_refus.Holds := by
  refine PySem.W.holds_law (by kernel_rfl) fun said => ?_
  refine PySem.W.holds_open (q := Law.qV) (loose := Law.loV) (Xt := Law.xtV) (XP := XL Law.qV []) (YP := fun w h => ∃ K : Frag, K.In h ∧ Law.askedOf.Ok w K) (d := Law.dL) (kwd := []) Law.head_left (fun w s e => ⟨_, L2.partOf_in _ _, e⟩) (fun w h h' y k => y.elim fun K z => ⟨K, z.1.keeps k, z.2⟩) (fun s e => xl_of s (Bool.and_eq_true_iff.mp e).1) XL.keeps (by kernel_rfl) (by kernel_rfl) (by kernel_rfl) (fun s e => recFacts_of (Bool.and_eq_true_iff.mp e).2) (by kernel_rfl) said (by kernel_rfl) ⟨rfl, rfl, rfl, rfl, rfl, by decide +kernel⟩ ?hw ?hc
  case hw => w_witness2
  case hc => exact L2.walk_ex (l := PySem.Challenge.rw_rankgarth_k71_texts_of_purse_games_refus) (n := 63) (k := 9) (x := "_law_script") (nm := "law") (sp := Law.spLaw) rfl (by decide) (by kernel_rfl) ⟨rfl, by decide, by decide⟩ (by kernel_rfl) (fun w K mg fa h e X G hm => Law.all_mk e X G hm) (fun _ _ a ns hl _ hS => ⟨a, ns, rfl, hS, hl, fun _ => rfl⟩) fun _ _ _ _ z => z
