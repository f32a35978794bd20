import PyProof.Rows.All
import Wide.All
import OpenK.AllK
import Wide.FinOn
import Lean
import PyProof.EqAt
import PyProof.EqKinds
import PyProof.TupleCall
import PyProof.NeKinds
import KE.KDictSum
import PyProof.Rows.SetFrom
import KE.KSortTup
import KE.KLam
import KE.KMinKey
import PySem.Challenge.RW_rankgarth_k64_whole_one_less
set_option linter.all false
set_option Elab.async false
set_option maxRecDepth 100000
set_option maxHeartbeats 4000000
namespace L2
open PySem PySem.Spec PyProof.Rows
abbrev Key:=Sum Int Str
def iB : Key→Value→Bool
  | .inl k,v=>Value.isInt k v
  | .inr x,v=>Value.isStrOf x v
def tH (w : World) : Key→Int
  | .inl k=>hashInt k
  | .inr x=>hashStr w x
theorem bc : ∀ {k : Key} {v : Value},iB k v = true→(∃ i t,k = Sum.inl i∧v = Value.int i t) ∨ (∃ x t,k = Sum.inr x∧v = Value.str x t)
  | .inl i,v,h=>by
    obtain ⟨t,e⟩:=Value.isInt_shape (k:=i) (v:=v) h
    exact .inl ⟨i,t,rfl,e⟩
  | .inr x,v,h=>by
    obtain ⟨t,e⟩:=Value.isStrOf_shape (x:=x) (v:=v) h
    exact .inr ⟨x,t,rfl,e⟩
theorem lV (i : Int) (t : Tok) : iB (.inl i) (.int i t) = true:=by simp [iB,Value.isInt]
theorem lZ (x : Str) (t : Tok) : iB (.inr x) (.str x t) = true:=by simp [iB,Value.isStrOf]
theorem rk (a b : Int) : decide ((Sum.inl a : Key) = Sum.inl b) = (a == b):=by
  by_cases e : a = b
  · subst e; simp
  · have h : ¬ (Sum.inl a : Key) = Sum.inl b:=fun q=>e (Sum.inl.inj q)
    rw [decide_eq_false h]
    exact (beq_eq_false_iff_ne.mpr e).symm
theorem rZ (a b : Str) : decide ((Sum.inr a : Key) = Sum.inr b) = decide (a = b):=by
  by_cases e : a = b
  · subst e; simp
  · have h : ¬ (Sum.inr a : Key) = Sum.inr b:=fun q=>e (Sum.inr.inj q)
    rw [decide_eq_false h,decide_eq_false e]
theorem rY (a : Int) (b : Str) : decide ((Sum.inl a : Key) = Sum.inr b) = false:=decide_eq_false (fun q=>nomatch q)
theorem se (a : Str) (b : Int) : decide ((Sum.inr a : Key) = Sum.inl b) = false:=decide_eq_false (fun q=>nomatch q)
def bf (prog : Program) (w : World) : PySem.KeyKind prog w Key where
  is:=iB
  hash:=tH w
  inj := fun v a b ha hb=>by
    rcases bc ha with ⟨i,t,rfl,rfl⟩ | ⟨x,t,rfl,rfl⟩
    · rcases bc hb with ⟨j,u,rfl,e⟩ | ⟨y,u,rfl,e⟩
      · injection e with e1 _; rw [e1]
      · exact nomatch e
    · rcases bc hb with ⟨j,u,rfl,e⟩ | ⟨y,u,rfl,e⟩
      · exact nomatch e
      · injection e with e1 _; rw [e1]
  byValue:=fun k v h=>by
    rcases bc h with ⟨i,t,rfl,rfl⟩ | ⟨x,t,rfl,rfl⟩ <;> rfl
  pyHash:=fun hv h=>by
    rcases bc hv with ⟨i,t,rfl,rfl⟩ | ⟨x,t,rfl,rfl⟩
    · exact wpAny_pyHash_int h
    · exact wpAny_pyHash_str h
  eqBool:=fun hu hv h=>by
    rcases bc hu with ⟨i,t,rfl,rfl⟩ | ⟨x,t,rfl,rfl⟩
    · rcases bc hv with ⟨j,u,rfl,rfl⟩ | ⟨y,u,rfl,rfl⟩
      · rw [rk] at h; exact wpAny_eqBool_int h
      · rw [rY] at h; exact SeqAt.EqAt.int_str i t y u _ _ _ _ h
    · rcases bc hv with ⟨j,u,rfl,rfl⟩ | ⟨y,u,rfl,rfl⟩
      · rw [se] at h; exact SeqAt.EqAt.str_int x t j u _ _ _ _ h
      · rw [rZ] at h; exact wpAny_eqBool_str h
  «strs»:=fun k x t v h=>by
    rcases bc h with ⟨i,u,rfl,e⟩ | ⟨y,u,rfl,e⟩
    · exact nomatch e
    · injection e with e1 _
      subst e1
      cases v <;> rfl
theorem jV (prog : Program) (w : World) (i : Int) (t : Tok) : (bf prog w).is (.inl i) (.int i t) = true:=lV i t
theorem jP (prog : Program) (w : World) (x : Str) (t : Tok) : (bf prog w).is (.inr x) (.str x t) = true:=lZ x t
inductive V where
  | non | bl (b : Bool) | int (i : Int) | str (x : Str) | byt (b : Array UInt8) | flt (b : UInt64) | ref (a : Addr) | ty (n : String)
  deriving DecidableEq
def RelV : V→Value→Prop
  | .non,u=>u = Value.none
  | .bl b,u=>u = Value.bool b
  | .int i,u=>∃ t,u = Value.int i t
  | .str x,u=>∃ t,u = Value.str x t
  | .byt b,u=>∃ t,u = Value.bytes b t
  | .flt b,u=>∃ t,u = Value.float b t
  | .ref a,u=>u = Value.ref a
  | .ty n,u=>u = Value.type n
abbrev Vals : List V→List Value→Prop:=Paired RelV
theorem Vals.length {xs : List V} {us : List Value} (r : Vals xs us) : xs.length = us.length:=Paired.length r
theorem Vals.get : ∀ {xs : List V} {us : List Value} {i : Nat} {x : V},Vals xs us→xs[i]? = some x→∃ u,us[i]? = some u∧RelV x u
  | _,_,_,_,.nil,e=>by simp at e
  | _,_,0,_,.cons r _,e=>by simp at e; subst e; exact ⟨_,rfl,r⟩
  | _,_,i + 1,x,.cons _ t,e=>by
    obtain ⟨u,h1,h2⟩:=Vals.get (i:=i) (x:=x) t (by simpa using e)
    exact ⟨u,by simpa using h1,h2⟩
theorem Vals.set {x : V} {u : Value} (r : RelV x u) : ∀ {xs : List V} {us : List Value} (i : Nat),Vals xs us→Vals (xs.set i x) (us.set i u)
  | _,_,_,.nil=>.nil
  | _,_,0,.cons _ t=>.cons r t
  | _,_,i + 1,.cons q t=>.cons q (Vals.set r i t)
theorem Vals.append : ∀ {xs ys : List V} {us ws : List Value},Vals xs us→Vals ys ws→Vals (xs ++ ys) (us ++ ws)
  | _,_,_,_,.nil,s=>s
  | _,_,_,_,.cons r t,s=>.cons r (Vals.append t s)
def RelO : Option V→Option Value→Prop
  | some v,some u=>RelV v u
  | none,none=>True
  | _,_=>False
def KV {κ : Type} : List (κ × V)→List (κ × Value)→Prop:=Paired fun (p : κ × V) (q : κ × Value)=>p.1 = q.1∧RelV p.2 q.2
def kV : Key→V
  | .inl i=>.int i
  | .inr x=>.str x
inductive HO where
    | lst (xs : List V)
    | tup (xs : List V)
    | dK (kvs : List (Key × V)) | dT (kvs : List (List Key × V))
    | set (S : Int→Bool) (n : Nat)
    | ins (C dx : Addr) (fs : List (Str × V))
    | own (x : Addr)
    | xd (fs : List (Str × V))
    | met (f x : Addr)
    | rng (lo hi : Int)
    | frz (o : Obj) (u : HO)
    | tbl (ps : Array Value)
    | ext (φ : Heap→Prop)
abbrev Hp:=Addr→Option HO
def upd (H : Hp) (a : Addr) (o : HO) : Hp:=fun b=>if b = a then some o else H b
theorem ae {H : Hp} {a : Addr} {o : HO} : upd H a o a = some o:=by unfold upd; rw [if_pos rfl]
theorem aq {H : Hp} {a b : Addr} {o : HO} (h : b ≠ a) : upd H a o b = H b:=by unfold upd; rw [if_neg h]
theorem dM {H : Hp} {a : Addr} {o u : HO} : upd (upd H a o) a u = upd H a u:=by
  funext b; unfold upd; split <;> rfl
theorem ay {H : Hp} {a b : Addr} {o : HO} (h : H a = some o) (h' : H b = none) : a ≠ b:=by
  intro e; subst e; rw [h] at h'; cases h'
section
variable (P : Program) (w : World)
def ObjOk (H : Hp) (h : Heap) (a : Addr) : HO→Prop
  | .lst xs=>xs.length ≤ sizeLine∧∃ (its : List Value) (n : Nat),Vals xs its∧h.get? a = some { cls:=.type "list",data:=.seq its.toArray n }
  | .tup xs=>xs.length ≤ sizeLine∧∃ its : List Value,Vals xs its∧IsTup h a its.toArray
  | .dK kvs=>kvs.length ≤ sizeLine∧(a == sysModules) = false∧∃ vs,KV kvs vs∧h.DictOf (bf P w) a vs
  | .dT kvs=>kvs.length ≤ sizeLine∧(a == sysModules) = false∧∃ xs : List (List Key × Addr × Value),
      Paired (fun (p : List Key × V) (q : List Key × Addr × Value)=>p.1 = q.1∧H q.2.1 = some (.tup (p.1.map kV))∧RelV p.2 q.2.2) kvs xs ∧
      ∃ o es ep,h.get? a = some o∧o.ExactDict∧o.data = .dict es ep∧es.toList = xs.map (entryOfKey (tupleKind (bf P w)))∧(xs.map (·.1)).Nodup
  | .set S n=>h.SetOf (intKind P w) a S n
  | .ins C dx fs=>H dx = some (.own a)∧fs.length ≤ 1000∧dx ≠ a∧h.get? a = some (PySem.W.instObj C dx) ∧
      ∃ mA,h.Ns1 dx mA∧(∀ f,RelO (fs.lookup f) (mA f))∧PySem.Within mA (fs.map (·.1))
  | .own _=>∃ o,h.get? a = some o
  | .xd fs=>∃ mA,h.Ns1 a mA∧∀ f,RelO (fs.lookup f) (mA f)
  | .rng lo hi=>∃ t u v,h.get? a = some { cls:=.type "range",data:=.fields #[.int lo t,.int hi u,.int 1 v] }
  | .frz o u=>h.get? a = some o∧ObjOk H h a u
  | .tbl ps=>h.get? a = some { cls:=.none,data:=.fields ps }
  | .met f x=>h.get? a = some (PySem.W.methodObj (.ref f) (.ref x))
  | .ext φ=>φ h∧(∃ o,h.get? a = some o)∧∀ h1 h2 : Heap,φ h1→(∀ o,h1.get? a = some o→h2.get? a = some o)→φ h2
def HOk (H : Hp) (h : Heap) : Prop:=∀ a o,H a = some o→ObjOk P w H h a o
end
section
variable {P : Program} {w : World} {H H' : Hp} {h h' : Heap} {a : Addr} {o : HO}
theorem ObjOk.lt (x : ObjOk P w H h a o) : a < h.objs.size:=by
  cases o with
  | lst xs=>obtain ⟨_,_,_,_,e⟩:=x; exact Heap.lt_size e
  | tup xs=>obtain ⟨_,_,_,p⟩:=x; exact p.lt
  | dK kvs=>obtain ⟨_,_,_,_,o,_,_,e,_⟩:=x; exact Heap.lt_size e
  | dT kvs=>obtain ⟨_,_,_,_,o,_,_,e,_⟩:=x; exact Heap.lt_size e
  | set S n=>obtain ⟨o,_,_,_,e,_⟩:=x; exact Heap.lt_size e
  | ins C dx fs=>obtain ⟨_,_,_,e,_⟩:=x; exact Heap.lt_size e
  | own y=>obtain ⟨_,e⟩:=x; exact Heap.lt_size e
  | xd fs=>obtain ⟨_,⟨_,_,_,e,_⟩,_⟩:=x; exact Heap.lt_size e
  | rng lo hi=>obtain ⟨_,_,_,e⟩:=x; exact Heap.lt_size e
  | frz ob u=>obtain ⟨e,_⟩:=x; exact Heap.lt_size e
  | tbl ps=>exact Heap.lt_size (show h.get? a = some _ from x)
  | met f y=>exact Heap.lt_size (show h.get? a = some _ from x)
  | ext φ=>obtain ⟨_,⟨_,e⟩,_⟩:=x; exact Heap.lt_size e
theorem Paired.mapP {α β : Type} {F G : α→β→Prop} : ∀ {l₁ : List α} {l₂ : List β},Paired F l₁ l₂→(∀ a b,F a b→G a b)→Paired G l₁ l₂
  | _,_,.nil,_=>.nil
  | _,_,.cons r t,f=>.cons (f _ _ r) (Paired.mapP t f)
theorem Paired.imp' {α β : Type} {F G : α→β→Prop} (f : ∀ a b,F a b→G a b) {l₁ : List α} {l₂ : List β} (r : Paired F l₁ l₂) : Paired G l₁ l₂:=Paired.mapP r f
theorem ObjOk.stay (x : ObjOk P w H h a o) (k : ∀ b u,(b = a ∨ H b = some (.own a))→h.get? b = some u→h'.get? b = some u)
    (ho : ∀ b,H b = some (.own a)→H' b = some (.own a)) (ht : ∀ b xs,H b = some (.tup xs)→H' b = some (.tup xs)) : ObjOk P w H' h' a o:=by
  induction o with
  | lst xs=>obtain ⟨z,its,n,r,e⟩:=x; exact ⟨z,its,n,r,k _ _ (.inl rfl) e⟩
  | tup xs=>obtain ⟨z,its,r,ob,e,c⟩:=x; exact ⟨z,its,r,ob,k _ _ (.inl rfl) e,c⟩
  | dK kvs=>obtain ⟨z,y,vs,r,ob,es,ep,e,c⟩:=x; exact ⟨z,y,vs,r,ob,es,ep,k _ _ (.inl rfl) e,c⟩
  | dT kvs =>
    obtain ⟨z,y,xs,r,ob,es,ep,e,c⟩:=x
    exact ⟨z,y,xs,Paired.mapP r fun p q z=>⟨z.1,ht _ _ z.2.1,z.2.2⟩,ob,es,ep,k _ _ (.inl rfl) e,c⟩
  | set S n=>obtain ⟨ob,es,ep,t,e,c⟩:=x; exact ⟨ob,es,ep,t,k _ _ (.inl rfl) e,c⟩
  | ins C dx fs =>
    obtain ⟨d,z,ne,e,mA,⟨od,es,ep,e2,c⟩,r⟩:=x
    exact ⟨ho _ d,z,ne,k _ _ (.inl rfl) e,mA,⟨od,es,ep,k _ _ (.inr d) e2,c⟩,r⟩
  | own y=>obtain ⟨ob,e⟩:=x; exact ⟨ob,k _ _ (.inl rfl) e⟩
  | xd fs=>obtain ⟨mA,⟨od,es,ep,e,c⟩,r⟩:=x; exact ⟨mA,⟨od,es,ep,k _ _ (.inl rfl) e,c⟩,r⟩
  | rng lo hi=>obtain ⟨t,u,v,e⟩:=x; exact ⟨t,u,v,k _ _ (.inl rfl) e⟩
  | frz ob u ih=>obtain ⟨e,q⟩:=x; exact ⟨k _ _ (.inl rfl) e,ih q⟩
  | tbl ps =>
    have e : h.get? a = some { cls:=.none,data:=.fields ps }:=x
    show h'.get? a = some { cls:=.none,data:=.fields ps }
    exact k a _ (.inl rfl) e
  | met f y =>
    have e : h.get? a = some (PySem.W.methodObj (.ref f) (.ref y)):=x
    show h'.get? a = some (PySem.W.methodObj (.ref f) (.ref y))
    exact k a _ (.inl rfl) e
  | ext φ=>obtain ⟨p,⟨o,e⟩,st⟩:=x; exact ⟨st _ _ p fun o q=>k _ _ (.inl rfl) q,⟨o,k _ _ (.inl rfl) e⟩,st⟩
theorem HOk.lt (x : HOk P w H h) (e : H a = some o) : a < h.objs.size:=(x a o e).lt
theorem HOk.fresh (x : HOk P w H h) (e : h.objs.size ≤ a) : H a = none:=by
  cases q : H a with
  | none=>rfl
  | some u=>exact absurd (Nat.lt_of_lt_of_le (x.lt q) e) (Nat.lt_irrefl _)
theorem HOk.kept (x : HOk P w H h) (k : ∀ b u,h.get? b = some u→h'.get? b = some u) : HOk P w H h':=fun a o e =>
  (x a o e).stay (fun b u _ q=>k b u q) (fun _ q=>q) fun _ _ q=>q
theorem HOk.laid (x : HOk P w H h) (k : ∀ b u,h.get? b = some u→h'.get? b = some u) (hp : h.objs.size ≤ a) (new : ObjOk P w (upd H a o) h' a o) : HOk P w (upd H a o) h':=fun b u e=>by
  have hn:=x.fresh hp
  by_cases hb : b = a
  · subst hb; rw [ae] at e; cases e; exact new
  · rw [aq hb] at e
    exact (x b u e).stay (fun c v _ q=>k c v q) (fun c q=>by rw [aq (ay q hn)]; exact q) fun c xs q=>by rw [aq (ay q hn)]; exact q
end
def Rd (H : Hp) (a : Addr) (u : HO) : Prop:=H a = some u ∨ ∃ o,H a = some (.frz o u)
theorem Rd.ok {P : Program} {w : World} {H : Hp} {h : Heap} {a : Addr} {u : HO} (r : Rd H a u) (x : HOk P w H h) : ObjOk P w H h a u:=by
  rcases r with r | ⟨o,r⟩
  · exact x a u r
  · obtain ⟨_,q⟩:=x a _ r
    exact q
def Mut : Option HO→Prop
  | some (.lst _)=>True
  | some (.dK _)=>True
  | some (.dT _)=>True
  | some (.set _ _)=>True
  | some (.ins _ _ _)=>True
  | some (.ext _)=>True
  | _=>False
section
variable {P : Program} {w : World} {H : Hp} {h h' : Heap} {x e : Addr} {o' : HO}
theorem HOk.write (ok : HOk P w H h) (mu : Mut (H x)) (he : e = x ∨ H e = some (.own x)) (k : ∀ b u,b ≠ e→h.get? b = some u→h'.get? b = some u) (heo : ∃ u,h'.get? e = some u)
    (new : ObjOk P w (upd H x o') h' x o') : HOk P w (upd H x o') h':=fun b u q=>by
  have nown : ∀ c y,H c = some (.own y)→c ≠ x:=fun c y r z=>by subst z; rw [r] at mu; exact mu
  have ntup : ∀ c xs,H c = some (.tup xs)→c ≠ x:=fun c xs r z=>by subst z; rw [r] at mu; exact mu
  by_cases hb : b = x
  · subst hb; rw [ae] at q; cases q; exact new
  · rw [aq hb] at q
    by_cases hbe : b = e
    · have q' : H b = some (.own x):=by
        rcases he with z | z
        · exact absurd (hbe.trans z) hb
        · rw [hbe]; exact z
      rw [q] at q'; cases q'
      obtain ⟨v,hv⟩:=heo
      exact ⟨v,by rw [hbe]; exact hv⟩
    · refine (ok b u q).stay (fun c v hc r=>k c v ?_ r) (fun c r=>by rw [aq (nown c b r)]; exact r) fun c xs r=>by rw [aq (ntup c xs r)]; exact r
      rcases hc with rfl | hc
      · exact hbe
      · rintro rfl
        rcases he with z | z
        · exact nown c b hc z
        · rw [hc] at z; cases z; exact hb rfl
end
structure Un (fs ex : List Addr) (H H' : Hp) (h h' : Heap) : Prop where
  keep : ∀ b o,h.get? b = some o→H b = none→b ∉ fs→b ∉ ex→h'.get? b = some o
  slot : ∀ b o,h.get? b = some o→H b = none→b ∈ fs→b ∉ ex→∃ sl,h'.get? b = some { o with slots:=sl }
  free : ∀ b o,h.get? b = some o→H b = none→b ∉ ex→H' b = none
  there : ∀ b o,h.get? b = some o→b ∉ ex→∃ o',h'.get? b = some o'
  tups : ∀ b xs,H b = some (.tup xs)→H' b = some (.tup xs)
  frzs : ∀ b o u,H b = some (.frz o u)→H' b = some (.frz o u)
  tbls : ∀ b ps,H b = some (.tbl ps)→∃ more,H' b = some (.tbl (ps ++ more))
section
variable {fs fs' ex ex' : List Addr} {H H1 H2 : Hp} {h h1 h2 h' : Heap} {a x e : Addr} {o : HO}
theorem Un.any (u : Un fs ex H H1 h h1) {b : Addr} {ob : Obj} (q : h.get? b = some ob) (n : H b = none) (hx : b ∉ ex) : ∃ sl,h1.get? b = some { ob with slots:=sl }:=by
  by_cases hb : b ∈ fs
  · exact u.slot b ob q n hb hx
  · exact ⟨ob.slots,u.keep b ob q n hb hx⟩
theorem Un.kept (k : ∀ b u,h.get? b = some u→h'.get? b = some u) : Un fs ex H H h h' :=
  ⟨fun b ob q _ _ _=>k b ob q,fun b ob q _ _ _=>⟨ob.slots,k b ob q⟩,fun _ _ _ n _=>n,fun b ob q _=>⟨ob,k b ob q⟩,fun _ _ q=>q,fun _ _ _ q=>q,fun _ ps q=>⟨#[],by rw [q]; simp⟩⟩
theorem Un.refl : Un fs ex H H h h:=Un.kept fun _ _ q=>q
theorem Un.laid (k : ∀ b u,h.get? b = some u→h'.get? b = some u) (hp : h.objs.size ≤ a) (hn : H a = none) : Un fs ex H (upd H a o) h h' where
  keep:=fun b u q _ _ _=>k b u q
  slot:=fun b u q _ _ _=>⟨u.slots,k b u q⟩
  free:=fun b u q n _=>by rw [aq (Nat.ne_of_lt (Nat.lt_of_lt_of_le (Heap.lt_size q) hp))]; exact n
  there:=fun b u q _=>⟨u,k b u q⟩
  tups:=fun b xs q=>by rw [aq (ay q hn)]; exact q
  frzs:=fun b u xs q=>by rw [aq (ay q hn)]; exact q
  tbls:=fun b ps q=>⟨#[],by rw [aq (ay q hn),q]; simp⟩
theorem Un.write (mu : Mut (H x)) (he : e = x ∨ H e = some (.own x)) (k : ∀ b u,b ≠ e→h.get? b = some u→h'.get? b = some u) (heo : ∃ u,h'.get? e = some u) : Un fs ex H (upd H x o) h h':=by
  have hx : ∀ b,H b = none→b ≠ x:=fun b n z=>by subst z; rw [n] at mu; exact mu
  have hb : ∀ b,H b = none→b ≠ e:=fun b n z=>by
    subst z
    rcases he with r | r
    · exact hx b n r
    · rw [n] at r; cases r
  have hm : ∀ b u,H b = some u→¬ Mut (some u)→b ≠ x:=fun b u q nm z=>by subst z; rw [q] at mu; exact nm mu
  refine ⟨fun b u q n _ _=>k b u (hb b n) q,fun b u q n _ _=>⟨u.slots,k b u (hb b n) q⟩,fun b u q n _=>by rw [aq (hx b n)]; exact n,fun b u q _=>?_,
    fun b xs q=>by rw [aq (hm b _ q fun z=>z)]; exact q,fun b u xs q=>by rw [aq (hm b _ q fun z=>z)]; exact q,fun b ps q=>⟨#[],by rw [aq (hm b _ q fun z=>z),q]; simp⟩⟩
  by_cases hbe : b = e
  · subst hbe; exact heo
  · exact ⟨u,k b u hbe q⟩
end
def trk (h : Heap) (H : Hp) : List Addr:=(List.range h.objs.size).filter fun a=>(H a).isSome
def iS (h : Heap) (H : Hp) : Heap:=PySem.W.hideAll h (trk h H)
theorem lY (h : Heap) (H : Hp) : (iS h H).objs.size = h.objs.size:=PySem.W.hideAll_size _ _
theorem nr {h : Heap} {H : Hp} {b : Addr} {o : Obj} (e : h.get? b = some o) (n : H b = none) : (iS h H).get? b = some o :=
  PySem.W.hideAll_get _ e fun hm=>by
    have q : (H b).isSome = true:=(List.mem_filter.mp hm).2
    rw [n] at q; simp at q
theorem qr {h : Heap} {H : Hp} {b : Addr} {o : Obj} (e : (iS h H).get? b = some o) : h.get? b = some o∧H b = none:=by
  have e' : h.get? b = some o:=PySem.W.of_hideAll (trk h H) e
  refine ⟨e',?_⟩
  cases q : H b with
  | none=>rfl
  | some x =>
    have hm : b ∈ trk h H:=List.mem_filter.mpr ⟨List.mem_range.mpr (Heap.lt_size e'),by simp [q]⟩
    have z : (iS h H).get? b = none:=PySem.W.hideAll_none (trk h H) hm
    rw [z] at e; cases e
structure Mod (K : PySem.W.Frag) (mg : Str→Option Value) (base : Heap) : Prop where
  kin : K.In base
  glob : base.Ns mainGlobals mg
  blt : ∃ mb,base.Ns builtinsNs mb∧∀ x : Str,x ≠ "__name__"→mb x = bootBuiltins x
  nolimit : base.NoLimit
structure Cx where
  prog : Program
  w : World
  K : PySem.W.Frag
  mg : Str→Option Value
  base : Heap
  A : Around
  N : List Str
  s₀ : Shared
  H₀ : Hp
  env : Env
  outer : List Env
  stack : List Env
  ex : List Addr
  fn : Str→Bool
  calm : Bool
  pn : List (Addr × Obj)
  xe : Value→Shared→Prop
def frs (l : List Env) : List Addr:=l.filterMap (·.frame)
abbrev Cx.fs (X : Cx) : List Addr:=frs X.outer
def Vis (sc : Scope) (x : Str) : Prop:=sc.names.lookup x = some .local ∨ sc.names.lookup x = some .cell ∨ sc.names.lookup x = some .free
def Loc (sc : Scope) (x : Str) : Prop:=sc.names.lookup x = some .local ∨ sc.names.lookup x = some .cell
def tT (env : Env) (h : Heap) (m : Str→Option Value) (x : Str) (u : Value) : Prop :=
  (env.kindOf x = some .local∧m x = some u) ∨ ((env.kindOf x = some .cell ∨ env.kindOf x = some .free)∧∃ c,env.cells.lookup x = some c∧h.IsCell c (some u))
structure Cx.Ok (X : Cx) : Prop where
  mod : Mod X.K X.mg X.base
  kind : X.env.scope.kind = .function
  glob : X.env.globals = mainGlobals
  blt : X.env.builtins = builtinsNs
  above : X.s₀.heap.objs.size ≤ X.env.locals
  inj : ∀ x y c,X.env.cells.lookup x = some c→X.env.cells.lookup y = some c→x = y
  has : ∀ x,(X.env.kindOf x = some .cell ∨ X.env.kindOf x = some .free)→∃ c,X.env.cells.lookup x = some c
  cab : ∀ x c,X.fn x = true→X.env.cells.lookup x = some c→X.s₀.heap.objs.size ≤ c
  hd : X.calm = true→X.A.handled = none
  frames : X.A.frames = some X.stack
  stk : X.stack = X.outer ∨ (X.stack = X.env :: X.outer∧X.env.frame = some X.env.locals)
  exf : ∀ b ∈ X.ex,b ≠ X.env.locals∧∀ x c,X.env.cells.lookup x = some c→c ≠ b
  bs : ∀ b o,X.base.get? b = some o→X.s₀.heap.get? b = some o∧X.H₀ b = none
  bsz : X.base.objs.size ≤ X.s₀.heap.objs.size
  noex : ∀ b o,X.base.get? b = some o→b ∉ X.ex
  exfs : ∀ b ∈ X.ex,b ∉ X.fs
  funs : X.s₀.heap.FunFrames X.base X.outer
  frf : ∀ b ∈ X.fs,X.H₀ b = none
structure Inv (X : Cx) (pins : List (Addr × Obj)) (σ : List (Option V)) (H : Hp) (s : Shared) : Prop where
  ok : X.Ok
  os : s.os = X.s₀.os
  bare : AllBare s.gens
  base : Un X.fs X.ex X.H₀ H X.s₀.heap s.heap
  loc : ∃ m,s.heap.Ns X.env.locals m∧∀ (i : Nat) (x : Str) (v : V),X.N[i]? = some x→σ[i]? = some (some v)→Vis X.env.scope x→∃ u,RelV v u∧tT X.env s.heap m x u
  cell : ∀ x c,X.env.cells.lookup x = some c→∃ v,s.heap.IsCell c v
  free : H X.env.locals = none
  freeC : ∀ x c,X.env.cells.lookup x = some c→H c = none
  pin : ∀ p ∈ X.pn ++ pins,s.heap.get? p.1 = some p.2∧H p.1 = none∧p.1 ≠ X.env.locals∧p.1 ∉ X.fs∧∀ v,p.2.data ≠ .cell v
  hok : HOk X.prog X.w H s.heap
  len : σ.length = X.N.length
section
variable {X : Cx} {pins : List (Addr × Obj)} {σ : List (Option V)} {H H' : Hp} {s : Shared} {h' : Heap}
theorem Cx.Ok.nofr (ok : X.Ok) {b : Addr} {o : Obj} (e : X.base.get? b = some o) : b ∉ X.fs:=fun hb=>by
  have:=(ok.funs.mem hb).1
  rw [e] at this; cases this
theorem Inv.bs (I : Inv X pins σ H s) : ∀ b o,X.base.get? b = some o→s.heap.get? b = some o∧H b = none:=fun b o e =>
  ⟨I.base.keep b o (I.ok.bs b o e).1 (I.ok.bs b o e).2 (I.ok.nofr e) (I.ok.noex b o e),I.base.free b o (I.ok.bs b o e).1 (I.ok.bs b o e).2 (I.ok.noex b o e)⟩
theorem Inv.bk (I : Inv X pins σ H s) : ∀ b o,X.base.get? b = some o→s.heap.get? b = some o:=fun b o e=>(I.bs b o e).1
theorem Inv.mod (I : Inv X pins σ H s) : Mod X.K X.mg X.base:=I.ok.mod
theorem Inv.kIn (I : Inv X pins σ H s) : X.K.In s.heap:=I.ok.mod.kin.keeps I.bk
theorem Inv.lt (I : Inv X pins σ H s) : X.env.locals < s.heap.objs.size:=let ⟨_,hn,_⟩:=I.loc; hn.lt
theorem Inv.sz (I : Inv X pins σ H s) : X.s₀.heap.objs.size ≤ s.heap.objs.size:=Nat.le_trans I.ok.above (Nat.le_of_lt I.lt)
theorem Inv.nofs (I : Inv X pins σ H s) {a : Addr} (h : s.heap.objs.size ≤ a) : a ∉ X.fs:=fun hb=>by
  obtain ⟨_,o,ho,_⟩:=I.ok.funs.mem hb
  exact absurd (Nat.lt_of_lt_of_le (Heap.lt_size ho) (Nat.le_trans I.sz h)) (Nat.lt_irrefl _)
theorem Inv.cne (I : Inv X pins σ H s) : ∀ x c,X.env.cells.lookup x = some c→c ≠ X.env.locals:=fun x c e z=>by
  obtain ⟨v,o,ho,hd⟩:=I.cell x c e
  obtain ⟨m,⟨o',es,ep,ho',hd',_⟩,_⟩:=I.loc
  rw [z,ho'] at ho; cases ho; rw [hd'] at hd; cases hd
theorem Inv.funs (I : Inv X pins σ H s) : s.heap.FunFrames X.base X.outer:=by
  have all : ∀ (l : List Env),(∀ b ∈ frs l,b ∈ X.fs)→X.s₀.heap.FunFrames X.base l→s.heap.FunFrames X.base l:=by
    intro l
    induction l with
    | nil=>intro _ _; trivial
    | cons env r ih =>
      intro hs hl
      obtain ⟨hk,⟨L,o,hf,hn,ho,hd⟩,hr⟩:=hl
      have hL : L ∈ X.fs:=hs L (by unfold frs; rw [List.filterMap_cons,hf]; exact List.mem_cons_self)
      obtain ⟨sl,e⟩:=I.base.slot L o ho (I.ok.frf L hL) hL fun z=>I.ok.exfs L z hL
      exact ⟨hk,⟨L,_,hf,hn,e,hd⟩,ih (fun b hb=>hs b (by unfold frs; rw [List.filterMap_cons,hf]; exact List.mem_cons_of_mem _ hb)) hr⟩
  exact all X.outer (fun _ hb=>hb) I.ok.funs
theorem Inv.stack (I : Inv X pins σ H s) : s.heap.FunFrames X.base X.stack:=by
  rcases I.ok.stk with e | ⟨e,hf⟩
  · rw [e]; exact I.funs
  · rw [e]
    obtain ⟨m,hn,_⟩:=I.loc
    refine .cons (by rw [I.ok.kind]; decide) hf hn ?_ I.funs
    exact Heap.get?_none_of_le (Nat.le_trans I.ok.bsz I.ok.above)
theorem Inv.stkSub (I : Inv X pins σ H s) : ∀ b ∈ frs X.stack,b ∈ X.env.locals :: X.fs:=fun b hb=>by
  rcases I.ok.stk with e | ⟨e,hf⟩
  · rw [e] at hb; exact List.mem_cons_of_mem _ hb
  · rw [e] at hb
    unfold frs at hb
    rw [List.filterMap_cons,hf] at hb
    exact hb
theorem Inv.stkFree (I : Inv X pins σ H s) : ∀ b ∈ frs X.stack,H b = none:=fun b hb=>by
  rcases List.mem_cons.mp (I.stkSub b hb) with e | hb
  · rw [e]; exact I.free
  · obtain ⟨_,o,ho,_⟩:=I.ok.funs.mem hb
    exact I.base.free b o ho (I.ok.frf b hb) fun z=>I.ok.exfs b z hb
theorem Inv.step {g' : Array GenState} {t' : Nat} {d' : Drawn} {ch : List Addr} (I : Inv X pins σ H s)
    (hch : ∀ b ∈ ch,(b ∈ X.ex ∨ X.s₀.heap.objs.size ≤ b)∧b ≠ X.env.locals∧(∀ x c,X.env.cells.lookup x = some c→c ≠ b)∧∀ p ∈ X.pn ++ pins,p.1 ≠ b)
    (keep : ∀ b o,b ≠ X.env.locals→b ∉ X.fs→b ∉ ch→s.heap.get? b = some o→H b = none→h'.get? b = some o)
    (slot : ∀ b o,b ≠ X.env.locals→b ∈ X.fs→b ∉ ch→s.heap.get? b = some o→H b = none→∃ sl,h'.get? b = some { o with slots:=sl }) (free : ∀ b o,b ∉ ch→s.heap.get? b = some o→H b = none→H' b = none)
    (there : ∀ b o,b ∉ ch→s.heap.get? b = some o→∃ o',h'.get? b = some o')
    (tups : ∀ b xs,H b = some (.tup xs)→H' b = some (.tup xs)) (frzs : ∀ b o u,H b = some (.frz o u)→H' b = some (.frz o u)) (tbls : ∀ b ps,H b = some (.tbl ps)→∃ more,H' b = some (.tbl (ps ++ more)))
    (ns : ∀ m,s.heap.Ns X.env.locals m→h'.Ns X.env.locals m) (hok : HOk X.prog X.w H' h') (hg : AllBare g') :
    Inv X pins σ H' { s with heap:=h',gens:=g',drawn:=d',toks:=t' }:=by
  have neL : ∀ b o,X.s₀.heap.get? b = some o→b ≠ X.env.locals:=fun b o e=>Nat.ne_of_lt (Nat.lt_of_lt_of_le (Heap.lt_size e) I.ok.above)
  have neC : ∀ b o,X.s₀.heap.get? b = some o→b ∉ X.ex→b ∉ ch:=fun b o e hx hb=>by
    rcases (hch b hb).1 with z | z
    · exact hx z
    · exact absurd (Nat.lt_of_lt_of_le (Heap.lt_size e) z) (Nat.lt_irrefl _)
  have cellK : ∀ x c,X.env.cells.lookup x = some c→∀ v,s.heap.IsCell c v→h'.IsCell c v:=fun x c e v ⟨o,ho,hd⟩=>by
    have nch : c ∉ ch:=fun z=>(hch c z).2.2.1 x c e rfl
    by_cases hc : c ∈ X.fs
    · obtain ⟨sl,q⟩:=slot c o (I.cne x c e) hc nch ho (I.freeC x c e)
      exact ⟨_,q,hd⟩
    · exact ⟨o,keep c o (I.cne x c e) hc nch ho (I.freeC x c e),hd⟩
  refine ⟨I.ok,I.os,hg,⟨fun b o e n hb hx=>?_,fun b o e n hb hx=>?_,fun b o e n hx=>?_,fun b o e hx=>?_,fun b xs e=>tups b xs (I.base.tups b xs e),fun b o xs e=>frzs b o xs (I.base.frzs b o xs e),fun b ps e=>?_⟩,?_,fun x c e=>?_,?_,fun x c e=>?_,fun p hp=>?_,hok,I.len⟩
  · exact keep b o (neL b o e) hb (neC b o e hx) (I.base.keep b o e n hb hx) (I.base.free b o e n hx)
  · obtain ⟨sl,e1⟩:=I.base.slot b o e n hb hx
    obtain ⟨sl',e2⟩:=slot b _ (neL b o e) hb (neC b o e hx) e1 (I.base.free b o e n hx)
    exact ⟨sl',e2⟩
  · obtain ⟨o',e1⟩:=I.base.there b o e hx
    exact free b o' (neC b o e hx) e1 (I.base.free b o e n hx)
  · obtain ⟨o',e1⟩:=I.base.there b o e hx
    exact there b o' (neC b o e hx) e1
  · obtain ⟨m1,e1⟩:=I.base.tbls b ps e
    obtain ⟨m2,e2⟩:=tbls b _ e1
    exact ⟨m1 ++ m2,by rw [e2,Array.append_assoc]⟩
  · obtain ⟨m,hn,hl⟩:=I.loc
    refine ⟨m,ns m hn,fun i x v e1 e2 e3=>?_⟩
    obtain ⟨u,r,l⟩:=hl i x v e1 e2 e3
    refine ⟨u,r,?_⟩
    rcases l with l | ⟨k,c,e,z⟩
    · exact .inl l
    · exact .inr ⟨k,c,e,cellK x c e _ z⟩
  · obtain ⟨v,z⟩:=I.cell x c e
    exact ⟨v,cellK x c e v z⟩
  · obtain ⟨m,⟨o,_,_,ho,_⟩,_⟩:=I.loc
    exact free _ o (fun z=>(hch _ z).2.1 rfl) ho I.free
  · obtain ⟨v,o,ho,hd⟩:=I.cell x c e
    exact free c o (fun z=>(hch c z).2.2.1 x c e rfl) ho (I.freeC x c e)
  · obtain ⟨e,n,ne,nf,d⟩:=I.pin p hp
    have nch : p.1 ∉ ch:=fun z=>(hch p.1 z).2.2.2 p hp rfl
    exact ⟨keep p.1 p.2 ne nf nch e n,free p.1 p.2 nch e n,ne,nf,d⟩
theorem Inv.un {t' : Nat} (I : Inv X pins σ H s) (u : Un X.fs [] H H' s.heap h') (hok : HOk X.prog X.w H' h') : Inv X pins σ H' { s with heap:=h',toks:=t' }:=by
  obtain ⟨m,⟨o,es,ep,ho,r⟩,_⟩:=id I.loc
  obtain ⟨sl,hL⟩:=u.any ho I.free (by simp)
  exact I.step (g':=s.gens) (d':=s.drawn) (ch:=[]) (fun _ z=>nomatch z) (fun b o _ hb _ e n=>u.keep b o e n hb (by simp)) (fun b o _ hb _ e n=>u.slot b o e n hb (by simp)) (fun b o _ e n=>u.free b o e n (by simp)) (fun b o _ e=>u.there b o e (by simp)) u.tups u.frzs u.tbls (fun m' hm=>by
    obtain ⟨o',es',ep',ho',r'⟩:=hm
    rw [ho] at ho'; cases ho'
    exact ⟨_,es',ep',hL,r'⟩) hok I.bare
theorem Inv.call {g' : Array GenState} {t' : Nat} {d' : Drawn} {ch : List Addr} (I : Inv X pins σ H s) (u : Un (frs X.stack) ch H H' s.heap h') (hok : HOk X.prog X.w H' h') (hg : AllBare g')
    (hch : ∀ b ∈ ch,(b ∈ X.ex ∨ X.s₀.heap.objs.size ≤ b)∧b ≠ X.env.locals∧(∀ x c,X.env.cells.lookup x = some c→c ≠ b)∧∀ p ∈ X.pn ++ pins,p.1 ≠ b) :
    Inv X pins σ H' { s with heap:=h',gens:=g',drawn:=d',toks:=t' }:=by
  obtain ⟨m,⟨o,es,ep,ho,r⟩,_⟩:=id I.loc
  obtain ⟨sl,hL⟩:=u.any ho I.free fun z=>(hch _ z).2.1 rfl
  exact I.step (ch:=ch) hch (fun b o hL hb hc e n=>u.keep b o e n (fun z=>(List.mem_cons.mp (I.stkSub b z)).elim hL hb) hc) (fun b o _ _ hc e n=>u.any e n hc) (fun b o hc e n=>u.free b o e n hc) (fun b o hc e=>u.there b o e hc) u.tups u.frzs u.tbls (fun m' hm=>by
    obtain ⟨o',es',ep',ho',r'⟩:=hm
    rw [ho] at ho'; cases ho'
    exact ⟨_,es',ep',hL,r'⟩) hok hg
theorem Inv.turned {t' : Nat} {it : Addr} (I : Inv X pins σ H s) (k : ∀ b o,b ≠ it→s.heap.get? b = some o→h'.get? b = some o) (hn : H it = none) (hL : it ≠ X.env.locals)
    (h1 : it ∈ X.ex ∨ X.s₀.heap.objs.size ≤ it) (h2 : ∀ x c,X.env.cells.lookup x = some c→c ≠ it) (h3 : ∀ p ∈ X.pn ++ pins,p.1 ≠ it) : Inv X pins σ H { s with heap:=h',toks:=t' }:=by
  have nit : ∀ b u,H b = some u→b ≠ it:=fun b u e z=>by rw [z,hn] at e; cases e
  refine I.step (g':=s.gens) (d':=s.drawn) (ch:=[it]) (fun b hb=>?_) (fun b o _ _ hc e _=>k b o (fun z=>hc (by simp [z])) e) (fun b o _ _ hc e _=>⟨o.slots,k b o (fun z=>hc (by simp [z])) e⟩) (fun _ _ _ _ n=>n)
    (fun b o hc e=>⟨o,k b o (fun z=>hc (by simp [z])) e⟩) (fun _ _ e=>e) (fun _ _ _ e=>e) (fun b ps e=>⟨#[],by rw [e]; simp⟩) (fun m hm=>?_) (fun b u e=>?_) I.bare
  · have e : b = it:=by simpa using hb
    subst e
    exact ⟨h1,hL,h2,h3⟩
  · obtain ⟨o,es,ep,ho,r⟩:=hm
    exact ⟨o,es,ep,k _ o (Ne.symm hL) ho,r⟩
  · refine (I.hok b u e).stay (fun c v hc q=>k c v ?_ q) (fun _ q=>q) fun _ _ q=>q
    rcases hc with z | z
    · rw [z]; exact nit b u e
    · exact nit c _ z
theorem Inv.tok (I : Inv X pins σ H s) (t : Nat) : Inv X pins σ H { s with toks:=t }:=I.un (h':=s.heap) (t':=t) Un.refl I.hok
theorem Inv.kept {t' : Nat} (I : Inv X pins σ H s) (k : ∀ b u,s.heap.get? b = some u→h'.get? b = some u) : Inv X pins σ H { s with heap:=h',toks:=t' }:=I.un (Un.kept k) (I.hok.kept k)
theorem Inv.laid {a : Addr} {o : HO} {t' : Nat} (I : Inv X pins σ H s) (k : ∀ b u,s.heap.get? b = some u→h'.get? b = some u) (hp : s.heap.objs.size ≤ a) (new : ObjOk X.prog X.w (upd H a o) h' a o) :
    Inv X pins σ (upd H a o) { s with heap:=h',toks:=t' }:=I.un (Un.laid k hp (I.hok.fresh hp)) (I.hok.laid k hp new)
theorem Inv.write {x e : Addr} {o : HO} {t' : Nat} (I : Inv X pins σ H s) (mu : Mut (H x)) (he : e = x ∨ H e = some (.own x)) (k : ∀ b u,b ≠ e→s.heap.get? b = some u→h'.get? b = some u) (heo : ∃ u,h'.get? e = some u)
    (new : ObjOk X.prog X.w (upd H x o) h' x o) : Inv X pins σ (upd H x o) { s with heap:=h',toks:=t' }:=I.un (Un.write mu he k heo) (I.hok.write mu he k heo new)
theorem Inv.weak {σ' : List (Option V)} (I : Inv X pins σ H s) (hl : σ'.length = σ.length) (w : ∀ (i : Nat) v,σ'[i]? = some (some v)→σ[i]? = some (some v)) : Inv X pins σ' H s :=
  ⟨I.ok,I.os,I.bare,I.base,let ⟨m,hn,hl'⟩:=I.loc; ⟨m,hn,fun i x v e1 e2 e3=>hl' i x v e1 (w i v e2) e3⟩,I.cell,I.free,I.freeC,I.pin,I.hok,hl.trans I.len⟩
theorem Inv.pins_of {pins' : List (Addr × Obj)} (I : Inv X pins σ H s) (h : ∀ p ∈ pins',s.heap.get? p.1 = some p.2∧H p.1 = none∧p.1 ≠ X.env.locals∧p.1 ∉ X.fs∧∀ v,p.2.data ≠ .cell v) : Inv X pins' σ H s :=
  ⟨I.ok,I.os,I.bare,I.base,I.loc,I.cell,I.free,I.freeC,fun p hp=>(List.mem_append.mp hp).elim (fun z=>I.pin p (List.mem_append_left _ z)) (h p),I.hok,I.len⟩
theorem j7 {N : List Str} (hN : N.Nodup) {i j : Nat} {x : Str} (a : N[i]? = some x) (b : N[j]? = some x) : i = j:=by
  obtain ⟨h1,e1⟩:=List.getElem?_eq_some_iff.mp a
  obtain ⟨h2,e2⟩:=List.getElem?_eq_some_iff.mp b
  exact (List.getElem_inj hN).mp (e1.trans e2.symm)
theorem ii {M : Model} {A : Around} {E : Value→Shared→Prop} {i : Nat} {x : Str} {v : V} {u : Value} {Q : Unit→Shared→Prop} (I : Inv X pins σ H s) (hN : X.N.Nodup) (hi : X.N[i]? = some x) (hx : Loc X.env.scope x) (r : RelV v u)
    (h : ∀ s',Inv X pins (σ.set i (some v)) H s'→(∃ a,Heap.SameBut a s.heap s'.heap∧(a = X.env.locals ∨ X.env.cells.lookup x = some a))→Q () s') (hf : X.fn x = true ∨ X.env.scope.names.lookup x = some .local:=by first | exact .inl rfl | exact .inr rfl | assumption) : wpAny M A (storeName X.env x u) Q E s:=by
  obtain ⟨m,hn,hl⟩:=id I.loc
  have hcls : (X.env.scope.kind == .class || (X.env.scope.kind == .module && X.env.locals != X.env.globals)) = false:=by rw [I.ok.kind]; rfl
  have hiσ : i < σ.length:=by rw [I.len]; exact (List.getElem?_eq_some_iff.mp hi).1
  have cne:=I.cne
  have tracked : ∀ {a : Addr} {h' : Heap},(∃ o,s.heap.get? a = some o∧H a = none)→Heap.SameBut a s.heap h'→HOk X.prog X.w H h':=fun {a h'} ha hs b ob e=>by
    obtain ⟨_,_,hfree⟩:=ha
    refine (I.hok b ob e).stay (fun c w' hc q=>(hs.2 c ?_).trans q) (fun _ q=>q) fun _ _ q=>q
    rintro rfl
    rcases hc with rfl | hc
    · rw [hfree] at e; cases e
    · rw [hfree] at hc; cases hc
  rcases hx with hk | hk
  · refine wpAny_storeName_local hk hn (fun h' hn' hs=>?_) hcls
    obtain ⟨oL,_,_,hoL,_⟩:=id hn
    refine h _ ⟨I.ok,I.os,I.bare,⟨fun b o e n hb hx=>?_,fun b o e n hb hx=>?_,I.base.free,fun b o e hx=>?_,I.base.tups,I.base.frzs,I.base.tbls⟩,⟨_,hn',fun j y v' e1 e2 e3=>?_⟩,fun y c e=>?_,I.free,I.freeC,fun p hp=>?_,tracked ⟨oL,hoL,I.free⟩ hs,by simpa using I.len⟩ ⟨_,hs,.inl rfl⟩
    · exact (hs.2 b (Nat.ne_of_lt (Nat.lt_of_lt_of_le (Heap.lt_size e) I.ok.above))).trans (I.base.keep b o e n hb hx)
    · obtain ⟨sl,e1⟩:=I.base.slot b o e n hb hx
      exact ⟨sl,(hs.2 b (Nat.ne_of_lt (Nat.lt_of_lt_of_le (Heap.lt_size e) I.ok.above))).trans e1⟩
    · obtain ⟨o',e1⟩:=I.base.there b o e hx
      exact ⟨o',(hs.2 b (Nat.ne_of_lt (Nat.lt_of_lt_of_le (Heap.lt_size e) I.ok.above))).trans e1⟩
    · by_cases hj : j = i
      · subst hj
        rw [hi] at e1; cases e1
        rw [List.getElem?_set_self hiσ] at e2
        cases e2
        exact ⟨u,r,.inl ⟨hk,by simp⟩⟩
      · rw [List.getElem?_set_ne (Ne.symm hj)] at e2
        obtain ⟨u',r',q⟩:=hl j y v' e1 e2 e3
        refine ⟨u',r',?_⟩
        rcases q with ⟨k,e⟩ | ⟨k,c,e,z⟩
        · refine .inl ⟨k,?_⟩
          have : y ≠ x:=fun e=>hj (j7 hN e1 (e ▸ hi))
          simp [this,e]
        · exact .inr ⟨k,c,e,z.sameBut hs (cne y c e)⟩
    · obtain ⟨w',z⟩:=I.cell y c e
      exact ⟨w',z.sameBut hs (cne y c e)⟩
    · obtain ⟨e,n,ne,nf,d⟩:=I.pin p hp
      exact ⟨(hs.2 p.1 ne).trans e,n,ne,nf,d⟩
  · have hfn : X.fn x = true:=by
      rcases hf with z | z
      · exact z
      · rw [z] at hk; cases hk
    obtain ⟨c,hc⟩:=I.ok.has x (.inl hk)
    obtain ⟨w',z⟩:=I.cell x c hc
    refine wpAny_storeName_cell I.ok.kind hk hc z (fun h' hc' hs=>?_)
    obtain ⟨oc,hoc,hocd⟩:=id z
    refine h { s with heap:=h' } ⟨I.ok,I.os,I.bare,⟨fun b o e n hb hx=>?_,fun b o e n hb hx=>?_,I.base.free,fun b o e hx=>?_,I.base.tups,I.base.frzs,I.base.tbls⟩,⟨m,hn.sameBut hs (Ne.symm (cne x c hc)),fun j y v' e1 e2 e3=>?_⟩,fun y c' e=>?_,I.free,I.freeC,fun p hp=>?_,tracked ⟨oc,hoc,I.freeC x c hc⟩ hs,by simpa using I.len⟩ ⟨c,hs,.inr hc⟩
    · exact (hs.2 b (Nat.ne_of_lt (Nat.lt_of_lt_of_le (Heap.lt_size e) (I.ok.cab x c hfn hc)))).trans (I.base.keep b o e n hb hx)
    · obtain ⟨sl,e1⟩:=I.base.slot b o e n hb hx
      exact ⟨sl,(hs.2 b (Nat.ne_of_lt (Nat.lt_of_lt_of_le (Heap.lt_size e) (I.ok.cab x c hfn hc)))).trans e1⟩
    · obtain ⟨o',e1⟩:=I.base.there b o e hx
      exact ⟨o',(hs.2 b (Nat.ne_of_lt (Nat.lt_of_lt_of_le (Heap.lt_size e) (I.ok.cab x c hfn hc)))).trans e1⟩
    · by_cases hj : j = i
      · subst hj
        rw [hi] at e1; cases e1
        rw [List.getElem?_set_self hiσ] at e2
        cases e2
        exact ⟨u,r,.inr ⟨.inl hk,c,hc,hc'⟩⟩
      · rw [List.getElem?_set_ne (Ne.symm hj)] at e2
        obtain ⟨u',r',q⟩:=hl j y v' e1 e2 e3
        refine ⟨u',r',?_⟩
        rcases q with q | ⟨k,c',e,z'⟩
        · exact .inl q
        · refine .inr ⟨k,c',e,z'.sameBut hs ?_⟩
          rintro rfl
          exact hj (j7 hN e1 (I.ok.inj _ _ _ e hc ▸ hi))
    · by_cases hcc : c' = c
      · subst hcc; exact ⟨_,hc'⟩
      · obtain ⟨w2,z2⟩:=I.cell y c' e
        exact ⟨w2,z2.sameBut hs hcc⟩
    · obtain ⟨e,n,ne,nf,d⟩:=I.pin p hp
      refine ⟨(hs.2 p.1 ?_).trans e,n,ne,nf,d⟩
      intro q
      rw [q,hoc] at e
      have q' : oc = p.2:=Option.some.inj e
      exact d w' (by rw [← q']; exact hocd)
theorem gc {M : Model} {A : Around} {E : Value→Shared→Prop} {i : Nat} {x : Str} {v : V} {u : Value} {Q : Unit→Shared→Prop} (I : Inv X pins σ H s) (hN : X.N.Nodup) (hi : X.N[i]? = some x) (hx : Loc X.env.scope x) (r : RelV v u)
    (h : ∀ s',Inv X pins (σ.set i (some v)) H s'→Q () s') (hf : X.fn x = true ∨ X.env.scope.names.lookup x = some .local:=by first | exact .inl rfl | exact .inr rfl | assumption) : wpAny M A (storeName X.env x u) Q E s :=
  ii I hN hi hx r (fun s' I' _=>h s' I') hf
theorem Inv.call' {s' : Shared} {ch : List Addr} (I : Inv X pins σ H s) (ho : s'.os = s.os) (u : Un (frs X.stack) ch H H' s.heap s'.heap) (hok : HOk X.prog X.w H' s'.heap) (hg : AllBare s'.gens)
    (hch : ∀ b ∈ ch,(b ∈ X.ex ∨ X.s₀.heap.objs.size ≤ b)∧b ≠ X.env.locals∧(∀ x c,X.env.cells.lookup x = some c→c ≠ b)∧∀ p ∈ X.pn ++ pins,p.1 ≠ b) : Inv X pins σ H' s':=by
  obtain ⟨h',g',d',t',o'⟩:=s'
  have e : o' = s.os:=ho
  subst e
  exact I.call (g':=g') (t':=t') (d':=d') u hok hg hch
end
abbrev XK:=Value→Option Addr→Hp→Prop
abbrev St:=List (Option V)
abbrev VK:=V→Hp→Prop
abbrev TE:=St→Hp→VK→Prop
abbrev TT:=St→Hp→(Bool→Hp→Prop)→Prop
abbrev TA:=St→Hp→(List V→Hp→Prop)→Prop
structure Ends where
  nx : St→Hp→Prop
  rt : VK
  bk : St→Hp→Prop:=fun _ _=>False
  ct : St→Hp→Prop:=fun _ _=>False
abbrev TS:=Ends→St→Hp→Prop
def EP (X : Cx) (pins : List (Addr × Obj)) (σ : St) (Q : VK) (u : Value) (s' : Shared) : Prop:=∃ v H',Inv X pins σ H' s'∧RelV v u∧Q v H'
def TP (X : Cx) (pins : List (Addr × Obj)) (σ : St) (Q : Bool→Hp→Prop) (b : Bool) (s' : Shared) : Prop:=∃ H',Inv X pins σ H' s'∧Q b H'
def AP (X : Cx) (pins : List (Addr × Obj)) (σ : St) (Q : List V→Hp→Prop) (us : List Value) (s' : Shared) : Prop:=∃ vs H',Inv X pins σ H' s'∧Vals vs us∧Q vs H'
def SP (X : Cx) (pins : List (Addr × Obj)) (D : Ends) (f : Flow) (s' : Shared) : Prop :=
  match f with
  | .next=>∃ σ' H',Inv X pins σ' H' s'∧D.nx σ' H'
  | .brk=>∃ σ' H',Inv X pins σ' H' s'∧D.bk σ' H'
  | .cont=>∃ σ' H',Inv X pins σ' H' s'∧D.ct σ' H'
  | .ret u=>∃ v σ' H',Inv X pins σ' H' s'∧RelV v u∧D.rt v H'
def PE (X : Cx) (e : Expr) (t : TE) : Prop :=
  ∀ (pins : List (Addr × Obj)) (s : Shared) (σ : St) (H : Hp) (Q : VK),Inv X pins σ H s→t σ H Q→wpAny (model X.prog X.w) X.A (eval e X.env) (EP X pins σ Q) X.xe s
def PT (X : Cx) (e : Expr) (t : TT) : Prop :=
  ∀ (pins : List (Addr × Obj)) (s : Shared) (σ : St) (H : Hp) (Q : Bool→Hp→Prop),Inv X pins σ H s→t σ H Q→wpAny (model X.prog X.w) X.A (isTrue e X.env (eval e X.env)) (TP X pins σ Q) X.xe s
def PW (X : Cx) (e : Expr) (t : TT) : Prop :=
  ∀ (whole : Sem Value) (pins : List (Addr × Obj)) (s : Shared) (σ : St) (H : Hp) (Q : Bool→Hp→Prop),Inv X pins σ H s→t σ H Q→wpAny (model X.prog X.w) X.A (isTrue e X.env whole) (TP X pins σ Q) X.xe s
theorem PW.pt {X : Cx} {e : Expr} {t : TT} (h : PW X e t) : PT X e t:=h _
def PA (X : Cx) (es : List Expr) (t : TA) : Prop :=
  ∀ (pos : Pos) (pins : List (Addr × Obj)) (s : Shared) (σ : St) (H : Hp) (Q : List V→Hp→Prop),Inv X pins σ H s→t σ H Q→wpAny (model X.prog X.w) X.A (spliced (backTo pos (starEach es X.env))) (AP X pins σ Q) X.xe s
def PS (X : Cx) (st : Stmt) (t : TS) : Prop :=
  ∀ (pins : List (Addr × Obj)) (s : Shared) (σ : St) (H : Hp) (D : Ends),Inv X pins σ H s→t D σ H→wpAny (model X.prog X.w) X.A (exec st X.env) (SP X pins D) X.xe s
def PSs (X : Cx) (st : List Stmt) (t : TS) : Prop :=
  ∀ (pins : List (Addr × Obj)) (s : Shared) (σ : St) (H : Hp) (D : Ends),Inv X pins σ H s→t D σ H→wpAny (model X.prog X.w) X.A (execs st X.env) (SP X pins D) X.xe s
theorem thn {α : Type} {t : Sem α} {Q Q' : α→Shared→Prop} {M : Model} {A : Around} {E : Value→Shared→Prop} {s : Shared} (h : wpAny M A t Q E s) (hQ : ∀ a s,Q a s→Q' a s) : wpAny M A t Q' E s:=wpAny_mono h hQ fun _ _ x=>x
section
variable {X : Cx}
def sL (i : Nat) : TE:=fun σ H Q=>∃ v,σ[i]? = some (some v)∧Q v H
def tC (v : V) : TE:=fun _ H Q=>Q v H
theorem sh {i : Nat} {x : Str} {pos : Pos} (hN : X.N[i]? = some x) (hv : Vis X.env.scope x) (hd : (x == ("__debug__" : Str)) = false:=by decide) (hcd : (x == ("__classdict__" : Str)) = false:=by decide) : PE X (.Name x pos) (sL i):=by
  intro pins s σ H Q I h
  obtain ⟨v,e,h⟩:=h
  obtain ⟨m,hn,hl⟩:=I.loc
  obtain ⟨u,r,l⟩:=hl i x v hN e hv
  have fin : EP X pins σ Q u s:=⟨v,H,I,r,h⟩
  rcases l with ⟨hk,hm⟩ | ⟨hk,c,hc,hcell⟩
  · exact wpAny_Name (wpAny_loadName_local I.ok.kind hk hn hm fin) hd
  · rcases hk with hk | hk
    · exact wpAny_Name (wpAny_loadName_cell I.ok.kind hk hc hcell fin) hd
    · exact wpAny_Name (wpAny_loadName_free I.ok.kind hk hc hcell fin hcd) hd
theorem ab {i j pos} : PE X (.Constant (.int i) j pos) (tC (.int i)):=fun _ _ _ H _ I h=>wpAny_Constant_int ⟨.int i,H,I.tok _,⟨_,rfl⟩,h⟩
theorem dU {b j pos} : PE X (.Constant (.bool b) j pos) (tC (.bl b)):=fun _ _ _ H _ I h=>Constant_bool ⟨.bl b,H,I,rfl,h⟩
theorem fb {j pos} : PE X (.Constant .none j pos) (tC .non):=fun _ _ _ H _ I h=>Constant_none ⟨.non,H,I,rfl,h⟩
def Gl (X : Cx) (x : Str) : Prop:=X.env.kindOf x = some .globalImplicit
theorem lH {E : Value→Shared→Prop} {pins : List (Addr × Obj)} {s : Shared} {σ : St} {H : Hp} {x : Str} {u : Value} {pos : Pos} {Q : Value→Shared→Prop} (I : Inv X pins σ H s) (hg : Gl X x) (hm : X.mg x = some u) (h : Q u s)
    (hd : (x == ("__debug__" : Str)) = false:=by decide) : wpAny (model X.prog X.w) X.A (eval (.Name x pos) X.env) Q E s :=
  Calls.Name_function_global I.ok.kind hg (Calls.loadGlobal_global (by rw [I.ok.glob]; exact I.mod.glob.keeps I.bk) hm h) hd
theorem cx {E : Value→Shared→Prop} {pins : List (Addr × Obj)} {s : Shared} {σ : St} {H : Hp} {x : Str} {u : Value} {pos : Pos} {Q : Value→Shared→Prop} (I : Inv X pins σ H s) (hg : Gl X x) (hm : X.mg x = none) (hv : bootBuiltins x = some u) (h : Q u s)
    (hn : x ≠ "__name__":=by decide) (hd : (x == ("__debug__" : Str)) = false:=by decide) : wpAny (model X.prog X.w) X.A (eval (.Name x pos) X.env) Q E s:=by
  obtain ⟨mb,h1,h2⟩:=I.mod.blt
  exact Calls.Name_function_global I.ok.kind hg (Calls.loadGlobal_builtin (by rw [I.ok.glob]; exact I.mod.glob.keeps I.bk) hm (by rw [I.ok.blt]; exact h1.keeps I.bk) ((h2 x hn).trans hv) h) hd
theorem dJ {x : Str} {v : V} {u : Value} {pos : Pos} (hg : Gl X x) (hm : X.mg x = none) (hv : bootBuiltins x = some u) (r : RelV v u) (hn : x ≠ "__name__":=by decide) (hd : (x == ("__debug__" : Str)) = false:=by decide) : PE X (.Name x pos) (tC v) :=
  fun _ _ _ H _ I h=>cx I hg hm hv ⟨v,H,I,r,h⟩ hn hd
variable {a b : Expr} {ta tb : TE} {pos : Pos}
def PC (X : Cx) (op : CmpOp) (a b : Expr) (t : TE) : Prop :=
  ∀ (pins : List (Addr × Obj)) (s : Shared) (σ : St) (H : Hp) (Q : VK),Inv X pins σ H s→t σ H Q →
    wpAny (model X.prog X.w) X.A (eval a X.env) (fun v s₁=>wpAny (model X.prog X.w) X.A (eval b X.env) (fun u s₂=>wpAny (model X.prog X.w) X.A (compareOp op v u) (EP X pins σ Q) X.xe s₂) X.xe s₁) X.xe s
theorem oz (b : Expr) {op : CmpOp} (h : op ≠ .In) (h2 : op ≠ .NotIn) : behindInMarks op b = false:=by
  have e1 : (op == CmpOp.In) = false:=by cases op <;> first | rfl | exact absurd rfl h
  have e2 : (op == CmpOp.NotIn) = false:=by cases op <;> first | rfl | exact absurd rfl h2
  cases b <;> simp [behindInMarks,e1,e2]
def tU (ta : TE) : TE:=fun σ H Q=>ta σ H fun x H1=>Q (.bl (decide (x = .non))) H1
def sk (ta : TE) : TE:=fun σ H Q=>ta σ H fun x H1=>Q (.bl (!decide (x = .non))) H1
theorem RelV.none_iff {x : V} {v : Value} (r : RelV x v) : (v == Value.none) = decide (x = .non):=by
  cases x with
  | non=>cases r; rfl
  | bl _=>cases r; rfl
  | int _=>obtain ⟨t,rfl⟩:=r; rfl
  | str _=>obtain ⟨t,rfl⟩:=r; rfl
  | byt _=>obtain ⟨t,rfl⟩:=r; rfl
  | flt _=>obtain ⟨t,rfl⟩:=r; rfl
  | ref _=>cases r; rfl
  | ty _=>cases r; rfl
theorem dZ {j pos'} (ha : PE X a ta) : PC X .Is a (.Constant .none j pos') (tU ta):=by
  intro pins s σ H Q I h
  refine thn (ha pins s σ H _ I h) fun v s1 hm0=>?_
  obtain ⟨x,H1,I1,r1,q1⟩:=hm0
  exact Constant_none (is_none_gen ⟨.bl _,H1,I1,by rw [r1.none_iff]; rfl,q1⟩)
theorem eK {j pos'} (ha : PE X a ta) : PC X .IsNot a (.Constant .none j pos') (sk ta):=by
  intro pins s σ H Q I h
  refine thn (ha pins s σ H _ I h) fun v s1 hm0=>?_
  obtain ⟨x,H1,I1,r1,q1⟩:=hm0
  exact Constant_none (isnot_none_gen ⟨.bl _,H1,I1,by rw [r1.none_iff]; rfl,q1⟩)
def tB (t : TE) : TT:=fun σ H Q=>t σ H fun x H1=>∃ c,x = .bl c∧Q c H1
theorem b8 {op : CmpOp} {t : TE} (h : PC X op a b t) (h1 : behindInMarks op b = false:=by first | exact oz _ (by decide) (by decide) | rfl) : PT X (.Compare a [op] [b] pos) (tB t):=by
  intro pins s σ H Q I hw
  refine wpAny_isTrue_Compare1 (thn (h pins s σ H _ I hw) fun v s1 h1=>thn h1 fun u s2 h2=>thn h2 fun c s3 hm0=>?_) h1
  obtain ⟨x,H1,I1,r1,q1⟩:=hm0
  obtain ⟨d,rfl,q⟩:=q1
  cases r1
  exact wpAny_truthy_bool ⟨H1,I1,q⟩
theorem bV {e : Expr} {t : TE} (h : PE X e t) (he : ∀ whole,isTrue e X.env whole = (do let v ← whole; standAt e.pos; holding [v] (truthy v)):=by intro _; rfl) : PT X e (tB t):=by
  intro pins s σ H Q I hw
  refine isTrue_plain (thn (h pins s σ H _ I hw) fun v s1 hm0=>?_) (he _)
  obtain ⟨x,H1,I1,r1,q1⟩:=hm0
  obtain ⟨d,rfl,q⟩:=q1
  cases r1
  exact wpAny_truthy_bool ⟨H1,I1,q⟩
variable {tA tB' : TT} {rest : List Expr}
def tN (t u : TT) : TT:=fun σ H Q=>t σ H fun c H1=>if c = true then u σ H1 Q else Q false H1
def tOr (t u : TT) : TT:=fun σ H Q=>t σ H fun c H1=>if c = true then Q true H1 else u σ H1 Q
def tZ (t : TT) : TT:=fun σ H Q=>t σ H fun c H1=>Q (!c) H1
theorem dG (ha : PT X a tA) : PW X (.BoolOp .And [a] pos) tA:=by
  intro wh pins s σ H Q I h
  refine isTrue_and (thn (ha pins s σ H Q I h) fun c s1 e=>?_)
  cases c with
  | true=>exact isTrue_and_nil e
  | false=>exact e
theorem dF (ha : PT X a tA) : PW X (.BoolOp .Or [a] pos) tA:=by
  intro wh pins s σ H Q I h
  refine isTrue_or (thn (ha pins s σ H Q I h) fun c s1 e=>?_)
  cases c with
  | false=>exact isTrue_or_nil e
  | true=>exact e
theorem e7 (ha : PT X a tA) (hb : PW X (.BoolOp .And (b :: rest) pos) tB') : PW X (.BoolOp .And (a :: b :: rest) pos) (tN tA tB'):=by
  intro wh pins s σ H Q I h
  refine isTrue_and (thn (ha pins s σ H _ I h) fun c s1 hm0=>?_)
  obtain ⟨H1,I1,q1⟩:=hm0
  cases c with
  | true=>exact hb wh pins s1 σ H1 Q I1 q1
  | false=>exact ⟨H1,I1,q1⟩
theorem eB (ha : PT X a tA) (hb : PW X (.BoolOp .Or (b :: rest) pos) tB') : PW X (.BoolOp .Or (a :: b :: rest) pos) (tOr tA tB'):=by
  intro wh pins s σ H Q I h
  refine isTrue_or (thn (ha pins s σ H _ I h) fun c s1 hm0=>?_)
  obtain ⟨H1,I1,q1⟩:=hm0
  cases c with
  | true=>exact ⟨H1,I1,q1⟩
  | false=>exact hb wh pins s1 σ H1 Q I1 q1
theorem c8 (ha : PT X a tA) : PT X (.UnaryOp .Not a pos) (tZ tA):=by
  intro pins s σ H Q I h
  exact isTrue_not (ha pins s σ H (fun c H1=>Q (!c) H1) I h)
def sx (ta tb : TE) : TE:=fun σ H Q=>ta σ H fun x H1=>∃ c,x = .bl c∧if c = true then tb σ H1 Q else Q (.bl false) H1
def tO (ta tb : TE) : TE:=fun σ H Q=>ta σ H fun x H1=>∃ c,x = .bl c∧if c = true then Q (.bl true) H1 else tb σ H1 Q
def sX (ta : TE) : TE:=fun σ H Q=>ta σ H fun x H1=>∃ c,x = .bl c∧Q (.bl (!c)) H1
theorem eX {op} {t : TE} (h : PE X a t) : PE X (.BoolOp op [a] pos) t:=fun pins s σ H Q I hw=>BoolOp_one (h pins s σ H Q I hw)
theorem gK (ha : PE X a ta) (hb : PE X (.BoolOp .And (b :: rest) pos) tb) : PE X (.BoolOp .And (a :: b :: rest) pos) (sx ta tb):=by
  intro pins s σ H Q I h
  refine BoolOp_and (thn (ha pins s σ H _ I h) fun v s1 hm0=>?_)
  obtain ⟨x,H1,I1,r1,q1⟩:=hm0
  obtain ⟨c,rfl,q1⟩:=q1
  cases r1
  refine wpAny_truthy_bool ?_
  cases c with
  | true=>exact hb pins s1 σ H1 Q I1 q1
  | false=>exact ⟨.bl false,H1,I1,rfl,q1⟩
theorem sG (ha : PE X a ta) (hb : PE X (.BoolOp .Or (b :: rest) pos) tb) : PE X (.BoolOp .Or (a :: b :: rest) pos) (tO ta tb):=by
  intro pins s σ H Q I h
  refine BoolOp_or (thn (ha pins s σ H _ I h) fun v s1 hm0=>?_)
  obtain ⟨x,H1,I1,r1,q1⟩:=hm0
  obtain ⟨c,rfl,q1⟩:=q1
  cases r1
  refine wpAny_truthy_bool ?_
  cases c with
  | false=>exact hb pins s1 σ H1 Q I1 q1
  | true=>exact ⟨.bl true,H1,I1,rfl,q1⟩
theorem rD (ha : PE X a ta) : PE X (.UnaryOp .Not a pos) (sX ta):=by
  intro pins s σ H Q I h
  refine UnaryOp_ (thn (ha pins s σ H _ I h) fun v s1 hm0=>?_)
  obtain ⟨x,H1,I1,r1,q1⟩:=hm0
  obtain ⟨c,rfl,q1⟩:=q1
  cases r1
  exact not_of (wpAny_truthy_bool ⟨.bl (!c),H1,I1,rfl,q1⟩)
def tIf (t : TT) (ta tb : TE) : TE:=fun σ H Q=>t σ H fun c H1=>if c = true then ta σ H1 Q else tb σ H1 Q
theorem cY {c : Expr} (hc : PT X c tA) (ha : PE X a ta) (hb : PE X b tb) : PE X (.IfExp c a b pos) (tIf tA ta tb):=by
  intro pins s σ H Q I h
  refine wpAny_IfExp (thn (hc pins s σ H _ I h) fun d s1 hm0=>?_)
  obtain ⟨H1,I1,q1⟩:=hm0
  cases d with
  | true=>exact ha pins s1 σ H1 Q I1 q1
  | false=>exact hb pins s1 σ H1 Q I1 q1
end
def SqL (K : PySem.W.Frag) (H : Hp) (a : Addr) (xs : List V) : Prop :=
  Rd H a (.lst xs) ∨
    ∃ (o : Obj) (its : Array Value) (n : Nat),K.lookup a = some o∧o.cls = .type "list"∧o.dict = none∧o.data = .seq its n∧its.size ≤ sizeLine∧Vals xs its.toList
def SqT (K : PySem.W.Frag) (H : Hp) (a : Addr) (xs : List V) : Prop :=
  Rd H a (.tup xs) ∨
    ∃ (o : Obj) (its : Array Value) (n : Nat),K.lookup a = some o∧o.cls = .type "tuple"∧o.data = .seq its n∧its.size ≤ sizeLine∧Vals xs its.toList
def tQ : Value→Option V
  | .none=>some .non
  | .bool b=>some (.bl b)
  | .int i _=>some (.int i)
  | .str x _=>some (.str x)
  | .bytes b _=>some (.byt b)
  | .float b _=>some (.flt b)
  | .ref a=>some (.ref a)
  | .type n=>some (.ty n)
  | _=>none
theorem RelV.abs {x : V} {u : Value} (r : RelV x u) : tQ u = some x:=by
  cases x with
  | non=>cases r; rfl
  | bl _=>cases r; rfl
  | int _=>obtain ⟨t,rfl⟩:=r; rfl
  | str _=>obtain ⟨t,rfl⟩:=r; rfl
  | byt _=>obtain ⟨t,rfl⟩:=r; rfl
  | flt _=>obtain ⟨t,rfl⟩:=r; rfl
  | ref _=>cases r; rfl
  | ty _=>cases r; rfl
theorem RelV.inj {x y : V} {u : Value} (r : RelV x u) (q : RelV y u) : x = y:=Option.some.inj (r.abs.symm.trans q.abs)
theorem Vals.inj : ∀ {xs ys : List V} {us : List Value},Vals xs us→Vals ys us→xs = ys
  | _,_,_,.nil,.nil=>rfl
  | _,_,_,.cons r t,.cons r' t'=>by rw [r.inj r',Vals.inj t t']
section
variable {X : Cx} {pins : List (Addr × Obj)} {σ : St} {H : Hp} {s : Shared} {a : Addr} {xs ys : List V}
theorem SqL.of {K : PySem.W.Frag} (h : H a = some (.lst xs)) : SqL K H a xs:=.inl (.inl h)
theorem SqT.of {K : PySem.W.Frag} (h : H a = some (.tup xs)) : SqT K H a xs:=.inl (.inl h)
theorem Inv.list (I : Inv X pins σ H s) (h : SqL X.K H a xs) : ∃ its : List Value,Vals xs its∧PlainL s.heap a its.toArray∧xs.length ≤ sizeLine:=by
  rcases h with h | ⟨o,its,n,hk,hc,hd,hs,hz,r⟩
  · obtain ⟨z,its,n,r,e⟩:=h.ok I.hok
    exact ⟨its,r,⟨_,n,e,rfl,rfl,rfl⟩,z⟩
  · refine ⟨its.toList,r,⟨o,n,I.kIn a o hk,hc,hd,by simpa using hs⟩,?_⟩
    have e:=r.length
    simp only [Array.length_toList] at e
    omega
theorem Inv.tuple (I : Inv X pins σ H s) (h : SqT X.K H a xs) : ∃ its : List Value,Vals xs its∧IsTup s.heap a its.toArray∧xs.length ≤ sizeLine:=by
  rcases h with h | ⟨o,its,n,hk,hc,hs,hz,r⟩
  · obtain ⟨z,its,r,p⟩:=h.ok I.hok
    exact ⟨its,r,p,z⟩
  · refine ⟨its.toList,r,⟨o,I.kIn a o hk,hc,n,by simpa using hs⟩,?_⟩
    have e:=r.length
    simp only [Array.length_toList] at e
    omega
theorem Inv.list_inj (I : Inv X pins σ H s) (h : SqL X.K H a xs) (h' : SqL X.K H a ys) : xs = ys:=by
  obtain ⟨its,r,⟨o,n,e,_,_,d⟩,_⟩:=I.list h
  obtain ⟨its',r',⟨o',n',e',_,_,d'⟩,_⟩:=I.list h'
  rw [e] at e'; cases e'
  rw [d] at d'
  injection d' with d1 _
  have : its = its':=by simpa using congrArg Array.toList d1
  subst this
  exact r.inj r'
end
abbrev Cx.wish (X : Cx) (E : Value→Shared→Prop) : Cx:={ X with xe:=E }
abbrev Cx.nox (X : Cx) : Cx:=X.wish fun _ _=>False
theorem Cx.Ok.wish {X : Cx} (ok : X.Ok) (E : Value→Shared→Prop) : (X.wish E).Ok :=
  ⟨ok.mod,ok.kind,ok.glob,ok.blt,ok.above,ok.inj,ok.has,ok.cab,ok.hd,ok.frames,ok.stk,ok.exf,ok.bs,ok.bsz,ok.noex,ok.exfs,ok.funs,ok.frf⟩
theorem Cx.Ok.unwish {X : Cx} {E : Value→Shared→Prop} (ok : (X.wish E).Ok) : X.Ok :=
  ⟨ok.mod,ok.kind,ok.glob,ok.blt,ok.above,ok.inj,ok.has,ok.cab,ok.hd,ok.frames,ok.stk,ok.exf,ok.bs,ok.bsz,ok.noex,ok.exfs,ok.funs,ok.frf⟩
section
variable {X : Cx} {pins : List (Addr × Obj)} {σ : St} {H : Hp} {s : Shared} {E : Value→Shared→Prop}
theorem Inv.wish (I : Inv X pins σ H s) (E : Value→Shared→Prop) : Inv (X.wish E) pins σ H s:=⟨I.ok.wish E,I.os,I.bare,I.base,I.loc,I.cell,I.free,I.freeC,I.pin,I.hok,I.len⟩
theorem Inv.unwish (I : Inv (X.wish E) pins σ H s) : Inv X pins σ H s:=⟨I.ok.unwish,I.os,I.bare,I.base,I.loc,I.cell,I.free,I.freeC,I.pin,I.hok,I.len⟩
theorem SP.unwish {D : Ends} {f : Flow} {s' : Shared} (h : SP (X.wish E) pins D f s') : SP X pins D f s':=by
  cases f with
  | next=>obtain ⟨σ',H',I,q⟩:=h; exact ⟨σ',H',I.unwish,q⟩
  | brk=>obtain ⟨σ',H',I,q⟩:=h; exact ⟨σ',H',I.unwish,q⟩
  | cont=>obtain ⟨σ',H',I,q⟩:=h; exact ⟨σ',H',I.unwish,q⟩
  | ret u=>obtain ⟨v,σ',H',I,r,q⟩:=h; exact ⟨v,σ',H',I.unwish,r,q⟩
theorem PSs.nox {st : List Stmt} {t : TS} (h : PSs X.nox st t) : PSs X st t:=fun pins s σ H D I hw =>
  wpAny_mono (h pins s σ H D (I.wish _) hw) (fun _ _ q=>q.unwish) fun _ _ z=>False.elim z
end
section
variable {X : Cx} {st : Stmt} {rest : List Stmt} {t u : TS} {e : Expr} {te : TE} {pos : Pos}
def sV : TS:=fun D σ H=>D.nx σ H
def tX (t u : TS) : TS:=fun D σ H=>t { D with nx:=u D } σ H
theorem aE : PSs X [] sV:=fun _ _ σ H _ I h=>wpAny_execs_nil ⟨σ,H,I,h⟩
theorem ac (h1 : PS X st t) (h2 : PSs X rest u) : PSs X (st :: rest) (tX t u):=by
  intro pins s σ H D I h
  refine wpAny_execs_cons (thn (h1 pins s σ H { D with nx:=u D } I h) fun f s1 q=>?_)
  cases f with
  | next =>
    obtain ⟨σ',H',I',q⟩:=q
    exact h2 pins s1 σ' H' D I' q
  | ret v=>exact q
  | brk=>exact q
  | cont=>exact q
theorem ag (h1 : PS X st t) : PSs X [st] t:=by
  intro pins s σ H D I h
  refine wpAny_execs_cons (thn (h1 pins s σ H D I h) fun f s1 q=>?_)
  cases f with
  | next=>exact wpAny_execs_nil q
  | ret v=>exact q
  | brk=>exact q
  | cont=>exact q
def sn : TS:=fun D σ H=>D.ct σ H
theorem fD : PS X (.Continue pos) sn:=fun _ _ σ H _ I h=>wpAny_Continue ⟨σ,H,I,h⟩
theorem Inv.quiet {pins : List (Addr × Obj)} {σ : St} {H : Hp} {s : Shared} (I : Inv X pins σ H s) : interactive X.env = false:=by simp [interactive,I.ok.kind]
def sM (te : TE) : TS:=fun D σ H=>te σ H fun _ H1=>D.nx σ H1
theorem aM (he : PE X e te) (hs : swapsWith e none pos.line X.env = pure false:=by rfl) : PS X (.Expr e pos) (sM te):=by
  intro pins s σ H D I h
  refine wpAny_Expr_any (thn (he pins s σ H _ I h) fun v s1 hm0=>?_) I.quiet hs
  obtain ⟨x,H1,I1,r1,q1⟩:=hm0
  exact ⟨σ,H1,I1,q1⟩
def ud (te : TE) : TS:=fun D σ H=>te σ H D.rt
theorem aC (he : PE X e te) : PS X (.Return (some e) pos) (ud te):=by
  intro pins s σ H D I h
  refine wpAny_Return_some (thn (he pins s σ H _ I h) fun v s1 hm0=>?_)
  obtain ⟨x,H1,I1,r1,q1⟩:=hm0
  exact ⟨x,σ,H1,I1,r1,q1⟩
def tY (c : TT) (t u : TS) : TS:=fun D σ H=>c σ H fun b H1=>if b = true then t D σ H1 else u D σ H1
theorem aZ {c : Expr} {a b : List Stmt} {tc : TT} (hc : PT X c tc) (ha : PSs X a t) (hb : PSs X b u) : PS X (.If c a b pos) (tY tc t u):=by
  intro pins s σ H D I h
  refine wpAny_If (thn (hc pins s σ H _ I h) fun d s1 hm0=>?_)
  obtain ⟨H1,I1,q1⟩:=hm0
  cases d with
  | true=>exact ha pins s1 σ H1 D I1 q1
  | false=>exact hb pins s1 σ H1 D I1 q1
def rp : TS:=fun _ _ _=>False
theorem cG : PS X st rp:=fun _ _ _ _ _ _ h=>h.elim
end
abbrev TG:=V→St→Hp→(St→Hp→Prop)→Prop
abbrev TGs:=List V→St→Hp→(St→Hp→Prop)→Prop
def PG (X : Cx) (target : Expr) (t : TG) : Prop :=
  ∀ (pins : List (Addr × Obj)) (s : Shared) (σ : St) (H : Hp) (v : V) (u : Value) (Q : St→Hp→Prop),Inv X pins σ H s→RelV v u→t v σ H Q →
    wpAny (model X.prog X.w) X.A (assign target X.env u) (fun _ s'=>∃ σ' H',Inv X pins σ' H' s'∧Q σ' H') X.xe s
def PGs (X : Cx) (ts : List Expr) (t : TGs) : Prop :=
  ∀ (pins : List (Addr × Obj)) (s : Shared) (σ : St) (H : Hp) (vs : List V) (us : List Value) (Q : St→Hp→Prop),Inv X pins σ H s→Vals vs us→t vs σ H Q →
    wpAny (model X.prog X.w) X.A (assignInOrder ((assignEach ts X.env).map (·.2)) us) (fun _ s'=>∃ σ' H',Inv X pins σ' H' s'∧Q σ' H') X.xe s
abbrev rs:=V→V→V→Hp→(Hp→Prop)→Prop
def sW (X : Cx) (t : rs) : Prop :=
  ∀ (pins : List (Addr × Obj)) (s : Shared) (σ : St) (H : Hp) (o i v : V) (ov iv u : Value) (Q : Hp→Prop),Inv X pins σ H s→RelV o ov→RelV i iv→RelV v u→t o i v H Q →
    wpAny (model X.prog X.w) X.A (setItem ov iv u) (fun _ s'=>∃ H',Inv X pins σ H' s'∧Q H') X.xe s
abbrev TIp:=V→V→Hp→VK→Prop
def PIp (X : Cx) (op : Operator) (t : TIp) : Prop :=
  ∀ (pins : List (Addr × Obj)) (s : Shared) (σ : St) (H : Hp) (x y : V) (v u : Value) (Q : VK),Inv X pins σ H s→RelV x v→RelV y u→t x y H Q →
    wpAny (model X.prog X.w) X.A (inplaceOp op v u) (EP X pins σ Q) X.xe s
section
variable {X : Cx} {pos : Pos}
def dj (i : Nat) : TG:=fun v σ H Q=>Q (σ.set i (some v)) H
theorem aD {i : Nat} {x : Str} (hN : X.N.Nodup) (hi : X.N[i]? = some x) (hx : Loc X.env.scope x) (hf : X.fn x = true ∨ X.env.scope.names.lookup x = some .local:=by first | exact .inl rfl | exact .inr rfl | assumption) : PG X (.Name x pos) (dj i):=by
  intro pins s σ H v u Q I r h
  exact wpAny_assign_Name (gc I hN hi hx r (fun s' I'=>⟨_,H,I',h⟩) hf)
def qf : TGs:=fun vs σ H Q=>vs = []∧Q σ H
def f6 (t : TG) (u : TGs) : TGs:=fun vs σ H Q=>∃ v r,vs = v :: r∧t v σ H fun σ' H'=>u r σ' H' Q
theorem cO : PGs X [] qf:=by
  intro pins s σ H vs us Q I r h
  obtain ⟨e,h⟩:=h
  subst e
  cases r
  exact assignInOrder_nil ⟨σ,H,I,h⟩
theorem aO {e : Expr} {es : List Expr} {t : TG} {u : TGs} (h1 : PG X e t) (h2 : PGs X es u)
    (hs : (assignEach (e :: es) X.env).map (·.2) = assign e X.env :: (assignEach es X.env).map (·.2):=by rfl) : PGs X (e :: es) (f6 t u):=by
  intro pins s σ H vs us Q I r h
  obtain ⟨v,vr,e1,h⟩:=h
  subst e1
  cases r with
  | cons r rr =>
    rw [hs]
    refine assignInOrder_cons (thn (h1 pins s σ H _ _ _ I r h) fun _ s1 hm0=>?_)
    obtain ⟨σ1,H1,I1,q1⟩:=hm0
    exact h2 pins s1 σ1 H1 _ _ Q I1 rr q1
def rK (K : PySem.W.Frag) (n : Nat) (t : TGs) : TG:=fun v σ H Q=>∃ a xs,v = .ref a∧SqT K H a xs∧xs.length = n∧t xs σ H Q
theorem dE {es : List Expr} {k : Nat} {t : TGs} {n : Nat} (hc : X.calm = true) (h : PGs X es t)
    (hn : (assignEach es X.env).length = n:=by rfl) (hst : (assignEach es X.env).findIdx? (·.1) = none:=by rfl) : PG X (.Tuple es k pos) (rK X.K n t):=by
  intro pins s σ H v u Q I r hw
  obtain ⟨a,xs,e1,hq,hl,hw⟩:=hw
  subst e1
  cases r
  obtain ⟨its,rv,ht,hz⟩:=I.tuple hq
  refine assign_Tuple_tuple (I.ok.hd hc) ht (by simp [hn,← hl,rv.length]) hst fun h' hx=>?_
  have I1 : Inv X pins σ H { s with heap:=h' }:=I.kept (t':=s.toks) fun b o e=>hx b o (Nat.ne_of_lt (Heap.lt_size e)) e
  exact h pins _ σ H xs _ Q I1 (by simpa using rv) hw
def tG (to ti : TE) (t : rs) : TG:=fun v σ H Q=>to σ H fun o H1=>ti σ H1 fun i H2=>t o i v H2 fun H3=>Q σ H3
theorem kN {o i : Expr} {to ti : TE} {t : rs} (ho : PE X o to) (hi : PE X i ti) (hs : sW X t)
    (ha : ∀ v,assign (.Subscript o i pos) X.env v = (do
      let ov ← holding [v] (eval o X.env)
      let iv ← holding [v,ov] (eval i X.env)
      standAt pos
      holding [v,ov,iv] (setItem ov iv v)
      release [v,ov,iv] []):=by intro _; rfl) : PG X (.Subscript o i pos) (tG to ti t):=by
  intro pins s σ H v u Q I r h
  rw [ha]
  refine wpAny_bind (wpAny_holding (thn (ho pins s σ H _ I h) fun ov s1 hm0=>?_))
  obtain ⟨x,H1,I1,r1,q1⟩:=hm0
  refine wpAny_bind (wpAny_holding (thn (hi pins s1 σ H1 _ I1 q1) fun iv s2 hm0=>?_))
  obtain ⟨y,H2,I2,r2,q2⟩:=hm0
  refine wpAny_bind (wpAny_standAt (wpAny_bind (wpAny_holding (thn (hs pins s2 σ H2 x y v ov iv u _ I2 r1 r2 r q2) fun _ s3 hm0=>?_))))
  obtain ⟨H3,I3,q3⟩:=hm0
  exact wpAny_release ⟨σ,H3,I3,q3⟩
def pT (te : TE) (g : TG) : TS:=fun D σ H=>te σ H fun x H1=>g x σ H1 D.nx
theorem kB {tg e : Expr} {te : TE} {g : TG} (he : PE X e te) (hg : PG X tg g) (hs : swapsWithSole [tg] e pos.line X.env = pure false:=by rfl) (hw : swappedStores [tg] e X.env = pure none:=by rfl)
    (h1 : (assignEach [tg] X.env).map (·.2) = [assign tg X.env]:=by rfl) : PS X (.Assign [tg] e pos) (pT te g):=by
  intro pins s σ H D I h
  refine wpAny_Assign_stores (thn (he pins s σ H _ I h) fun v s1 hm0=>?_) hs hw
  obtain ⟨x,H1,I1,r1,q1⟩:=hm0
  rw [h1]
  exact thn (hg pins s1 σ H1 x v _ I1 r1 q1) fun _ s2 q=>q
theorem au {i : Nat} {x : Str} {e : Expr} {te : TE} {pos' : Pos} (hN : X.N.Nodup) (hi : X.N[i]? = some x) (hx : Loc X.env.scope x) (he : PE X e te) (hs : swapsWith e (some (.Name x pos')) pos.line X.env = pure false:=by rfl) (hf : X.fn x = true ∨ X.env.scope.names.lookup x = some .local:=by first | exact .inl rfl | exact .inr rfl | assumption) :
    PS X (.Assign [.Name x pos'] e pos) (pT te (dj i)):=by
  intro pins s σ H D I h
  refine wpAny_Assign_Name (thn (he pins s σ H _ I h) fun v s1 hm0=>?_) hs
  obtain ⟨y,H1,I1,r1,q1⟩:=hm0
  exact gc I1 hN hi hx r1 (fun s2 I2=>⟨_,H1,I2,q1⟩) hf
def ipI (f : Int→Int→Int) : TIp:=fun x y H Q=>∃ i j,x = .int i∧y = .int j∧Q (.int (f i j)) H
theorem rM : PIp X .Add (ipI fun i j=>i + j):=by
  intro pins s σ H x y v u Q I r1 r2 h
  obtain ⟨i,j,e1,e2,q⟩:=h
  subst e1; subst e2
  obtain ⟨t,rfl⟩:=r1
  obtain ⟨t',rfl⟩:=r2
  exact iadd_int ⟨.int _,H,I.tok _,⟨_,rfl⟩,q⟩
end
section
variable {X : Cx} {pos : Pos}
def rj (c : TT) (tb : TS) : TS:=fun D σ H=>∃ W : Nat→St→Hp→Prop,(∃ m,W m σ H)∧∀ m σ H,W m σ H →
  c σ H fun b H1=>if b = true then ∃ N : St→Hp→Prop,(∀ σ' H',N σ' H'→∃ m',m' < m∧W m' σ' H')∧tb { D with nx:=N,ct:=N,bk:=D.nx } σ H1 else D.nx σ H1
theorem jJ {c : Expr} {body : List Stmt} {tc : TT} {tb : TS} (hp : PassesOwn (model X.prog X.w) X.A X.env X.xe) (hc : PT X c tc) (hb : PSs X body tb) : PS X (.While c body [] pos) (rj tc tb):=by
  intro pins s σ H D I h
  obtain ⟨W,⟨m0,w0⟩,turn⟩:=h
  refine wpAny_While (codeAny_whileLoop (fun n s'=>∃ σ' H',Inv X pins σ' H' s'∧W n σ' H') ?_ m0 ⟨σ,H,I,w0⟩)
  rintro n s1 ⟨σ1,H1,I1,w1⟩
  refine wpAny_passesOwn hp (thn (hc pins s1 σ1 H1 _ I1 (turn n σ1 H1 w1)) fun b s2 hm0=>?_)
  obtain ⟨H2,I2,q2⟩:=hm0
  cases b with
  | true =>
    obtain ⟨N,hN,q2⟩:=q2
    rw [if_pos rfl]
    refine wpAny_passesOwn hp (thn (hb pins s2 σ1 H2 _ I2 q2) fun f s3 q3=>?_)
    cases f with
    | next =>
      obtain ⟨σ3,H3,I3,n3⟩:=q3
      obtain ⟨m',hm,w3⟩:=hN σ3 H3 n3
      exact ⟨m',hm,σ3,H3,I3,w3⟩
    | cont =>
      obtain ⟨σ3,H3,I3,n3⟩:=q3
      obtain ⟨m',hm,w3⟩:=hN σ3 H3 n3
      exact ⟨m',hm,σ3,H3,I3,w3⟩
    | brk=>exact q3
    | ret v=>exact q3
  | false =>
    rw [if_neg Bool.false_ne_true]
    exact wpAny_execs_nil ⟨σ1,H2,I2,q2⟩
end
structure It where
  go : Nat→Hp→Prop
  yld : Nat→Hp→V→Hp→Prop
  stop : Nat→Hp→Prop
def FpOk (X : Cx) (pins : List (Addr × Obj)) (H : Hp) (b : Addr) : Prop :=
  H b = none∧b ≠ X.env.locals∧b ∉ X.fs∧(b ∈ X.ex ∨ X.s₀.heap.objs.size ≤ b)∧(∀ x c,X.env.cells.lookup x = some c→c ≠ b)∧∀ p ∈ X.pn ++ pins,p.1 ≠ b
theorem Inv.fpOk {X : Cx} {pins : List (Addr × Obj)} {σ : St} {H H' : Hp} {s : Shared} {b : Addr} (I : Inv X pins σ H s) (hb : s.heap.objs.size ≤ b) (hn : H' b = none) : FpOk X pins H' b:=by
  refine ⟨hn,Nat.ne_of_gt (Nat.lt_of_lt_of_le I.lt hb),I.nofs hb,.inr (Nat.le_trans I.sz hb),fun x c e z=>?_,fun p hp z=>?_⟩
  · obtain ⟨v,q⟩:=I.cell x c e
    exact absurd (Nat.lt_of_lt_of_le q.lt (by rw [z]; exact hb)) (Nat.lt_irrefl _)
  · exact absurd (Nat.lt_of_lt_of_le (Heap.lt_size (I.pin p hp).1) (by rw [z]; exact hb)) (Nat.lt_irrefl _)
structure Turn (P : Program) (w : World) (K : PySem.W.Frag) (tg : Expr) (J : It) (fp : List Addr) (it : Addr) (tn : Nat→Heap→Prop) : Prop where
  mem : it ∈ fp
  obj : ∀ i h,tn i h→∀ b ∈ fp,∃ o,h.get? b = some o∧∀ v,o.data ≠ .cell v
  keep : ∀ i h h',tn i h→(∀ b ∈ fp,∀ o,h.get? b = some o→h'.get? b = some o)→tn i h'
  item : ∀ (X : Cx),X.prog = P→X.w = w→X.K = K→X.calm = true→∀ (i : Nat) (pins : List (Addr × Obj)) (s : Shared) (σ : St) (H : Hp) (E : Value→Shared→Prop),Inv X pins σ H s→(∀ b ∈ fp,FpOk X pins H b)→tn i s.heap→J.go i H →
    wpAny (model P w) X.A (pyNext (.ref it)) (fun r s1=>∃ u,r = some u ∧
      wpAny (model P w) X.A (letOwnedTupleGo tg (.ref it) u) (fun _ s2=>∃ x H',Inv X pins σ H' s2∧RelV x u∧J.yld i H x H'∧tn (i + 1) s2.heap∧∀ b ∈ fp,H' b = none) E s1) E s
  done : ∀ (X : Cx),X.prog = P→X.w = w→X.K = K→X.calm = true→∀ (i : Nat) (pins : List (Addr × Obj)) (s : Shared) (σ : St) (H : Hp) (E : Value→Shared→Prop),Inv X pins σ H s→(∀ b ∈ fp,FpOk X pins H b)→tn i s.heap→J.stop i H →
    wpAny (model P w) X.A (pyNext (.ref it)) (fun r s1=>r = none∧Inv X pins σ H s1) E s
  self : ∀ (A : Around) (i : Nat) (s : Shared) (Q : Value→Shared→Prop) (E : Value→Shared→Prop),tn i s.heap→Q (.ref it) s→wpAny (model P w) A (pyIter (.ref it)) Q E s
abbrev TI:=St→Hp→(It→Hp→Prop)→Prop
def PIE (X : Cx) (pins : List (Addr × Obj)) (σ : St) (tg : Expr) (R : It→Hp→Prop) (itv : Value) (s2 : Shared) : Prop :=
  ∃ (it : Addr) (fp : List Addr) (tn : Nat→Heap→Prop) (J : It) (H' : Hp),itv = .ref it∧Inv X pins σ H' s2∧Turn X.prog X.w X.K tg J fp it tn∧tn 0 s2.heap∧(∀ b ∈ fp,FpOk X pins H' b)∧R J H'
def PI (X : Cx) (tg iter : Expr) (wi : TI) : Prop :=
  ∀ (pins : List (Addr × Obj)) (s : Shared) (σ : St) (H : Hp) (R : It→Hp→Prop),Inv X pins σ H s→wi σ H R →
    wpAny (model X.prog X.w) X.A (eval iter X.env) (fun v s1=>wpAny (model X.prog X.w) X.A (pyIter v) (PIE X pins σ tg R) X.xe s1) X.xe s
theorem qG {M : Model} {A : Around} {E : Value→Shared→Prop} {s : Shared} {tg : Expr} {it : Addr} {u : Value} {o : Obj} {n : String} {vs : Array Value} {Q : Unit→Shared→Prop} (ho : s.heap.get? it = some o) (hc : o.cls = .type n) (hd : o.data = .fields vs)
    (hn : ["enumerate","zip","dict_itemiterator","dict_reverseitemiterator","odict_iterator","itertools.zip_longest","itertools.pairwise"].contains n = false) (hQ : Q () s) : wpAny M A (letOwnedTupleGo tg (.ref it) u) Q E s:=by
  unfold letOwnedTupleGo
  cases tg <;> first
    | exact wpAny_pure hQ
    | (cases u <;> first
        | exact wpAny_pure hQ
        | (refine wpAny_bind (wpAny_load ho ?_)
           rw [hc,hd]
           show wpAny M A (if (["enumerate","zip","dict_itemiterator","dict_reverseitemiterator","odict_iterator","itertools.zip_longest","itertools.pairwise"].contains n && vs[0]? == some (rawInt _)) = true then _ else _) Q E s
           rw [if_neg (by intro h; rw [hn,Bool.false_and] at h; cases h)]
           exact wpAny_pure hQ))
def Itl (K : PySem.W.Frag) (a : Addr) : It :=
  ⟨fun i H=>∃ xs x,SqL K H a xs∧xs[i]? = some x,fun i H x H'=>H' = H∧∀ xs,SqL K H a xs→xs[i]? = some x,fun i H=>∃ xs,SqL K H a xs∧xs.length ≤ i⟩
def Itr (lo : Int) (n : Nat) : It:=⟨fun i _=>i < n,fun i H x H'=>H' = H∧x = .int (lo + i),fun i _=>n ≤ i⟩
theorem l6 {P : Program} {w : World} {K : PySem.W.Frag} {tg : Expr} (a it : Addr) : Turn P w K tg (Itl K a) [it] it (fun i h=>h.IsListIter it a i) where
  mem:=by simp
  obj:=fun i h st b hb=>by
    have e : b = it:=by simpa using hb
    subst e
    obtain ⟨o,e,c,d⟩:=st
    exact ⟨o,e,fun v z=>by rw [d] at z; cases z⟩
  keep:=fun i h h' st k=>st.at fun o e=>k it (by simp) o e
  item:=by
    intro X hP hw hK hc i pins s σ H E I hf st hg
    subst hP hw hK
    obtain ⟨xs,x,hq,hx⟩:=hg
    obtain ⟨its,rv,p,hz⟩:=I.list hq
    obtain ⟨u,hu,ru⟩:=rv.get hx
    obtain ⟨f0,f1,f2,f3,f4,f5⟩:=hf it (by simp)
    refine wpAny_pyNext_list_item st p.isList (x:=u) (by simpa using hu) fun h' st' sb=>?_
    have I1 : Inv X pins σ H { s with heap:=h' }:=I.turned (t':=s.toks) (fun b o hb e=>(sb.2 b hb).trans e) f0 f1 f3 f4 f5
    obtain ⟨o,e,c,d⟩:=id st'
    exact ⟨u,rfl,qG (s:={ s with heap:=h' }) e c d (by decide) ⟨x,H,I1,ru,⟨rfl,fun ys hy=>by rw [I.list_inj hy hq]; exact hx⟩,st',fun b hb=>(hf b hb).1⟩⟩
  done:=by
    intro X hP hw hK hc i pins s σ H E I hf st hg
    subst hP hw hK
    obtain ⟨xs,hq,hx⟩:=hg
    obtain ⟨its,rv,p,hz⟩:=I.list hq
    obtain ⟨f0,f1,f2,f3,f4,f5⟩:=hf it (by simp)
    have hl:=rv.length
    exact wpAny_pyNext_list_end (I.ok.hd hc) st p.isList (by simp; omega) fun h' eb=>⟨rfl,I.turned (t':=s.toks) (fun b o hb e=>eb b o hb e) f0 f1 f3 f4 f5⟩
  self:=fun _ _ _ _ _ st h=>wpAny_pyIter_listiter st h
theorem kt {P : Program} {w : World} {K : PySem.W.Frag} {tg : Expr} (it : Addr) (lo : Int) (n : Nat) : Turn P w K tg (Itr lo n) [it] it (fun i h=>IsRangeIter h it (lo + (i : Nat) * 1) ((n : Int) - (i : Nat)) 1) where
  mem:=by simp
  obj := fun i h st b hb=>by
    have e : b = it:=by simpa using hb
    subst e
    exact ⟨_,st,fun v z=>by
      have z' : Data.fields _ = Data.cell v:=z
      cases z'⟩
  keep:=fun i h h' st k=>k it (by simp) _ st
  item:=by
    intro X hP hw hK hc i pins s σ H E I hf st hg
    subst hP hw hK
    obtain ⟨f0,f1,f2,f3,f4,f5⟩:=hf it (by simp)
    have W:=Walks.range (prog:=X.prog) (w:=X.w) (I.ok.hd hc) it lo 1 n
    refine W.item i s _ _ hg st fun v h' tk hv st' kk=>?_
    obtain ⟨t,rfl⟩:=hv
    have I1 : Inv X pins σ H { s with heap:=h',toks:=tk }:=I.turned (fun b o hb e=>kk b o (by simpa using hb) e) f0 f1 f3 f4 f5
    refine ⟨_,rfl,qG (s:={ s with heap:=h',toks:=tk }) (n := "range_iterator") st' rfl rfl (by decide) ⟨.int (lo + i),H,I1,⟨t,?_⟩,⟨rfl,rfl⟩,st',fun b hb=>(hf b hb).1⟩⟩
    rw [Int.mul_one]
  done:=by
    intro X hP hw hK hc i pins s σ H E I hf st hg
    subst hP hw hK
    obtain ⟨f0,f1,f2,f3,f4,f5⟩:=hf it (by simp)
    exact wpAny_pyNext_range_end (I.ok.hd hc) st (by have : n ≤ i:=hg; omega) fun h' eb=>⟨rfl,I.turned (t':=s.toks) (fun b o hb e=>eb b o hb e) f0 f1 f3 f4 f5⟩
  self:=fun _ _ _ _ _ st h=>wpAny_pyIter_rangeiter st h
section
variable {X : Cx} {tg : Expr}
def qK (K : PySem.W.Frag) (tl : TE) : TI:=fun σ H R=>tl σ H fun x H1=>∃ a,x = .ref a∧(∃ xs,SqL K H1 a xs)∧R (Itl K a) H1
theorem cf {l : Expr} {tl : TE} (hl : PE X l tl) : PI X tg l (qK X.K tl):=by
  intro pins s σ H R I h
  refine thn (hl pins s σ H _ I h) fun v s1 hm0=>?_
  obtain ⟨x,H1,I1,r1,q1⟩:=hm0
  obtain ⟨a,e,⟨xs,hq⟩,q⟩:=q1
  subst e
  cases r1
  obtain ⟨its,rv,p,hz⟩:=I1.list hq
  refine wpAny_pyIter_list p.isList ?_
  refine ⟨s1.heap.objs.size,[s1.heap.objs.size],_,_,H1,rfl,I1.kept (t':=s1.toks) fun b o e=>Heap.get?_push_of_some _ e,l6 a _,⟨_,Heap.get?_push_size _ rfl,rfl,rfl⟩,fun b hb=>?_,q⟩
  have e : b = s1.heap.objs.size:=by simpa using hb
  subst e
  exact I1.fpOk (Nat.le_refl _) (I1.hok.fresh (Nat.le_refl _))
theorem nW {pins : List (Addr × Obj)} {σ : St} {H : Hp} {s : Shared} {R : It→Hp→Prop} {E : Value→Shared→Prop} {lo hi : Int} {t u v : Tok} {tk : Nat} (I : Inv X pins σ H s) (h1 : -(2 ^ 62) ≤ lo) (h2 : lo < 2 ^ 62) (h3 : -(2 ^ 62) ≤ hi) (h4 : hi < 2 ^ 62)
    (q : R (Itr lo (hi - lo).toNat) H) : wpAny (model X.prog X.w) X.A (pyIter (.ref s.heap.objs.size)) (PIE X pins σ tg R) E { s with heap:=s.heap.push { cls:=.type "range",data:=.fields #[.int lo t,.int hi u,.int 1 v] },toks:=tk }:=by
  refine wpAny_pyIter_range (IsRange.new ..) (small_one h1 h2 h3 h4) ?_
  have I1 : Inv X pins σ H { s with heap:=s.heap.push { cls:=.type "range",data:=.fields #[.int lo t,.int hi u,.int 1 v] },toks:=tk }:=I.kept fun b o e=>Heap.get?_push_of_some _ e
  refine ⟨(s.heap.push { cls:=.type "range",data:=.fields #[.int lo t,.int hi u,.int 1 v] }).objs.size,[(s.heap.push { cls:=.type "range",data:=.fields #[.int lo t,.int hi u,.int 1 v] }).objs.size],_,_,H,rfl,
    I1.kept (t':=tk) fun b o e=>Heap.get?_push_of_some _ e,kt _ lo (hi - lo).toNat,?_,fun b hb=>?_,q⟩
  · have e1 : lo + ((0 : Nat) : Int) * 1 = lo:=by simp
    have e2 : (((hi - lo).toNat : Nat) : Int) - ((0 : Nat) : Int) = Builtin.Range.rangeSize lo hi 1:=by rw [rangeSize_one]; split <;> omega
    show IsRangeIter _ _ (lo + ((0 : Nat) : Int) * 1) ((((hi - lo).toNat : Nat) : Int) - ((0 : Nat) : Int)) 1
    rw [e1,e2]
    exact Heap.get?_push_size _ rfl
  · have e : b = (s.heap.push { cls:=.type "range",data:=.fields #[.int lo t,.int hi u,.int 1 v] }).objs.size:=by simpa using hb
    subst e
    exact I1.fpOk (Nat.le_refl _) (I1.hok.fresh (Nat.le_refl _))
def sP (ta : TA) : TI:=fun σ H R=>ta σ H fun vs H1=>∃ j : Int,vs = [.int j]∧-(2 ^ 62) ≤ j∧j < 2 ^ 62∧R (Itr 0 j.toNat) H1
theorem bB {a : Expr} {ta : TA} {p pos : Pos} (hg : Gl X "range") (hm : X.mg "range" = none) (ha : PA X [a] ta) (hs : starEach [a] X.env = [(false,eval a X.env)]:=by rfl) : PI X tg (.Call (.Name "range" p) [a] [] pos) (sP ta):=by
  intro pins s σ H R I h
  refine Call_ (cx I hg hm boot_range (PyProof.Rows.callWith_type1 (thn (ha pos pins s σ H _ I h) fun us s1 hm0=>?_) hs rfl))
  obtain ⟨vs,H1,I1,r1,q1⟩:=hm0
  obtain ⟨j,e,q1,q2,q⟩:=q1
  subst e
  cases r1 with
  | cons r rr =>
    cases rr
    obtain ⟨t,rfl⟩:=r
    exact call_range_1 (nW I1 (by omega) (by omega) q1 q2 (by simpa using q))
def tJ (wi : TI) (g : TG) (tb : TS) : TS:=fun D σ H=>wi σ H fun J H1=>∃ W : Nat→Nat→St→Hp→Prop,(∃ m,W 0 m σ H1)∧∀ i m σ H,W i m σ H →
  (J.stop i H∧D.nx σ H) ∨ (J.go i H∧∃ N : St→Hp→Prop,(∀ σ' H',N σ' H'→∃ m',m' < m∧W (i + 1) m' σ' H')∧∀ x H',J.yld i H x H'→g x σ H' fun σ2 H2=>tb { D with nx:=N,ct:=N,bk:=D.nx } σ2 H2)
def gI (fp : List Addr) (h : Heap) : List (Addr × Obj):=fp.filterMap fun b=>(h.get? b).map fun o=>(b,o)
theorem de {fp : List Addr} {h : Heap} {b : Addr} {o : Obj} (hb : b ∈ fp) (e : h.get? b = some o) : (b,o) ∈ gI fp h:=List.mem_filterMap.mpr ⟨b,hb,by rw [e]; rfl⟩
theorem lU {fp : List Addr} {h : Heap} {p : Addr × Obj} (hp : p ∈ gI fp h) : p.1 ∈ fp∧h.get? p.1 = some p.2:=by
  obtain ⟨b,hb,e⟩:=List.mem_filterMap.mp hp
  cases q : h.get? b with
  | none=>rw [q] at e; cases e
  | some o =>
    rw [q] at e
    have e' : (b,o) = p:=Option.some.inj e
    subst e'
    exact ⟨hb,q⟩
theorem Inv.pinned {pins : List (Addr × Obj)} {σ : St} {H : Hp} {s : Shared} {fp : List Addr} (I : Inv X pins σ H s) (hf : ∀ b ∈ fp,FpOk X pins H b) (ho : ∀ b ∈ fp,∃ o,s.heap.get? b = some o∧∀ v,o.data ≠ .cell v) : Inv X (pins ++ gI fp s.heap) σ H s :=
  I.pins_of fun p hp=>(List.mem_append.mp hp).elim (fun z=>I.pin p (List.mem_append_right _ z)) fun z=>by
    obtain ⟨hb,e⟩:=lU z
    obtain ⟨f0,f1,f2,_⟩:=hf p.1 hb
    obtain ⟨o,e',d⟩:=ho p.1 hb
    rw [e] at e'; cases e'
    exact ⟨e,f0,f1,f2,d⟩
theorem Inv.unpinned {pins pl : List (Addr × Obj)} {σ : St} {H : Hp} {s : Shared} (I : Inv X (pins ++ pl) σ H s) : Inv X pins σ H s:=I.pins_of fun p hp=>I.pin p (List.mem_append_right _ (List.mem_append_left _ hp))
theorem bu {iter : Expr} {body : List Stmt} {wi : TI} {g : TG} {tb : TS} {pos : Pos} (hp : PassesOwn (model X.prog X.w) X.A X.env X.xe) (hc : X.calm = true) (hi : PI X tg iter wi) (hg : PG X tg g) (hb : PSs X body tb)
    (hs : ∀ x,foldedSetIterable iter X.env x = pure x:=by intro _; rfl) : PS X (.For tg iter body [] pos) (tJ wi g tb):=by
  intro pins s σ H D I h
  refine wpAny_For (thn (hi pins s σ H _ I h) fun v s1 h1=>thn h1 fun itv s2 h2=>?_) hs
  obtain ⟨it,fp,tn,J,H2,e,I2,T,st2,f2,W,⟨m0,w0⟩,turn⟩:=h2
  subst e
  have stat : ∀ {H' : Hp},(∀ b ∈ fp,H' b = none)→∀ b ∈ fp,FpOk X pins H' b:=fun hn b hb=>⟨hn b hb,(f2 b hb).2⟩
  refine codeAny_forLoop_any (fun n s'=>∃ i σ' H',Inv X pins σ' H' s'∧tn i s'.heap∧(∀ b ∈ fp,H' b = none)∧W i n σ' H') ?_ m0 ⟨0,σ,H2,I2,st2,fun b hb=>(f2 b hb).1,w0⟩
  rintro n s3 ⟨i,σ3,H3,I3,st3,fr3,w3⟩
  rcases turn i n σ3 H3 w3 with ⟨stop,qn⟩ | ⟨go,N,hN,step⟩
  · refine wpAny_passesOwn hp (thn (T.done X rfl rfl rfl hc i pins s3 σ3 H3 X.xe I3 (stat fr3) st3 stop) fun r s4 hm0=>?_)
    obtain ⟨hr,I4⟩:=hm0
    subst hr
    exact wpAny_execs_nil ⟨σ3,H3,I4,qn⟩
  · refine wpAny_passesOwn hp (thn (T.item X rfl rfl rfl hc i pins s3 σ3 H3 X.xe I3 (stat fr3) st3 go) fun r s4 hm0=>?_)
    obtain ⟨u,hr,h4⟩:=hm0
    subst hr
    refine wpAny_passesOwn hp (thn h4 fun _ s5 hm0=>?_)
    obtain ⟨x,H5,I5,r5,y5,st5,fr5⟩:=hm0
    have I5':=I5.pinned (stat fr5) (T.obj _ _ st5)
    refine wpAny_passesOwn hp (thn (hg _ s5 σ3 H5 x u _ I5' r5 (step x H5 y5)) fun _ s6 hm0=>?_)
    obtain ⟨σ6,H6,I6,q6⟩:=hm0
    refine wpAny_passesOwn hp (thn (hb _ s6 σ6 H6 _ I6 q6) fun f s7 q7=>?_)
    have again : ∀ {σ7 : St} {H7 : Hp},Inv X (pins ++ gI fp s5.heap) σ7 H7 s7→N σ7 H7→∃ m,m < n∧∃ i σ' H',Inv X pins σ' H' s7∧tn i s7.heap∧(∀ b ∈ fp,H' b = none)∧W i m σ' H':=fun {σ7 H7} I7 n7=>by
      obtain ⟨m',hm,w7⟩:=hN σ7 H7 n7
      refine ⟨m',hm,i + 1,σ7,H7,I7.unpinned,T.keep _ _ _ st5 fun b hb o e=>(I7.pin (b,o) (List.mem_append_right _ (List.mem_append_right _ (de hb e)))).1,fun b hb=>?_,w7⟩
      obtain ⟨o,e,d⟩:=T.obj _ _ st5 b hb
      exact (I7.pin (b,o) (List.mem_append_right _ (List.mem_append_right _ (de hb e)))).2.1
    cases f with
    | next=>obtain ⟨σ7,H7,I7,n7⟩:=q7; exact again I7 n7
    | cont=>obtain ⟨σ7,H7,I7,n7⟩:=q7; exact again I7 n7
    | brk=>obtain ⟨σ7,H7,I7,q7⟩:=q7; exact ⟨σ7,H7,I7.unpinned,q7⟩
    | ret v=>obtain ⟨x7,σ7,H7,I7,r7,q7⟩:=q7; exact ⟨x7,σ7,H7,I7.unpinned,r7,q7⟩
end
theorem gP {K : PySem.W.Frag} {a : Addr} {xs : List V} {g : TG} {tb : TS} {D : Ends} {σ : St} {H : Hp} (Pv : Nat→St→Hp→Prop) (h0 : Pv 0 σ H) (hl : ∀ i σ H,i ≤ xs.length→Pv i σ H→SqL K H a xs)
    (hs : ∀ i x σ H,xs[i]? = some x→Pv i σ H→g x σ H fun σ2 H2=>tb { D with nx:=Pv (i + 1),ct:=Pv (i + 1),bk:=D.nx } σ2 H2) (hd : ∀ σ H,Pv xs.length σ H→D.nx σ H) :
    ∃ W : Nat→Nat→St→Hp→Prop,(∃ m,W 0 m σ H)∧∀ i m σ H,W i m σ H →
      ((Itl K a).stop i H∧D.nx σ H) ∨ ((Itl K a).go i H∧∃ N : St→Hp→Prop,(∀ σ' H',N σ' H'→∃ m',m' < m∧W (i + 1) m' σ' H')∧∀ x H',(Itl K a).yld i H x H'→g x σ H' fun σ2 H2=>tb { D with nx:=N,ct:=N,bk:=D.nx } σ2 H2):=by
  refine ⟨fun i m σ H=>m = xs.length - i∧i ≤ xs.length∧Pv i σ H,⟨xs.length,by simp,Nat.zero_le _,h0⟩,?_⟩
  rintro i m σ H ⟨rfl,hi,p⟩
  have q:=hl i σ H hi p
  by_cases hlt : i < xs.length
  · refine .inr ⟨⟨xs,xs[i],q,by simp [hlt]⟩,Pv (i + 1),fun σ' H' p'=>⟨xs.length - (i + 1),by omega,rfl,hlt,p'⟩,fun x H' y=>?_⟩
    obtain ⟨e,y⟩:=y
    subst e
    exact hs i x σ _ (y xs q) p
  · have e : i = xs.length:=by omega
    subst e
    exact .inl ⟨⟨xs,q,Nat.le_refl _⟩,hd σ H p⟩
theorem bP {lo : Int} {n : Nat} {g : TG} {tb : TS} {D : Ends} {σ : St} {H : Hp} (Pv : Nat→St→Hp→Prop) (h0 : Pv 0 σ H)
    (hs : ∀ i σ H,i < n→Pv i σ H→g (.int (lo + i)) σ H fun σ2 H2=>tb { D with nx:=Pv (i + 1),ct:=Pv (i + 1),bk:=D.nx } σ2 H2) (hd : ∀ σ H,Pv n σ H→D.nx σ H) :
    ∃ W : Nat→Nat→St→Hp→Prop,(∃ m,W 0 m σ H)∧∀ i m σ H,W i m σ H →
      ((Itr lo n).stop i H∧D.nx σ H) ∨ ((Itr lo n).go i H∧∃ N : St→Hp→Prop,(∀ σ' H',N σ' H'→∃ m',m' < m∧W (i + 1) m' σ' H')∧∀ x H',(Itr lo n).yld i H x H'→g x σ H' fun σ2 H2=>tb { D with nx:=N,ct:=N,bk:=D.nx } σ2 H2):=by
  refine ⟨fun i m σ H=>m = n - i∧i ≤ n∧Pv i σ H,⟨n,by simp,Nat.zero_le _,h0⟩,?_⟩
  rintro i m σ H ⟨rfl,hi,p⟩
  by_cases hlt : i < n
  · refine .inr ⟨hlt,Pv (i + 1),fun σ' H' p'=>⟨n - (i + 1),by omega,rfl,hlt,p'⟩,fun x H' y=>?_⟩
    obtain ⟨e,y⟩:=y
    subst e y
    exact hs i σ _ hlt p
  · have e : i = n:=by omega
    subst e
    exact .inl ⟨Nat.le_refl _,hd σ H p⟩
abbrev R2:=V→V→Hp→VK→Prop
def OpR (X : Cx) (f : Value→Value→Sem Value) (r : R2) : Prop :=
  ∀ (pins : List (Addr × Obj)) (s : Shared) (σ : St) (H : Hp) (x y : V) (v u : Value) (Q : VK),Inv X pins σ H s→RelV x v→RelV y u→r x y H Q →
    wpAny (model X.prog X.w) X.A (f v u) (EP X pins σ Q) X.xe s
def UnR (X : Cx) (f : Value→Sem Value) (r : V→Hp→VK→Prop) : Prop :=
  ∀ (pins : List (Addr × Obj)) (s : Shared) (σ : St) (H : Hp) (x : V) (v : Value) (Q : VK),Inv X pins σ H s→RelV x v→r x H Q →
    wpAny (model X.prog X.w) X.A (f v) (EP X pins σ Q) X.xe s
def dW (X : Cx) (f : Value) (r : List V→Hp→VK→Prop) : Prop :=
  ∀ (pins : List (Addr × Obj)) (s : Shared) (σ : St) (H : Hp) (xs : List V) (us : List Value) (Q : VK),Inv X pins σ H s→Vals xs us→r xs H Q →
    wpAny (model X.prog X.w) X.A (call f us) (EP X pins σ Q) X.xe s
def tI (X : Cx) (r : V→Hp→(Bool→Hp→Prop)→Prop) : Prop :=
  ∀ (pins : List (Addr × Obj)) (s : Shared) (σ : St) (H : Hp) (x : V) (v : Value) (Q : Bool→Hp→Prop),Inv X pins σ H s→RelV x v→r x H Q →
    wpAny (model X.prog X.w) X.A (truthy v) (TP X pins σ Q) X.xe s
def tOp (r : R2) (ta tb : TE) : TE:=fun σ H Q=>ta σ H fun x H1=>tb σ H1 fun y H2=>r x y H2 Q
def tUn (r : V→Hp→VK→Prop) (ta : TE) : TE:=fun σ H Q=>ta σ H fun x H1=>r x H1 Q
def rI (C : Int→Int→Prop) (g : Int→Int→V) : R2:=fun x y H Q=>∃ i j,x = .int i∧y = .int j∧C i j∧Q (g i j) H
def rI0 (g : Int→Int→V) : R2:=fun x y H Q=>∃ i j,x = .int i∧y = .int j∧Q (g i j) H
def rU (g : Int→V) : V→Hp→VK→Prop:=fun x H Q=>∃ i,x = .int i∧Q (g i) H
section
variable {X : Cx} {a b c : Expr} {ta tb tc : TE} {pos : Pos}
theorem rN (ha : PE X a ta) (hb : PE X b tb) {pins : List (Addr × Obj)} {s : Shared} {σ : St} {H : Hp} {R : V→V→Hp→Prop} (I : Inv X pins σ H s)
    (h : ta σ H fun x H1=>tb σ H1 fun y H2=>R x y H2) {Q : Value→Shared→Prop} {f : Value→Value→Sem Value}
    (hf : ∀ v u s2 x y H2,Inv X pins σ H2 s2→RelV x v→RelV y u→R x y H2→wpAny (model X.prog X.w) X.A (f v u) Q X.xe s2) :
    wpAny (model X.prog X.w) X.A (eval a X.env) (fun v s₁=>wpAny (model X.prog X.w) X.A (eval b X.env) (fun u s₂=>wpAny (model X.prog X.w) X.A (f v u) Q X.xe s₂) X.xe s₁) X.xe s:=by
  refine thn (ha pins s σ H _ I h) fun v s1 hm0=>?_
  obtain ⟨x,H1,I1,r1,q1⟩:=hm0
  refine thn (hb pins s1 σ H1 _ I1 q1) fun u s2 hm0=>?_
  obtain ⟨y,H2,I2,r2,q2⟩:=hm0
  exact hf v u s2 x y H2 I2 r1 r2 q2
theorem ai {op : Operator} {r : R2} (ho : OpR X (binaryOp op) r) (ha : PE X a ta) (hb : PE X b tb) : PE X (.BinOp a op b pos) (tOp r ta tb):=by
  intro pins s σ H Q I h
  exact wpAny_BinOp (rN ha hb I h fun v u s2 x y H2 I2 rx ry q=>ho pins s2 σ H2 x y v u Q I2 rx ry q)
theorem qH {op : UnaryOp} {r : V→Hp→VK→Prop} (ho : UnR X (unaryOp op) r) (ha : PE X a ta) : PE X (.UnaryOp op a pos) (tUn r ta):=by
  intro pins s σ H Q I h
  refine UnaryOp_ (thn (ha pins s σ H _ I h) fun v s1 hm0=>?_)
  obtain ⟨x,H1,I1,r1,q1⟩:=hm0
  exact ho pins s1 σ H1 x v Q I1 r1 q1
theorem opI {f : Value→Value→Sem Value} {C : Int→Int→Prop} {g : Int→Int→Int}
    (rule : ∀ (i j : Int) (t u : Tok) (s : Shared) (Q : Value→Shared→Prop) (E : Value→Shared→Prop),C i j→Q (.int (g i j) s.toks) { s with toks:=s.toks + 1 }→wpAny (model X.prog X.w) X.A (f (.int i t) (.int j u)) Q E s) :
    OpR X f (rI C fun i j=>.int (g i j)):=by
  intro pins s σ H x y v u Q I rx ry h
  obtain ⟨i,j,rfl,rfl,hc,q⟩:=h
  obtain ⟨t,rfl⟩:=rx
  obtain ⟨t',rfl⟩:=ry
  exact rule i j t t' s _ _ hc ⟨.int (g i j),H,I.tok _,⟨_,rfl⟩,q⟩
theorem sQ {f : Value→Value→Sem Value} {g : Int→Int→Int}
    (rule : ∀ (i j : Int) (t u : Tok) (s : Shared) (Q : Value→Shared→Prop) (E : Value→Shared→Prop),Q (.int (g i j) s.toks) { s with toks:=s.toks + 1 }→wpAny (model X.prog X.w) X.A (f (.int i t) (.int j u)) Q E s) :
    OpR X f (rI0 fun i j=>.int (g i j)):=by
  intro pins s σ H x y v u Q I rx ry h
  obtain ⟨i,j,rfl,rfl,q⟩:=h
  obtain ⟨t,rfl⟩:=rx
  obtain ⟨t',rfl⟩:=ry
  exact rule i j t t' s _ _ ⟨.int (g i j),H,I.tok _,⟨_,rfl⟩,q⟩
theorem o6 {f : Value→Value→Sem Value} {g : Int→Int→Bool}
    (rule : ∀ (i j : Int) (t u : Tok) (s : Shared) (Q : Value→Shared→Prop) (E : Value→Shared→Prop),Q (.bool (g i j)) s→wpAny (model X.prog X.w) X.A (f (.int i t) (.int j u)) Q E s) :
    OpR X f (rI0 fun i j=>.bl (g i j)):=by
  intro pins s σ H x y v u Q I rx ry h
  obtain ⟨i,j,rfl,rfl,q⟩:=h
  obtain ⟨t,rfl⟩:=rx
  obtain ⟨t',rfl⟩:=ry
  exact rule i j t t' s _ _ ⟨.bl (g i j),H,I,rfl,q⟩
def ua (i j : Int) : Prop:=0 < j∧j < 1073741824
def tP (i j : Int) : Prop:=0 ≤ j∧j ≤ 1000000∧i.natAbs < 2 ^ 64
def CMul (i j : Int) : Prop:=(-(2 ^ 64) < i∧i < 2 ^ 64) ∨ (-(2 ^ 64) < j∧j < 2 ^ 64)
theorem CMul.ok {i j : Int} (h : CMul i j) : IntMulOk i j:=by
  rcases h with ⟨h1,h2⟩ | ⟨h1,h2⟩
  · exact .of_left (intBits_le_64 h1 h2)
  · exact .of_right (intBits_le_64 h1 h2)
theorem aS : OpR X (binaryOp .Add) (rI0 fun i j=>.int (i + j)):=sQ fun _ _ _ _ _ _ _ q=>add_int q
theorem d6 : OpR X (binaryOp .Sub) (rI0 fun i j=>.int (i - j)):=sQ fun _ _ _ _ _ _ _ q=>sub_int q
theorem aW : OpR X (binaryOp .Mult) (rI CMul fun i j=>.int (i * j)):=opI fun _ _ _ _ _ _ _ hc q=>mul_int q hc.ok
theorem fM : OpR X (binaryOp .FloorDiv) (rI ua fun i j=>.int (i / j)):=opI fun i j _ _ _ _ _ hc q=>by
  have h1 : (0 : Int) < j:=hc.1
  have h2 : j < 1073741824:=hc.2
  exact floordiv_int (by omega) (by rw [Int.fdiv_eq_ediv_of_nonneg i (by omega)]; exact q) (.inl (PyProof.noPylong_small (by omega)))
theorem aN : OpR X (binaryOp .Mod) (rI (fun _ j=>0 < j) fun i j=>.int (i % j)):=opI fun i j _ _ _ _ _ hc q=>by
  have h1 : (0 : Int) < j:=hc
  exact mod_int' (by omega) (by rw [Int.fmod_eq_emod_of_nonneg i (by omega)]; exact q)
theorem d9 : OpR X (binaryOp .Pow) (rI tP fun i j=>.int (i ^ j.toNat)):=opI fun _ _ _ _ _ _ _ hc q=>pow_int_small hc.1 hc.2.1 hc.2.2 q
theorem unI {f : Value→Sem Value} {g : Int→Int}
    (rule : ∀ (i : Int) (t : Tok) (s : Shared) (Q : Value→Shared→Prop) (E : Value→Shared→Prop),Q (.int (g i) s.toks) { s with toks:=s.toks + 1 }→wpAny (model X.prog X.w) X.A (f (.int i t)) Q E s) :
    UnR X f (rU fun i=>.int (g i)):=by
  intro pins s σ H x v Q I rx h
  obtain ⟨i,rfl,q⟩:=h
  obtain ⟨t,rfl⟩:=rx
  exact rule i t s _ _ ⟨.int (g i),H,I.tok _,⟨_,rfl⟩,q⟩
theorem oT : UnR X (unaryOp .USub) (rU fun i=>.int (-i)):=unI fun _ _ _ _ _ q=>neg_int q
end
def sE : V→V→Bool
  | .non,.non=>true | .non,.int _=>true | .int _,.non=>true | .non,.bl _=>true | .bl _,.non=>true | .non,.str _=>true | .str _,.non=>true
  | .int _,.int _=>true | .bl _,.bl _=>true | .str _,.str _=>true | .byt _,.byt _=>true
  | .int _,.str _=>true | .str _,.int _=>true | .bl _,.str _=>true | .str _,.bl _=>true
  | _,_=>false
def rEq : R2:=fun x y H Q=>sE x y = true∧Q (.bl (decide (x = y))) H
def rNe : R2:=fun x y H Q=>sE x y = true∧Q (.bl (!decide (x = y))) H
theorem lg {i j : Int} : decide (V.int i = V.int j) = (i == j):=by
  rw [Bool.eq_iff_iff]
  simp
theorem nv {i j : Bool} : decide (V.bl i = V.bl j) = (i == j):=by
  rw [Bool.eq_iff_iff]
  simp
theorem lF {i j : Str} : decide (V.str i = V.str j) = (i == j):=by
  rw [Bool.eq_iff_iff]
  simp
theorem lL {i j : Array UInt8} : decide (V.byt i = V.byt j) = (i.toList == j.toList):=by
  rw [Bool.eq_iff_iff]
  cases i
  cases j
  simp
section
variable {X : Cx} {a b c : Expr} {ta tb tc : TE} {pos : Pos}
theorem aJ {pins : List (Addr × Obj)} {σ : St} {H : Hp} {s : Shared} {Q : VK} {k k' : Bool} (I : Inv X pins σ H s) (q : Q (.bl k) H) (e : k = k') : EP X pins σ Q (.bool k') s:=by
  subst e
  exact ⟨.bl k,H,I,rfl,q⟩
theorem cN : OpR X (compareOp .Eq) rEq:=by
  intro pins s σ H x y v u Q I rx ry h
  obtain ⟨hs,q⟩:=h
  cases x with
  | non =>
    cases rx
    cases y with
    | non=>cases ry; exact PySem.EqNone.eq_none_none (aJ I q (by simp))
    | bl j=>cases ry; exact PySem.EqNone.eq_none_bool (aJ I q (by simp))
    | int j=>obtain ⟨t',rfl⟩:=ry; exact PySem.EqNone.eq_none_int (aJ I q (by simp))
    | str j=>obtain ⟨t',rfl⟩:=ry; exact PySem.EqNone.eq_none_str (aJ I q (by simp))
    | _=>exact absurd (show false = true from hs) Bool.false_ne_true
  | bl i =>
    cases rx
    cases y with
    | non=>cases ry; exact PySem.EqNone.eq_bool_none (aJ I q (by simp))
    | bl j=>cases ry; exact eq_bool (aJ I q nv)
    | str j=>obtain ⟨t',rfl⟩:=ry; exact PySem.EqMixed.eq_bool_str (aJ I q (by simp))
    | _=>exact absurd (show false = true from hs) Bool.false_ne_true
  | int i =>
    obtain ⟨t,rfl⟩:=rx
    cases y with
    | non=>cases ry; exact PySem.EqNone.eq_int_none (aJ I q (by simp))
    | int j=>obtain ⟨t',rfl⟩:=ry; exact eq_int (aJ I q lg)
    | str j=>obtain ⟨t',rfl⟩:=ry; exact PySem.EqMixed.eq_int_str (aJ I q (by simp))
    | _=>exact absurd (show false = true from hs) Bool.false_ne_true
  | str i =>
    obtain ⟨t,rfl⟩:=rx
    cases y with
    | non=>cases ry; exact PySem.EqNone.eq_str_none (aJ I q (by simp))
    | bl j=>cases ry; exact PySem.EqMixed.eq_str_bool (aJ I q (by simp))
    | int j=>obtain ⟨t',rfl⟩:=ry; exact PySem.EqMixed.eq_str_int (aJ I q (by simp))
    | str j=>obtain ⟨t',rfl⟩:=ry; exact eq_str (aJ I q lF)
    | _=>exact absurd (show false = true from hs) Bool.false_ne_true
  | byt i =>
    obtain ⟨t,rfl⟩:=rx
    cases y with
    | byt j=>obtain ⟨t',rfl⟩:=ry; exact PySem.W.eq_bytes (aJ I q lL)
    | _=>exact absurd (show false = true from hs) Bool.false_ne_true
  | _=>cases y <;> exact absurd (show false = true from hs) Bool.false_ne_true
theorem gD : OpR X (compareOp .NotEq) rNe:=by
  intro pins s σ H x y v u Q I rx ry h
  obtain ⟨hs,q⟩:=h
  cases x with
  | non =>
    cases rx
    cases y with
    | non=>cases ry; exact PySem.EqNone.ne_none_none (aJ I q (by simp))
    | bl j=>cases ry; exact PySem.EqNone.ne_none_bool (aJ I q (by simp))
    | int j=>obtain ⟨t',rfl⟩:=ry; exact PySem.EqNone.ne_none_int (aJ I q (by simp))
    | str j=>obtain ⟨t',rfl⟩:=ry; exact PySem.EqNone.ne_none_str (aJ I q (by simp))
    | _=>exact absurd (show false = true from hs) Bool.false_ne_true
  | bl i =>
    cases rx
    cases y with
    | non=>cases ry; exact PySem.EqNone.ne_bool_none (aJ I q (by simp))
    | bl j=>cases ry; exact ne_bool (aJ I q (congrArg not nv))
    | str j=>obtain ⟨t',rfl⟩:=ry; exact PySem.EqMixed.ne_bool_str (aJ I q (by simp))
    | _=>exact absurd (show false = true from hs) Bool.false_ne_true
  | int i =>
    obtain ⟨t,rfl⟩:=rx
    cases y with
    | non=>cases ry; exact PySem.EqNone.ne_int_none (aJ I q (by simp))
    | int j=>obtain ⟨t',rfl⟩:=ry; exact ne_int (aJ I q (congrArg not lg))
    | str j=>obtain ⟨t',rfl⟩:=ry; exact PySem.EqMixed.ne_int_str (aJ I q (by simp))
    | _=>exact absurd (show false = true from hs) Bool.false_ne_true
  | str i =>
    obtain ⟨t,rfl⟩:=rx
    cases y with
    | non=>cases ry; exact PySem.EqNone.ne_str_none (aJ I q (by simp))
    | bl j=>cases ry; exact PySem.EqMixed.ne_str_bool (aJ I q (by simp))
    | int j=>obtain ⟨t',rfl⟩:=ry; exact PySem.EqMixed.ne_str_int (aJ I q (by simp))
    | str j=>obtain ⟨t',rfl⟩:=ry; exact ne_str (aJ I q (congrArg not lF))
    | _=>exact absurd (show false = true from hs) Bool.false_ne_true
  | byt i =>
    obtain ⟨t,rfl⟩:=rx
    cases y with
    | byt j=>obtain ⟨t',rfl⟩:=ry; exact PySem.W.ne_bytes (aJ I q (congrArg not lL))
    | _=>exact absurd (show false = true from hs) Bool.false_ne_true
  | _=>cases y <;> exact absurd (show false = true from hs) Bool.false_ne_true
theorem j9 : OpR X (compareOp .Lt) (rI0 fun i j=>.bl (decide (i < j))):=o6 fun _ _ _ _ _ _ _ q=>lt_int q
theorem su : OpR X (compareOp .LtE) (rI0 fun i j=>.bl (decide (i ≤ j))):=o6 fun _ _ _ _ _ _ _ q=>le_int q
theorem qU : OpR X (compareOp .Gt) (rI0 fun i j=>.bl (decide (j < i))):=o6 fun _ _ _ _ _ _ _ q=>gt_int q
theorem jO : OpR X (compareOp .GtE) (rI0 fun i j=>.bl (decide (j ≤ i))):=o6 fun _ _ _ _ _ _ _ q=>ge_int q
theorem aB (b : Expr) {op : CmpOp} (h : op ≠ .In:=by decide) (h2 : op ≠ .NotIn:=by decide) : behindInMarks op b = false:=by
  have e1 : (op == CmpOp.In) = false:=by cases op <;> first | rfl | exact absurd rfl h
  have e2 : (op == CmpOp.NotIn) = false:=by cases op <;> first | rfl | exact absurd rfl h2
  cases b <;> simp [behindInMarks,e1,e2]
theorem bQ {op : CmpOp} {r : R2} (ho : OpR X (compareOp op) r) (ha : PE X a ta) (hb : PE X b tb) (hm : behindInMarks op b = false) : PE X (.Compare a [op] [b] pos) (tOp r ta tb):=by
  intro pins s σ H Q I h
  exact wpAny_Compare1 (rN ha hb I h fun v u s2 x y H2 I2 rx ry q=>ho pins s2 σ H2 x y v u Q I2 rx ry q) hm
def tf (t : TE) : TT:=fun σ H Q=>t σ H fun x H'=>∃ k,x = .bl k∧Q k H'
theorem aG {op : CmpOp} {r : R2} (ho : OpR X (compareOp op) r) (ha : PE X a ta) (hb : PE X b tb) (hm : behindInMarks op b = false) : PT X (.Compare a [op] [b] pos) (tf (tOp r ta tb)):=by
  intro pins s σ H Q I h
  refine wpAny_isTrue_Compare1 (thn (ha pins s σ H _ I h) fun v s1 ⟨x,H1,I1,r1,q1⟩=>thn (hb pins s1 σ H1 _ I1 q1) fun u s2 ⟨y,H2,I2,r2,q2⟩ =>
    thn (ho pins s2 σ H2 x y v u _ I2 r1 r2 q2) fun c s3 ⟨z,H3,I3,r3,k,e,q3⟩=>?_) hm
  subst e
  cases r3
  exact wpAny_truthy_bool ⟨H3,I3,q3⟩
def rF (r r' : R2) (ta tb tc : TE) : TE:=fun σ H Q=>ta σ H fun x H1=>tb σ H1 fun y H2=>r x y H2 fun z H3=>∃ k,z = .bl k ∧
  (if k = true then tc σ H3 fun w' H4=>r' y w' H4 Q else Q (.bl false) H3)
theorem mS {op op' : CmpOp} {r r' : R2} (ho : OpR X (compareOp op) r) (ho' : OpR X (compareOp op') r') (ha : PE X a ta) (hb : PE X b tb) (hc : PE X c tc)
    (hm : lastMarks [op,op'] [b,c] = false:=by with_unfolding_all rfl) : PE X (.Compare a [op,op'] [b,c] pos) (rF r r' ta tb tc):=by
  intro pins s σ H Q I h
  refine Compare_chain (thn (ha pins s σ H _ I h) fun v s1 ⟨x,H1,I1,r1,q1⟩=>chain_link (thn (hb pins s1 σ H1 _ I1 q1) fun u s2 ⟨y,H2,I2,r2,q2⟩ =>
    thn (ho pins s2 σ H2 x y v u _ I2 r1 r2 q2) fun d s3 ⟨z,H3,I3,r3,k,e,q3⟩=>?_)) hm
  subst e
  cases r3
  refine wpAny_truthy_bool ?_
  cases k with
  | false=>exact ite_ff ⟨.bl false,H3,I3,rfl,q3⟩
  | true=>exact ite_tt (chain_last (thn (hc pins s3 σ H3 _ I3 q3) fun w' s4 ⟨z',H4,I4,r4,q4⟩=>ho' pins s4 σ H4 y z' u w' Q I4 r2 r4 q4))
def so (K : PySem.W.Frag) (x : V) (H : Hp) (k : Bool) : Prop :=
  match x with
  | .non=>k = false
  | .bl b=>k = b
  | .int i=>k = (i != 0)
  | .str y=>y.length ≤ sizeLine∧k = ((y.length : Int) != 0)
  | .byt y=>y.size ≤ sizeLine∧k = ((y.size : Int) != 0)
  | .ref p=>(∃ xs,SqL K H p xs∧k = !xs.isEmpty) ∨ (∃ xs,SqT K H p xs∧k = !xs.isEmpty) ∨ ∃ kvs,H p = some (.dK kvs)∧k = !kvs.isEmpty
  | _=>False
theorem kT {κ : Type} {kvs : List (κ × V)} {vs : List (κ × Value)} (r : KV kvs vs) : (!vs.isEmpty) = !kvs.isEmpty:=by
  cases r <;> rfl
theorem gw {xs : List V} {its : List Value} (r : Vals xs its) : (!its.toArray.isEmpty) = !xs.isEmpty:=by
  cases r <;> simp
theorem gz : (sizeLine : Nat) < 2 ^ 63:=by rw [sizeLine_eq]; decide
theorem rJ : tI X (fun x H Q=>∃ k,so X.K x H k∧Q k H):=by
  intro pins s σ H x v Q I rx h
  obtain ⟨k,e,q⟩:=h
  have hl:=gz
  have hs : sizeLine = 16777216:=sizeLine_eq
  cases x with
  | non =>
    cases rx
    have e' : k = false:=e
    subst e'
    exact truthy_none ⟨H,I,q⟩
  | bl b =>
    cases rx
    have e' : k = b:=e
    subst e'
    exact wpAny_truthy_bool ⟨H,I,q⟩
  | int i =>
    obtain ⟨t,rfl⟩:=rx
    have e' : k = (i != 0):=e
    subst e'
    exact PySem.P.truthy_int ⟨H,I,q⟩
  | str y =>
    obtain ⟨t,rfl⟩:=rx
    obtain ⟨hy,e'⟩ : y.length ≤ sizeLine∧k = ((y.length : Int) != 0):=e
    subst e'
    exact PySem.P.truthy_str (by omega) ⟨H,I.tok _,q⟩
  | byt y =>
    obtain ⟨t,rfl⟩:=rx
    obtain ⟨hy,e'⟩ : y.size ≤ sizeLine∧k = ((y.size : Int) != 0):=e
    subst e'
    exact PySem.W.truthy_bytes (by omega) ⟨H,I.tok _,q⟩
  | ref p =>
    cases rx
    have e' : (∃ xs,SqL X.K H p xs∧k = !xs.isEmpty) ∨ (∃ xs,SqT X.K H p xs∧k = !xs.isEmpty) ∨ ∃ kvs,H p = some (.dK kvs)∧k = !kvs.isEmpty:=e
    rcases e' with ⟨xs,hx,e'⟩ | ⟨xs,hx,e'⟩ | ⟨kvs,hx,e'⟩
    · subst e'
      obtain ⟨its,r,pl,hz⟩:=I.list hx
      have hlen:=r.length
      exact wpAny_truthy_list pl.isList (by simp only [List.size_toArray]; omega) ⟨H,I.tok _,by rw [gw r]; exact q⟩
    · subst e'
      obtain ⟨its,r,pl,hz⟩:=I.tuple hx
      have hlen:=r.length
      exact truthy_tuple pl (by simp only [List.size_toArray]; omega) ⟨H,I.tok _,by rw [gw r]; exact q⟩
    · subst e'
      obtain ⟨hz,hS,vs,r,m⟩ : kvs.length ≤ sizeLine∧(p == sysModules) = false∧∃ vs,KV kvs vs∧s.heap.DictOf (bf X.prog X.w) p vs:=I.hok p _ hx
      have hlen : kvs.length = vs.length:=Paired.length r
      exact wpAny_truthy_dict hS m (by omega) ⟨H,I.tok _,by rw [kT r]; exact q⟩
  | _=>exact (show False from e).elim
theorem n5 (ha : PE X a ta) (he : ∀ whole,isTrue a X.env whole = (do let v ← whole; standAt a.pos; holding [v] (truthy v))) :
    PT X a (fun σ H Q=>ta σ H fun x H'=>∃ k,so X.K x H' k∧Q k H'):=by
  intro pins s σ H Q I h
  refine isTrue_plain (thn (ha pins s σ H _ I h) fun v s1 hm0=>?_) (he _)
  obtain ⟨x,H1,I1,r1,q1⟩:=hm0
  exact rJ pins s1 σ H1 x v Q I1 r1 q1
theorem dC {x : V} {us : List Value} (r : Vals [x] us) : ∃ u,us = [u]∧RelV x u:=by
  cases r with
  | cons r1 r2=>cases r2; exact ⟨_,rfl,r1⟩
theorem qP {x y : V} {us : List Value} (r : Vals [x,y] us) : ∃ u w',us = [u,w']∧RelV x u∧RelV y w':=by
  cases r with
  | cons r1 r2 =>
    cases r2 with
    | cons r3 r4=>cases r4; exact ⟨_,_,rfl,r1,r3⟩
theorem mh (hc : X.calm = true) : dW X (.builtin "max") (fun xs H Q=>∃ i j,xs = [.int i,.int j]∧Q (.int (if j > i then j else i)) H):=by
  intro pins s σ H xs us Q I r h
  obtain ⟨i,j,rfl,q⟩:=h
  obtain ⟨u,w',rfl,⟨t,rfl⟩,⟨t',rfl⟩⟩:=qP r
  refine max_two_ints (I.ok.hd hc) fun h' tk k=>⟨_,H,I.kept k,?_,q⟩
  by_cases hj : j > i
  · rw [if_pos hj,if_pos hj]; exact ⟨_,rfl⟩
  · rw [if_neg hj,if_neg hj]; exact ⟨_,rfl⟩
end
structure ObjM (h : Heap) (x dx C : Addr) (mA : Str→Option Value) : Prop where
  obj : h.get? x = some (PySem.W.instObj C dx)
  ns : h.Ns1 dx mA
  ne : dx ≠ x
theorem mi {h : Heap} {dx : Addr} {mA : Str→Option Value} (n : h.Ns1 dx mA) : ∃ od,h.get? dx = some od∧∀ name,PySem.W.lookIn name od = some (mA name):=by
  obtain ⟨o,es,ep,ho,hd,hk,_,hm⟩:=n
  refine ⟨o,ho,fun name=>?_⟩
  have e:=hm name
  unfold nsFind findBy at e
  rw [← Array.find?_toList] at e
  unfold PySem.W.lookIn
  rw [hd]
  dsimp only
  split
  · rename_i y q
    rw [q] at e
    exact congrArg some e
  · rename_i q
    rw [q] at e
    have a : es.toList.any (·.refKey) = false:=by
      rw [List.any_eq_false]
      intro y hy
      obtain ⟨z,t,hkey⟩:=hk y (Array.mem_toList_iff.mp hy)
      simp [DictEntry.refKey,hkey]
    have a' : ¬ es.toList.any (·.refKey) = true:=by rw [a]; exact Bool.false_ne_true
    rw [if_neg a']
    exact congrArg some e
theorem ObjM.look {h : Heap} {x dx C : Addr} {mA : Str→Option Value} (I : ObjM h x dx C mA) : ∃ od,PySem.W.InstAt h x (PySem.W.instObj C dx) C (some od)∧∀ name,PySem.W.lookIn name od = some (mA name) :=
  let ⟨od,ho,hl⟩:=mi I.ns
  ⟨od,⟨I.obj,rfl,rfl,ho⟩,hl⟩
section
variable {prog : Program} {w : World} {A : Around} {E : Value→Shared→Prop} {s : Shared} {K : PySem.W.Frag} {x dx C f : Addr} {mA : Str→Option Value} {name : Str} {v : Value}
theorem qo {expr : Bool} {Q : Value→Shared→Prop} (X : K.In s.heap) (I : ObjM s.heap x dx C mA) (hg : PySem.W.plainGet K C name = true) (hh : PySem.W.hasDictIn K C = true)
    (ha : PySem.W.findIn K (.ref C) name = some none) (hv : mA name = some v) (hv' : PySem.W.handedIn v = true) (h : Q v { s with toks:=s.toks + 1 }) :
    wpAny (model prog w) A (getAttr (.ref x) name expr) Q E s:=by
  obtain ⟨od,J,hl⟩:=I.look
  exact PySem.W.get_value X J (PySem.W.plainGet_of hg).1 (PySem.W.findObj_own hh ha rfl (by rw [hl,hv])) hv' h
theorem nF {pl : Sem Bool} {Q : Value × List Value→Shared→Prop} (X : K.In s.heap) (I : ObjM s.heap x dx C mA) (hg : PySem.W.plainGet K C name = true)
    (hf : PySem.W.findIn K (.ref C) name = some (some (.ref f))) (ht : PySem.W.isFn K (.ref f) = true) (hv : mA name = none) (h : Q (.ref f,[.ref x]) s) :
    wpAny (model prog w) A (getMethod (.ref x) name pl) Q E s:=by
  obtain ⟨od,J,hl⟩:=I.look
  exact PySem.W.method_fn X J (PySem.W.plainGet_of hg).1 (PySem.W.plainGet_of hg).2 hf (beq_iff_eq.mp ht) (by show (PySem.W.lookIn name od).map (·.isSome) = some false; rw [hl,hv]; rfl) h
theorem pJ {ns : List Str} {Q : Unit→Shared→Prop} (X : K.In s.heap) (I : ObjM s.heap x dx C mA)
    (hs : PySem.W.findIn K (.ref C) "__setattr__" = some (some (.builtin "object.__setattr__"))) (hp : PySem.W.plainOver K C = true) (ht : PySem.W.takerIn K C name = some none) (hh : PySem.W.hasDictIn K C = true)
    (hw : PySem.Within mA ns) (hsz : ns.length ≤ sizeLine)
    (h : ∀ h',ObjM h' x dx C (fun y=>if y = name then some v else mA y)→Heap.SameBut dx s.heap h'→Q () { s with heap:=h',toks:=s.toks + 2 }) :
    wpAny (model prog w) A (setAttr (.ref x) name v) Q E s:=by
  obtain ⟨od,J,hl⟩:=I.look
  refine PySem.W.set_plain X J hs (PySem.W.osa_open (s:={ s with toks:=s.toks + 1 }) (r:=none) X J hp ht fun b=>?_)
  obtain ⟨cd,hc,hd'⟩:=PySem.W.any_some hh
  have hx : s.heap.get? x = some ⟨.ref C,some dx,.plain,#[]⟩:=I.obj
  refine wpAny_bind (wpAny_pure (wpAny_bind (wpAny_bind (wpAny_loadPart hx (wpAny_bind (PySem.W.Looks.here (s:={ s with toks:=s.toks + 1 }) (PySem.W.looks_clsIn X hc) ?_))))))
  rw [hd']
  refine wpAny_pure (a:=some dx) (wpAny_bind (wpAny_pure (wpAny_bind ?_)))
  refine wpAny_nsSet1 (s:={ s with toks:=s.toks + 1 }) I.ns fun h' hn2 hs2=>?_
  obtain ⟨oD,esD,epD,hoD,hdD,hcD⟩:=hn2.count (PySem.Within.cons name v hw)
  refine wpAny_bind (wpAny_lookBehind hoD (by rw [hdD]; exact pastItsLine_dict (Nat.le_trans hcD (by rw [List.length_cons]; omega))) ?_)
  exact wpAny_pure (h _ ⟨(hs2.2 _ (Ne.symm I.ne)).trans I.obj,hn2,I.ne⟩ hs2)
theorem oY {R : Result→Shared→Prop} {vs : List Value} {kw : List (Str × Value)} (X : K.In s.heap) (hm : PySem.W.makesIn K C = true)
    (hi : PySem.W.findIn K (.ref C) "__init__" = some (some (.ref f))) (hf : PySem.W.typeIn K (.ref f) = some (.type "function"))
    (h : codeAny (model prog w) (A.under (.builtin "type.__call__" ⟨.ref C :: vs,kw⟩)) (.call (.ref f) ⟨.ref (s.heap.objs.size + 1) :: vs,kw⟩) (PySem.W.InitBack (s.heap.objs.size + 1) R)
      { s with heap:=(s.heap.push PySem.W.emptyDict).push (PySem.W.instObj C s.heap.objs.size) }) :
    codeAny (model prog w) A (.call (.ref C) ⟨vs,kw⟩) R s:=by
  obtain ⟨hh,g,d,t,os⟩:=s
  exact PySem.W.make_core (PySem.W.makes_of X hm) (PySem.W.looks_findIn X hi) (fun self=>PySem.W.bind_fn X self hf) (.inl rfl) h
end
def aI (f : Str) (v : V) : List (Str × V)→List (Str × V)
  | []=>[(f,v)]
  | (g,x) :: r=>if g = f then (g,v) :: r else (g,x) :: aI f v r
theorem aL (f g : Str) (v : V) : ∀ fs : List (Str × V),(aI f v fs).lookup g = if g = f then some v else fs.lookup g
  | []=>by
    show List.lookup g [(f,v)] = _
    by_cases h : g = f
    · have hb : (g == f) = true:=beq_iff_eq.mpr h
      simp only [List.lookup,hb,if_pos h]
    · have hb : (g == f) = false:=beq_eq_false_iff_ne.mpr h
      simp only [List.lookup,hb,if_neg h]
  | (k, x) :: r=>by
    have ih:=aL f g v r
    rw [show aI f v ((k,x) :: r) = (if k = f then (k,v) :: r else (k,x) :: aI f v r) from rfl]
    by_cases hk : k = f
    · rw [if_pos hk]
      by_cases h : g = k
      · have hb : (g == k) = true:=beq_iff_eq.mpr h
        simp only [List.lookup,hb,if_pos (h.trans hk)]
      · have hb : (g == k) = false:=beq_eq_false_iff_ne.mpr h
        simp only [List.lookup,hb,if_neg (fun e : g = f=>h (e.trans hk.symm))]
    · rw [if_neg hk]
      by_cases h : g = k
      · have hb : (g == k) = true:=beq_iff_eq.mpr h
        simp only [List.lookup,hb,if_neg (fun e : g = f=>hk (h.symm.trans e))]
      · have hb : (g == k) = false:=beq_eq_false_iff_ne.mpr h
        simp only [List.lookup,hb]
        exact ih
theorem fe (f : Str) (v : V) : ∀ fs : List (Str × V),f ∈ (aI f v fs).map (·.1)∧∀ g,g ∈ fs.map (·.1)→g ∈ (aI f v fs).map (·.1)
  | []=>⟨by simp [aI],fun g h=>by simp at h⟩
  | (k, x) :: r=>by
    obtain ⟨i1,i2⟩:=fe f v r
    rw [show aI f v ((k,x) :: r) = (if k = f then (k,v) :: r else (k,x) :: aI f v r) from rfl]
    by_cases hk : k = f
    · rw [if_pos hk]
      subst hk
      exact ⟨by simp,fun g h=>by simpa using h⟩
    · rw [if_neg hk]
      refine ⟨?_,fun g h=>?_⟩
      · rw [List.map_cons]
        exact List.mem_cons_of_mem _ i1
      · rw [List.map_cons] at h ⊢
        rcases List.mem_cons.mp h with e | e
        · exact List.mem_cons.mpr (.inl e)
        · exact List.mem_cons_of_mem _ (i2 g e)
theorem cn (f : Str) (v : V) : ∀ fs : List (Str × V),(aI f v fs).length ≤ fs.length + 1
  | []=>by simp [aI]
  | (k,x) :: r=>by
    have ih:=cn f v r
    rw [show aI f v ((k,x) :: r) = (if k = f then (k,v) :: r else (k,x) :: aI f v r) from rfl]
    by_cases hk : k = f
    · rw [if_pos hk,List.length_cons,List.length_cons]; omega
    · rw [if_neg hk,List.length_cons,List.length_cons]; omega
theorem RelO.some_of {v : V} {o : Option Value} (r : RelO (some v) o) : ∃ u,o = some u∧RelV v u:=by
  cases o with
  | none=>exact (show False from r).elim
  | some u=>exact ⟨u,rfl,r⟩
theorem RelO.none_of {o : Option Value} (r : RelO none o) : o = none:=by
  cases o with
  | none=>rfl
  | some u=>exact (show False from r).elim
theorem mM {v : V} {u : Value} (r : RelV v u) : PySem.W.handedIn u = true:=by
  cases v with
  | non=>cases (show u = Value.none from r); rfl
  | bl b=>cases (show u = Value.bool b from r); rfl
  | int i=>obtain ⟨t,e⟩:=(show ∃ t,u = Value.int i t from r); cases e; rfl
  | str x=>obtain ⟨t,e⟩:=(show ∃ t,u = Value.str x t from r); cases e; rfl
  | byt b=>obtain ⟨t,e⟩:=(show ∃ t,u = Value.bytes b t from r); cases e; rfl
  | flt b=>obtain ⟨t,e⟩:=(show ∃ t,u = Value.float b t from r); cases e; rfl
  | ref a=>cases (show u = Value.ref a from r); rfl
  | ty n=>cases (show u = Value.type n from r); rfl
section
variable {P : Program} {w : World} {H H' : Hp} {h h' : Heap} {a C dx : Addr} {fs fs' : List (Str × V)}
theorem fN (hok : HOk P w H h) (e : H a = some (.ins C dx fs)) : ∃ mA,ObjM h a dx C mA∧(∀ f,RelO (fs.lookup f) (mA f))∧PySem.Within mA (fs.map (·.1))∧fs.length ≤ 1000∧H dx = some (.own a):=by
  obtain ⟨d,z,ne,ob,mA,n,r,q⟩:=(show ObjOk P w H h a (.ins C dx fs) from hok a _ e)
  exact ⟨mA,⟨ob,n,ne⟩,r,q,z,d⟩
end
structure Cls (K : PySem.W.Frag) (C : Addr) : Prop where
  pg : PySem.W.plainGet K C Str.empty = true
  hd : PySem.W.hasDictIn K C = true
  po : PySem.W.plainOver K C = true
  sa : PySem.W.findIn K (.ref C) "__setattr__" = some (some (.builtin "object.__setattr__"))
theorem Cls.get {K : PySem.W.Frag} {C : Addr} (c : Cls K C) (f : Str) : PySem.W.plainGet K C f = true:=c.pg
def NoAttr (K : PySem.W.Frag) (C : Addr) (f : Str) : Prop:=PySem.W.findIn K (.ref C) f = some none
theorem NoAttr.taker {K : PySem.W.Frag} {C : Addr} {f : Str} (n : NoAttr K C f) : PySem.W.takerIn K C f = some none:=by
  unfold PySem.W.takerIn
  rw [show PySem.W.findIn K (.ref C) f = some none from n]
  rfl
structure Meth (K : PySem.W.Frag) (C : Addr) (m : Str) (f : Addr) : Prop where
  at_ : PySem.W.findIn K (.ref C) m = some (some (.ref f))
  fn : PySem.W.isFn K (.ref f) = true
  kp : PySem.W.keepIn K (.ref f) = true
section
variable {X : Cx} {pins : List (Addr × Obj)} {σ : St} {H : Hp} {s : Shared} {a C dx : Addr} {fs : List (Str × V)} {f : Str} {v : V} {A : Around} {E : Value→Shared→Prop}
theorem gu {b : Bool} {Q : Value→Shared→Prop} (I : Inv X pins σ H s) (e : H a = some (.ins C dx fs)) (c : Cls X.K C) (n : NoAttr X.K C f) (l : fs.lookup f = some v)
    (h : ∀ u s',Inv X pins σ H s'→RelV v u→Q u s') : wpAny (model X.prog X.w) A (getAttr (.ref a) f b) Q E s:=by
  obtain ⟨mA,O,r,_,_,_⟩:=fN I.hok e
  obtain ⟨u,hu,ru⟩:=RelO.some_of (v:=v) (o:=mA f) (by rw [← l]; exact r f)
  exact qo I.kIn O (c.get f) c.hd n hu (mM ru) (h u _ (I.tok _) ru)
theorem gH {m : Str} {g : Addr} {pl : Sem Bool} {Q : Value × List Value→Shared→Prop} (I : Inv X pins σ H s) (e : H a = some (.ins C dx fs)) (c : Cls X.K C) (k : Meth X.K C m g) (l : fs.lookup m = none)
    (h : Q (.ref g,[.ref a]) s) : wpAny (model X.prog X.w) A (getMethod (.ref a) m pl) Q E s:=by
  obtain ⟨mA,O,r,_,_,_⟩:=fN I.hok e
  have hn : mA m = none:=RelO.none_of (by rw [← l]; exact r m)
  exact nF I.kIn O (c.get m) k.at_ k.fn hn h
theorem gx {y : V} {u : Value} {Q : Unit→Shared→Prop} (I : Inv X pins σ H s) (e : H a = some (.ins C dx fs)) (c : Cls X.K C) (n : NoAttr X.K C f) (hl : fs.length < 1000) (ry : RelV y u)
    (h : ∀ s',Inv X pins σ (upd H a (.ins C dx (aI f y fs))) s'→Q () s') : wpAny (model X.prog X.w) A (setAttr (.ref a) f u) Q E s:=by
  obtain ⟨mA,O,r,wi,_,ho⟩:=fN I.hok e
  have hz : (fs.map (·.1)).length ≤ sizeLine:=by rw [List.length_map,sizeLine_eq]; omega
  refine pJ I.kIn O c.sa c.po n.taker c.hd wi hz fun h' O' sb=>h _ ?_
  have hd : ∃ o,h'.get? dx = some o:=let ⟨o,_,_,e',_⟩:=O'.ns; ⟨o,e'⟩
  refine I.write (x:=a) (e:=dx) (by rw [e]; exact True.intro) (.inr ho) (fun b q hb z=>(sb.2 b hb).trans z) hd ?_
  refine ⟨by rw [aq O.ne]; exact ho,?_,O.ne,O'.obj,_,O'.ns,fun g=>?_,fun g hg=>?_⟩
  · have:=cn f y fs; omega
  · show RelO ((aI f y fs).lookup g) (if g = f then some u else mA g)
    rw [aL]
    by_cases q : g = f
    · rw [if_pos q,if_pos q]; exact ry
    · rw [if_neg q,if_neg q]; exact r g
  · by_cases q : g = f
    · rw [q]; exact (fe f y fs).1
    · refine (fe f y fs).2 g (wi g fun z=>hg ?_)
      show (if g = f then some u else mA g) = none
      rw [if_neg q]; exact z
theorem Inv.made (I : Inv X pins σ H s) : Inv X pins σ (upd (upd H s.heap.objs.size (.own (s.heap.objs.size + 1))) (s.heap.objs.size + 1) (.ins C s.heap.objs.size []))
    { s with heap:=(s.heap.push PySem.W.emptyDict).push (PySem.W.instObj C s.heap.objs.size) }:=by
  have e1 : (s.heap.push PySem.W.emptyDict).get? s.heap.objs.size = some PySem.W.emptyDict:=Heap.get?_push_size s.heap rfl
  have e2 : ((s.heap.push PySem.W.emptyDict).push (PySem.W.instObj C s.heap.objs.size)).get? (s.heap.objs.size + 1) = some (PySem.W.instObj C s.heap.objs.size):=by
    have:=Heap.get?_push_size (s.heap.push PySem.W.emptyDict) (o:=PySem.W.instObj C s.heap.objs.size) rfl
    rwa [Heap.size_push] at this
  have e3 : (s.heap.push PySem.W.emptyDict).Ns s.heap.objs.size (fun _=>none):=⟨PySem.W.emptyDict,#[],_,e1,rfl,(fun e he=>absurd he (by simp)),fun _=>rfl⟩
  have I1:=I.laid (a:=s.heap.objs.size) (o:=.own (s.heap.objs.size + 1)) (h':=s.heap.push PySem.W.emptyDict) (t':=s.toks) (fun b u q=>Heap.get?_push_of_some _ q) (Nat.le_refl _) ⟨_,e1⟩
  refine I1.laid (a:=s.heap.objs.size + 1) (o:=.ins C s.heap.objs.size []) (t':=s.toks) (fun b u q=>Heap.get?_push_of_some _ q) (Nat.le_of_eq (Heap.size_push _ _)) ?_
  have ne : s.heap.objs.size ≠ s.heap.objs.size + 1:=Nat.ne_of_lt (Nat.lt_succ_self _)
  refine ⟨by rw [aq ne,ae],Nat.zero_le _,ne,e2,fun _=>none,(Heap.Ns1.of_empty e3).at fun o q=>Heap.get?_push_of_some _ q,fun _=>True.intro,fun y hy=>absurd rfl hy⟩
theorem qy {prog : Program} {w : World} {env : Env} {e : Expr} {f : Str} {pos : Pos} {s : Shared} {Q : Value→Shared→Prop} (hb : attributeBase e f env (eval e env) = eval e env)
    (h : wpAny (model prog w) A (eval e env) (fun o s₁=>wpAny (model prog w) A (getAttr o f true) Q E s₁) E s) : wpAny (model prog w) A (eval (.Attribute e f pos) env) Q E s :=
  Attribute_any_ h (by rw [arm_eval_Attribute,hb])
end
def sD (K : PySem.W.Frag) (ta : TE) (f : Str) : TE:=fun σ H Q=>ta σ H fun x H1=>∃ a C dx fs v,x = .ref a∧H1 a = some (.ins C dx fs)∧Cls K C∧NoAttr K C f∧fs.lookup f = some v∧Q v H1
def tE (K : PySem.W.Frag) (ta tv : TE) (f : Str) : TS:=fun D σ H=>tv σ H fun y H1=>ta σ H1 fun x H2=>∃ a C dx fs,x = .ref a∧H2 a = some (.ins C dx fs)∧Cls K C∧NoAttr K C f∧fs.length < 1000 ∧
  D.nx σ (upd H2 a (.ins C dx (aI f y fs)))
def sZ (X : Cx) (op : Operator) (rd : V→V→Hp→VK→Prop) : Prop :=
  ∀ (pins : List (Addr × Obj)) (s : Shared) (σ : St) (H : Hp) (x y : V) (u v : Value) (Q : VK),Inv X pins σ H s→RelV x u→RelV y v→rd x y H Q→wpAny (model X.prog X.w) X.A (inplaceOp op u v) (EP X pins σ Q) X.xe s
def lN (K : PySem.W.Frag) (ta tv : TE) (rd : V→V→Hp→VK→Prop) (f : Str) : TS:=fun D σ H=>ta σ H fun x H1=>∃ a C dx fs v,x = .ref a∧H1 a = some (.ins C dx fs)∧Cls K C∧NoAttr K C f∧fs.lookup f = some v ∧
  tv σ H1 fun y H2=>rd v y H2 fun z H3=>∃ dx' fs',H3 a = some (.ins C dx' fs')∧fs'.length < 1000∧D.nx σ (upd H3 a (.ins C dx' (aI f z fs')))
section
variable {X : Cx} {o e value : Expr} {f : Str} {pos pos' tpos : Pos} {ta tv : TE}
theorem q9 (he : PE X e ta) (hb : attributeBase e f X.env (eval e X.env) = eval e X.env) : PE X (.Attribute e f pos) (sD X.K ta f):=by
  intro pins s σ H Q I h
  refine qy hb (thn (he pins s σ H _ I h) fun u s1 hm0=>?_)
  obtain ⟨x,H1,I1,rx,a,C,dx,fs,v,ex,ea,c,n,l,q⟩:=hm0
  subst ex
  obtain rfl : u = Value.ref a:=rx
  exact gu I1 ea c n l fun u' s2 I2 ru=>⟨v,H1,I2,ru,q⟩
theorem rT (ha : PE X o ta) (hv : PE X value tv) (hs : swapsWith value (some (.Attribute o f pos')) pos.line X.env = pure false) : PS X (.Assign [.Attribute o f pos'] value pos) (tE X.K ta tv f):=by
  intro pins s σ H D I h
  refine plainObj_wpAny_Assign_Attribute (thn (hv pins s σ H _ I h) fun u s1 hm0=>?_) hs
  obtain ⟨y,H1,I1,ry,q⟩:=hm0
  refine thn (ha pins s1 σ H1 _ I1 q) fun ov s2 hm1=>?_
  obtain ⟨x,H2,I2,rx,a,C,dx,fs,ex,ea,c,n,l,q2⟩:=hm1
  subst ex
  obtain rfl : ov = Value.ref a:=rx
  exact gx I2 ea c n l ry fun s3 I3=>⟨σ,_,I3,q2⟩
theorem mr {op : Operator} {rd : V→V→Hp→VK→Prop} (ha : PE X o ta) (hv : PE X value tv) (hop : sZ X op rd) : PS X (.AugAssign (.Attribute o f tpos) op value pos) (lN X.K ta tv rd f):=by
  intro pins s σ H D I h
  refine wpAny_AugAssign_AttributeAny (thn (ha pins s σ H _ I h) fun ov s1 hm0=>?_)
  obtain ⟨x,H1,I1,rx,a,C,dx,fs,v,ex,ea,c,n,l,q⟩:=hm0
  subst ex
  obtain rfl : ov = Value.ref a:=rx
  refine gu I1 ea c n l fun u s2 I2 ru=>thn (hv pins s2 σ H1 _ I2 q) fun w3 s3 hm0=>?_
  obtain ⟨y,H2,I3,ry,q3⟩:=hm0
  refine thn (hop pins s3 σ H2 v y u w3 _ I3 ru ry q3) fun w4 s4 hm1=>?_
  obtain ⟨z,H3,I4,rz,dx',fs',ea',l',q4⟩:=hm1
  exact gx I4 ea' c n l' rz fun s5 I5=>⟨σ,_,I5,q4⟩
end
section
variable {X : Cx} {pins : List (Addr × Obj)} {σ : St} {H : Hp} {s : Shared} {A : Around} {E : Value→Shared→Prop} {Q : Value→Shared→Prop} {c : Value} {b : Bool}
inductive TyOf (K : PySem.W.Frag) (H : Hp) : V→Value→Prop where
  | non : TyOf K H .non (.type "NoneType")
  | bl (x : Bool) : TyOf K H (.bl x) (.type "bool")
  | int (i : Int) : TyOf K H (.int i) (.type "int")
  | str (x : Str) : TyOf K H (.str x) (.type "str")
  | flt (x : UInt64) : TyOf K H (.flt x) (.type "float")
  | lst {a : Addr} {xs : List V} (e : H a = some (.lst xs)) : TyOf K H (.ref a) (.type "list")
  | frz {a : Addr} {o : Obj} {xs : List V} (e : H a = some (.frz o (.lst xs))) : TyOf K H (.ref a) (.type "list")
  | tup {a : Addr} {xs : List V} (e : H a = some (.tup xs)) : TyOf K H (.ref a) (.type "tuple")
  | dK {a : Addr} {kvs : List (Key × V)} (e : H a = some (.dK kvs)) : TyOf K H (.ref a) (.type "dict")
  | dT {a : Addr} {kvs : List (List Key × V)} (e : H a = some (.dT kvs)) : TyOf K H (.ref a) (.type "dict")
  | ins {a C dx : Addr} {fs : List (Str × V)} (e : H a = some (.ins C dx fs)) (cl : Cls K C) (ha : PySem.W.findIn K (.ref C) "__class__" = some (some (.builtin "object.__class__")))
      (hn : PySem.W.specialIn K (.builtin "object.__class__") "__get__" = some (some (.builtin "getset_descriptor.__get__"))) (htk : PySem.W.takesIn K (.builtin "object.__class__") = some true)
      (hm : PySem.W.mroIn K C (.type "object") = some true) : TyOf K H (.ref a) (.ref C)
theorem mN {x : V} {u t : Value} (I : Inv X pins σ H s) (rx : RelV x u) (ty : TyOf X.K H x t) (e : PySem.W.kitOne X.K t c = some b) (h : ∀ tk,Q (.bool b) { s with toks:=tk }) :
    wpAny (model X.prog X.w) A (call (.builtin "isinstance") [u,c]) Q E s:=by
  cases ty with
  | non=>cases (show u = Value.none from rx); exact PySem.W.kia_one PySem.W.kitx_none I.kIn True.intro e (fun z=>nomatch z) h
  | bl y=>cases (show u = Value.bool y from rx); exact PySem.W.kia_one PySem.W.kitx_bool I.kIn True.intro e (fun z=>nomatch z) h
  | int i=>obtain ⟨t,q⟩:=(show ∃ t,u = Value.int i t from rx); cases q; exact PySem.W.kia_one PySem.W.kitx_int I.kIn True.intro e (fun z=>nomatch z) h
  | str y=>obtain ⟨t,q⟩:=(show ∃ t,u = Value.str y t from rx); cases q; exact PySem.W.kia_one PySem.W.kitx_str I.kIn True.intro e (fun z=>nomatch z) h
  | flt y=>obtain ⟨t,q⟩:=(show ∃ t,u = Value.float y t from rx); cases q; exact PySem.W.kia_one PySem.W.kitx_float I.kIn True.intro e (fun z=>nomatch z) h
  | @lst a xs ea =>
    cases (show u = Value.ref a from rx)
    obtain ⟨_,_,n,_,h1⟩:=(show ObjOk X.prog X.w H s.heap a (.lst xs) from I.hok a _ ea)
    exact PySem.W.kia_one PySem.W.kitx_list I.kIn ⟨_,h1,rfl⟩ e (fun z=>nomatch z) h
  | @frz a ob xs ea =>
    cases (show u = Value.ref a from rx)
    obtain ⟨_,_,_,n,_,h1⟩:=(show ObjOk X.prog X.w H s.heap a (.frz ob (.lst xs)) from I.hok a _ ea)
    exact PySem.W.kia_one PySem.W.kitx_list I.kIn ⟨_,h1,rfl⟩ e (fun z=>nomatch z) h
  | @tup a xs ea =>
    cases (show u = Value.ref a from rx)
    obtain ⟨_,_,_,p⟩:=(show ObjOk X.prog X.w H s.heap a (.tup xs) from I.hok a _ ea)
    obtain ⟨o,h1,h2,_⟩:=p
    exact PySem.W.kia_one PySem.W.kitx_tuple I.kIn ⟨o,h1,h2⟩ e (fun z=>nomatch z) h
  | @dK a kvs ea =>
    cases (show u = Value.ref a from rx)
    obtain ⟨_,_,vs,_,p⟩:=(show ObjOk X.prog X.w H s.heap a (.dK kvs) from I.hok a _ ea)
    obtain ⟨o,es,ep,h1,h2,_⟩:=p
    exact PySem.W.kia_one PySem.W.kitx_dict I.kIn ⟨o,h1,h2.1⟩ e (fun z=>nomatch z) h
  | @dT a kvs ea =>
    cases (show u = Value.ref a from rx)
    obtain ⟨_,_,xs,_,o,es,ep,h1,h2,_⟩:=(show ObjOk X.prog X.w H s.heap a (.dT kvs) from I.hok a _ ea)
    exact PySem.W.kia_one PySem.W.kitx_dict I.kIn ⟨o,h1,h2.1⟩ e (fun z=>nomatch z) h
  | @ins a C dx fs ea cl ha hn htk hm =>
    cases (show u = Value.ref a from rx)
    obtain ⟨mA,O,_⟩:=fN I.hok ea
    obtain ⟨od,J,_⟩:=O.look
    exact PySem.W.kia_one (PySem.W.kitx_own (cl.get _) cl.hd ha hn htk hm) I.kIn J e (fun z=>nomatch z) h
end
structure Room (k : Nat) (A : Around) : Prop where
  hd : A.handled = none
  dp : A.depth + 3 * k + 5 < recursionLimit
  un : A.units + 16 * k + 200 < cLine
theorem Room.mono {j k : Nat} {A : Around} (r : Room k A) (h : j ≤ k) : Room j A:=⟨r.hd,by have:=r.dp; omega,by have:=r.un; omega⟩
theorem Room.deeper {k : Nat} {A : Around} (r : Room (k + 1) A) (env : Env) : Room k (A.deeper env) :=
  ⟨r.hd,by have:=r.dp; show A.depth + 1 + 3 * k + 5 < _; omega,by have:=r.un; show A.units + 3 + 16 * k + 200 < _; omega⟩
theorem Room.in1 {k : Nat} {A : Around} (r : Room (k + 1) A) : Room k A.in1 :=
  ⟨r.hd,by have:=r.dp; show A.depth + 3 * k + 5 < _; omega,by have:=r.un; show A.units + 1 + 16 * k + 200 < _; omega⟩
theorem kC {A : Around} {C : Addr} {us : List Value} {kw : List (Str × Value)} : (A.under (.builtin "type.__call__" ⟨.ref C :: us,kw⟩)).depth = A.depth + 1:=by
  first | rfl | simp [Around.under,Code.weight,Code.isCreation,Code.isGuard,Code.isCaller,Code.frames,Code.isFrame,guardIds]
theorem kO {A : Around} {C : Addr} {us : List Value} {kw : List (Str × Value)} : (A.under (.builtin "type.__call__" ⟨.ref C :: us,kw⟩)).units = A.units + 1:=by
  first | rfl | simp [Around.under,Code.cUnits,Code.frames,Code.isFrame]
theorem Room.make {k : Nat} {A : Around} (r : Room (k + 1) A) (C : Addr) (us : List Value) (kw : List (Str × Value)) : Room k (A.under (.builtin "type.__call__" ⟨.ref C :: us,kw⟩)) :=
  ⟨r.hd,by have:=r.dp; rw [kC]; omega,by have:=r.un; rw [kO]; omega⟩
theorem Room.depth {k : Nat} {A : Around} (r : Room k A) : A.depth < recursionLimit:=by have:=r.dp; omega
theorem Room.units {k : Nat} {A : Around} (r : Room k A) : A.units + 64 < cLine:=by have:=r.un; omega
def mI : TA:=fun _ H Q=>Q [] H
def lS (ta : TE) (tr : TA) : TA:=fun σ H Q=>ta σ H fun x H1=>tr σ H1 fun xs H2=>Q (x :: xs) H2
section
variable {X : Cx} {e : Expr} {es : List Expr} {te : TE} {t : TA} {pos : Pos}
theorem ad : PA X [] mI:=fun _ _ _ _ H Q I h=>Calls.spliced_nil ⟨[],H,I,.nil,h⟩
theorem aa (ha : PE X e te) (hr : PA X es t) (hs : starEach (e :: es) X.env = (false,eval e X.env) :: starEach es X.env:=by rfl) : PA X (e :: es) (lS te t):=by
  intro pos pins s σ H Q I h
  rw [hs]
  show wpAny _ _ (spliced ((false,eval e X.env) :: backTo pos (starEach es X.env))) _ _ s
  refine Calls.spliced_cons (thn (ha pins s σ H _ I h) fun u s1 hm0=>?_)
  obtain ⟨x,H1,I1,r1,q1⟩:=hm0
  refine thn (hr pos pins s1 σ H1 _ I1 q1) fun us s2 hm0=>?_
  obtain ⟨xs,H2,I2,r2,q2⟩:=hm0
  exact ⟨x :: xs,H2,I2,.cons r1 r2,q2⟩
def t6 (t : TA) : TE:=fun σ H Q=>t σ H fun xs H1=>xs.length ≤ sizeLine∧∀ p,H1 p = none→Q (.ref p) (upd H1 p (.tup xs))
def tL (t : TA) : TE:=fun σ H Q=>t σ H fun xs H1=>xs.length ≤ sizeLine∧∀ p,H1 p = none→Q (.ref p) (upd H1 p (.lst xs))
theorem cH {x1} (h : PA X es t) : PE X (.Tuple es x1 pos) (t6 t):=by
  intro pins s σ H Q I hq
  refine wpAny_Tuple_spliced (thn (h pos pins s σ H _ I hq) fun us s1 hm0=>?_)
  obtain ⟨xs,H1,I1,r,z,q⟩:=hm0
  refine ⟨by rw [← r.length]; exact z,?_⟩
  have hf : H1 s1.heap.objs.size = none:=I1.hok.fresh (Nat.le_refl _)
  refine ⟨.ref s1.heap.objs.size,upd H1 s1.heap.objs.size (.tup xs),I1.laid (t':=s1.toks) (fun b u e=>Heap.get?_push_of_some _ e) (Nat.le_refl _) ?_,rfl,q _ hf⟩
  exact ⟨z,us,r,⟨_,Heap.get?_push_size _ rfl,rfl,_,rfl⟩⟩
theorem bU (h : PA X es t) : PE X (.List es pos) (tL t):=by
  intro pins s σ H Q I hq
  refine wpAny_List_spliced (thn (h pos pins s σ H _ I hq) fun us s1 hm0=>?_)
  obtain ⟨xs,H1,I1,r,z,q⟩:=hm0
  refine ⟨by rw [← r.length]; exact z,?_⟩
  have hf : H1 s1.heap.objs.size = none:=I1.hok.fresh (Nat.le_refl _)
  refine ⟨.ref s1.heap.objs.size,upd H1 s1.heap.objs.size (.lst xs),I1.laid (t':=s1.toks) (fun b u e=>Heap.get?_push_of_some _ e) (Nat.le_refl _) ?_,rfl,q _ hf⟩
  exact ⟨z,us,0,r,Heap.get?_push_size _ rfl⟩
end
abbrev Sp:=List V→Hp→VK→XK→Prop
abbrev CXT:=List Env→Hp→Shared→XK→Value→Shared→Prop
structure Env0 (P : Program) (w : World) (K : PySem.W.Frag) (mg : Str→Option Value) (base : Heap) (A : Around) (outer : List Env) (s : Shared) (H : Hp) : Prop where
  frames : A.frames = some outer
  mod : Mod K mg base
  bs : ∀ b o,base.get? b = some o→s.heap.get? b = some o∧H b = none
  bsz : base.objs.size ≤ s.heap.objs.size
  funs : s.heap.FunFrames base outer
  frf : ∀ b ∈ frs outer,H b = none
  hok : HOk P w H s.heap
  bare : AllBare s.gens
def CE (outer : List Env) (P : Program) (w : World) (H : Hp) (s : Shared) (Q : VK) (u : Value) (s' : Shared) : Prop :=
  ∃ v H',s'.os = s.os∧AllBare s'.gens∧Un (frs outer) [] H H' s.heap s'.heap∧HOk P w H' s'.heap∧RelV v u∧Q v H'
def CR (CX : CXT) (outer : List Env) (P : Program) (w : World) (H : Hp) (s : Shared) (Q : VK) (E : XK) (r : Result) (s' : Shared) : Prop :=
  match r with
  | .ok (.ret u)=>CE outer P w H s Q u s'
  | .ok _=>False
  | .error e=>CX outer H s E e s'
structure FnOk (P : Program) (w : World) (K : PySem.W.Frag) (mg : Str→Option Value) (base : Heap) (CX : CXT) (k : Nat) (f : Addr) (fd : FuncData) (ps : List Str) (sp : Sp) : Prop where
  len : ∀ vs H Q E,sp vs H Q E→vs.length = ps.length
  run : ∀ (A : Around) (outer : List Env) (s : Shared) (H : Hp) (args : Args) (us : List Value) (vs : List V) (Q : VK) (E : XK),Room k A→Env0 P w K mg base A outer s H→BindsTo s fd args (ps.zip us)→Vals vs us→sp vs H Q E →
    codeAny (model P w) A (.call (.ref f) args) (CR CX outer P w H s Q E) s
theorem Env0.make {P : Program} {w : World} {K : PySem.W.Frag} {mg : Str→Option Value} {base : Heap} {A : Around} {outer : List Env} {s : Shared} {H : Hp} (e : Env0 P w K mg base A outer s H) (C : Addr) (us : List Value) (kw : List (Str × Value)) :
    Env0 P w K mg base (A.under (.builtin "type.__call__" ⟨.ref C :: us,kw⟩)) outer s H:=⟨by first | exact e.frames | (simpa [Around.under,Code.envs,Code.isFrame,pushEnvs] using e.frames),e.mod,e.bs,e.bsz,e.funs,e.frf,e.hok,e.bare⟩
theorem Env0.in1 {P : Program} {w : World} {K : PySem.W.Frag} {mg : Str→Option Value} {base : Heap} {A : Around} {outer : List Env} {s : Shared} {H : Hp} (e : Env0 P w K mg base A outer s H) :
    Env0 P w K mg base A.in1 outer s H:=⟨e.frames,e.mod,e.bs,e.bsz,e.funs,e.frf,e.hok,e.bare⟩
section
variable {X : Cx} {pins : List (Addr × Obj)} {σ : St} {H : Hp} {s s' : Shared}
theorem Inv.env0 (I : Inv X pins σ H s) : Env0 X.prog X.w X.K X.mg X.base X.A X.stack s H :=
  ⟨I.ok.frames,I.ok.mod,I.bs,Nat.le_trans I.ok.bsz I.sz,I.stack,I.stkFree,I.hok,I.bare⟩
theorem Inv.after {Q : VK} {u : Value} (I : Inv X pins σ H s) (h : CE X.stack X.prog X.w H s Q u s') : EP X pins σ Q u s':=by
  obtain ⟨v,H',os,bare,un,hok,r,q⟩:=h
  obtain ⟨hh,g,d,t,os'⟩:=s'
  obtain rfl : os' = s.os:=os
  exact ⟨v,H',I.call (h':=hh) (g':=g) (d':=d) (t':=t) (ch:=[]) un hok bare (fun b z=>absurd z (by simp)),r,q⟩
end
def q0 (sp : Sp) (dvs : List V) (E : XK) (t : TA) : TE:=fun σ H Q=>t σ H fun vs H1=>sp (vs ++ dvs) H1 Q E
def kY (C : Addr) (m : Str) (sp : Sp) (dvs : List V) (E : XK) (ta : TE) (t : TA) : TE:=fun σ H Q=>ta σ H fun x H1=>∃ a dx fs,x = .ref a∧H1 a = some (.ins C dx fs)∧fs.lookup m = none ∧
  t σ H1 fun vs H2=>sp (x :: (vs ++ dvs)) H2 Q E
def qO (C : Addr) (sp : Sp) (dvs : List V) (E : XK) (t : TA) : TE:=fun σ H Q=>t σ H fun vs H1=>∀ x dx,H1 x = none→H1 dx = none→dx ≠ x →
  sp (.ref x :: (vs ++ dvs)) (upd (upd H1 dx (.own x)) x (.ins C dx [])) (fun v H2=>v = .non∧Q (.ref x) H2) E
def Binds (K : PySem.W.Frag) (fd : FuncData) (ps : List Str) (ds : List Value) : Prop :=
  ∀ (s : Shared) (us : List Value),K.In s.heap→(us ++ ds).length = ps.length→BindsTo s fd ⟨us,[]⟩ (ps.zip (us ++ ds))
theorem Binds.all {K : PySem.W.Frag} {fd : FuncData} {ps : List Str} (h : ∀ us : List Value,us.length = ps.length→bindArgs fd ⟨us,[]⟩ = pure (ps.zip us)) : Binds K fd ps []:=fun s us _ hl=>by
  rw [List.append_nil] at hl ⊢
  exact .of_eq (h us hl)
def ee (CX : CXT) (X : Cx) (E : XK) : Prop:=∀ (pins : List (Addr × Obj)) (σ : St) (H : Hp) (s : Shared) (e : Value) (s' : Shared),Inv X pins σ H s→CX X.stack H s E e s'→X.xe e s'
section
variable {X : Cx} {CX : CXT} {k : Nat} {f C : Addr} {fd : FuncData} {ps : List Str} {sp : Sp} {dvs : List V} {ds : List Value} {E : XK} {x m : Str} {p pos apos : Pos} {e o : Expr} {es : List Expr} {ta : TE} {t : TA}
theorem kH {pins : List (Addr × Obj)} {σ : St} {H : Hp} {s : Shared} {Q : VK} {us : List Value} {vs : List V} (F : FnOk X.prog X.w X.K X.mg X.base CX k f fd ps sp) (hr : Room k X.A) (hb : Binds X.K fd ps ds) (hd : Vals dvs ds) (hx : ee CX X E)
    (I : Inv X pins σ H s) (r : Vals vs us) (h : sp (vs ++ dvs) H Q E) : wpAny (model X.prog X.w) X.A (call (.ref f) us) (EP X pins σ Q) X.xe s:=by
  have r2 : Vals (vs ++ dvs) (us ++ ds):=r.append hd
  have hl : (us ++ ds).length = ps.length:=by rw [← r2.length]; exact F.len _ _ _ _ h
  refine wpAny_call (codeAny_mono (F.run X.A X.stack s H ⟨us,[]⟩ (us ++ ds) (vs ++ dvs) Q E hr I.env0 (hb s us I.kIn hl) r2 h) fun r s' hq=>?_)
  cases r with
  | error e=>exact hx pins σ H s e s' I hq
  | ok fl =>
    cases fl with
    | ret u=>exact I.after hq
    | next=>exact False.elim hq
    | brk=>exact False.elim hq
    | cont=>exact False.elim hq
theorem qz (F : FnOk X.prog X.w X.K X.mg X.base CX k f fd ps sp) (hr : Room k X.A) (hg : Gl X x) (hm : X.mg x = some (.ref f)) (hk : PySem.W.keepIn X.K (.ref f) = true) (hb : Binds X.K fd ps ds) (hd : Vals dvs ds) (hx : ee CX X E)
    (ha : PA X (e :: es) t) (hdb : (x == ("__debug__" : Str)) = false:=by decide) (he : starEach (e :: es) X.env = (false,eval e X.env) :: starEach es X.env:=by rfl) (hpl : (backTo pos (starEach es X.env)).any (·.1) = false:=by rfl) :
    PE X (.Call (.Name x p) (e :: es) [] pos) (q0 sp dvs E t):=by
  intro pins s σ H Q I h
  refine wpAny_Call_Name_kw (lH I hg hm ?_ hdb)
  refine PySem.W.callWith_K (h₀:=X.base) I.ok.mod.kin hk (thn (ha pos pins s σ H _ I h) fun us s1 hm0=>?_) he hpl
  obtain ⟨vs,H1,I1,r,q⟩:=hm0
  refine ⟨I1.kIn,?_⟩
  exact kH F hr hb hd hx I1 r q
theorem pN {pl : Sem Bool} (he : PE X o ta) (c : Cls X.K C) (hm : Meth X.K C m f) (F : FnOk X.prog X.w X.K X.mg X.base CX k f fd ps sp) (hr : Room k X.A) (hb : Binds X.K fd ps ds) (hd : Vals dvs ds) (hx : ee CX X E) (ha : PA X (e :: es) t)
    (hst : starEach (e :: es) X.env = (false,eval e X.env) :: starEach es X.env:=by rfl) (hpl : (backTo pos (starEach es X.env)).any (·.1) = false:=by rfl)
    (ht : eval (.Call (.Attribute o m apos) (e :: es) [] pos) X.env = (do
      let ov ← eval o X.env
      standAt apos.atName
      let (f,first) ← holding [ov] (getMethod ov m pl)
      callWith pos f first (backTo pos (starEach (e :: es) X.env)) (backToKw pos (keywordEach [] X.env))):=by rfl) :
    PE X (.Call (.Attribute o m apos) (e :: es) [] pos) (kY C m sp dvs E ta t):=by
  intro pins s σ H Q I h
  refine PySem.W.methodCall_KW (pl:=pl) (thn (he pins s σ H _ I h) fun u s1 hm0=>?_) ht
  obtain ⟨x,H1,I1,rx,a,dx,fs,ex,ea,l,q⟩:=hm0
  subst ex
  obtain rfl : u = Value.ref a:=rx
  refine gH I1 ea c hm l ?_
  refine PySem.W.callWith_K (first:=[.ref a]) (h₀:=X.base) I.ok.mod.kin hm.kp (thn (ha pos pins s1 σ H1 _ I1 q) fun us s2 hm0=>?_) hst hpl
  obtain ⟨vs,H2,I2,r,q2⟩:=hm0
  refine ⟨I2.kIn,?_⟩
  exact kH (us:=.ref a :: us) (vs:=.ref a :: vs) F hr hb hd hx I2 (.cons rfl r) q2
theorem nc {pl : Sem Bool} (he : PE X o ta) (c : Cls X.K C) (hm : Meth X.K C m f) (F : FnOk X.prog X.w X.K X.mg X.base CX k f fd ps sp) (hr : Room k X.A) (hb : Binds X.K fd ps ds) (hd : Vals dvs ds) (hx : ee CX X E)
    (ht : eval (.Call (.Attribute o m apos) [] [] pos) X.env = (do
      let ov ← eval o X.env
      standAt apos.atName
      let (f,first) ← holding [ov] (getMethod ov m pl)
      callWith pos f first (backTo pos (starEach [] X.env)) (backToKw pos (keywordEach [] X.env))):=by rfl) :
    PE X (.Call (.Attribute o m apos) [] [] pos) (kY C m sp dvs E ta mI):=by
  intro pins s σ H Q I h
  refine PySem.W.methodCall_KW (pl:=pl) (thn (he pins s σ H _ I h) fun u s1 hm0=>?_) ht
  obtain ⟨x,H1,I1,rx,a,dx,fs,ex,ea,l,q⟩:=hm0
  subst ex
  obtain rfl : u = Value.ref a:=rx
  refine gH I1 ea c hm l ?_
  exact PySem.W.callWith_K0 (first:=[.ref a]) I1.kIn hm.kp (kH (us:=[.ref a]) (vs:=[.ref a]) F hr hb hd hx I1 (.cons rfl .nil) q)
structure Mk (K : PySem.W.Frag) (C f : Addr) : Prop where
  makes : PySem.W.makesIn K C = true
  init : PySem.W.findIn K (.ref C) "__init__" = some (some (.ref f))
  fn : PySem.W.isFn K (.ref f) = true
  kp : PySem.W.keepIn K (.ref C) = true
theorem nO {pins : List (Addr × Obj)} {σ : St} {H : Hp} {s : Shared} {Q : VK} {us : List Value} {vs : List V} (M : Mk X.K C f) (F : FnOk X.prog X.w X.K X.mg X.base CX k f fd ps sp) (hr : Room (k + 1) X.A) (hb : Binds X.K fd ps ds) (hd : Vals dvs ds)
    (hx : ee CX X E) (I : Inv X pins σ H s) (r : Vals vs us)
    (h : ∀ x dx,H x = none→H dx = none→dx ≠ x→sp (.ref x :: (vs ++ dvs)) (upd (upd H dx (.own x)) x (.ins C dx [])) (fun v H2=>v = .non∧Q (.ref x) H2) E) :
    wpAny (model X.prog X.w) X.A (call (.ref C) us) (EP X pins σ Q) X.xe s:=by
  have hq:=h (s.heap.objs.size + 1) s.heap.objs.size (I.hok.fresh (Nat.le_succ _)) (I.hok.fresh (Nat.le_refl _)) (Nat.ne_of_lt (Nat.lt_succ_self _))
  have I2:=Inv.made (C:=C) I
  have r2 : Vals (V.ref (s.heap.objs.size + 1) :: (vs ++ dvs)) (Value.ref (s.heap.objs.size + 1) :: (us ++ ds)):=.cons rfl (r.append hd)
  have hl : (Value.ref (s.heap.objs.size + 1) :: us ++ ds).length = ps.length:=by
    have e:=r2.length
    rw [F.len _ _ _ _ hq] at e
    exact e.symm
  refine wpAny_call (oY (f:=f) I.kIn M.makes M.init (beq_iff_eq.mp M.fn) (codeAny_mono (F.run _ X.stack _ _ ⟨Value.ref (s.heap.objs.size + 1) :: us,[]⟩ (Value.ref (s.heap.objs.size + 1) :: (us ++ ds)) _ _ E (hr.make C us [])
    (I2.env0.make C us []) (hb _ (Value.ref (s.heap.objs.size + 1) :: us) I2.kIn hl) r2 hq) fun r s' hq'=>?_))
  cases r with
  | error e=>exact hx pins σ _ _ e s' I2 hq'
  | ok fl =>
    cases fl with
    | ret u =>
      obtain ⟨v,H',I3,rv,ev,q3⟩:=I2.after hq'
      subst ev
      exact ⟨rv,⟨V.ref (s.heap.objs.size + 1),H',I3,rfl,q3⟩⟩
    | next=>exact False.elim hq'
    | brk=>exact False.elim hq'
    | cont=>exact False.elim hq'
theorem qB (M : Mk X.K C f) (F : FnOk X.prog X.w X.K X.mg X.base CX k f fd ps sp) (hr : Room (k + 1) X.A) (hg : Gl X x) (hm : X.mg x = some (.ref C)) (hb : Binds X.K fd ps ds) (hd : Vals dvs ds) (hx : ee CX X E)
    (ha : PA X (e :: es) t) (hdb : (x == ("__debug__" : Str)) = false:=by decide) (he : starEach (e :: es) X.env = (false,eval e X.env) :: starEach es X.env:=by rfl) (hpl : (backTo pos (starEach es X.env)).any (·.1) = false:=by rfl) :
    PE X (.Call (.Name x p) (e :: es) [] pos) (qO C sp dvs E t):=by
  intro pins s σ H Q I h
  refine wpAny_Call_Name_kw (lH I hg hm ?_ hdb)
  refine PySem.W.callWith_K (h₀:=X.base) I.ok.mod.kin M.kp (thn (ha pos pins s σ H _ I h) fun us s1 hm0=>?_) he hpl
  obtain ⟨vs,H1,I1,r,q⟩:=hm0
  refine ⟨I1.kIn,?_⟩
  exact nO M F hr hb hd hx I1 r q
end
def PK (X : Cx) (kws : List Keyword) (t : TA) : Prop :=
  ∀ (pos : Pos) (pins : List (Addr × Obj)) (s : Shared) (σ : St) (H : Hp) (Q : List V→Hp→Prop),Inv X pins σ H s→t σ H Q→wpAny (model X.prog X.w) X.A (evalAll ((backToKw pos (keywordEach kws X.env)).map (·.2))) (AP X pins σ Q) X.xe s
section
variable {X : Cx} {CX : CXT} {k : Nat} {f C : Addr} {fd : FuncData} {ps ks : List Str} {sp : Sp} {E : XK} {x m : Str} {p pos apos kpos : Pos} {e o : Expr} {es : List Expr} {kws : List Keyword} {te ta : TE} {t tk : TA} {nm : Option Str}
theorem oB : PK X [] mI:=fun _ _ _ _ H Q I h=>wpAny_evalAll_nil ⟨[],H,I,.nil,h⟩
theorem lI (ha : PE X e te) (hr : PK X kws t) : PK X (⟨nm,e,kpos⟩ :: kws) (lS te t):=by
  intro pos pins s σ H Q I h
  show wpAny _ _ (evalAll ((do let v ← eval e X.env; standAt pos; pure v) :: (backToKw pos (keywordEach kws X.env)).map (·.2))) _ _ s
  refine wpAny_evalAll_cons (wpAny_bind (thn (ha pins s σ H _ I h) fun u s1 hm0=>?_))
  obtain ⟨x,H1,I1,r1,q1⟩:=hm0
  refine wpAny_bind (wpAny_standAt (wpAny_pure ?_))
  refine thn (hr pos pins s1 σ H1 _ I1 q1) fun us s2 hm0=>?_
  obtain ⟨xs,H2,I2,r2,q2⟩:=hm0
  exact ⟨x :: xs,H2,I2,.cons r1 r2,q2⟩
variable {g : List Value→List Value→List Value} {gV : List V→List V→List V}
end
structure FnScope (N P : List Str) (sc : Scope) : Prop where
  kind : sc.kind = .function
  co : sc.isCoroutine = false
  gen : sc.isGenerator = false
  nd : N.Nodup
  pre : N.take P.length = P
  par : ∀ x ∈ P,sc.names.lookup x = some .local ∨ sc.names.lookup x = some .cell
  nofree : ∀ y ∈ sc.names,y.2 ≠ .free
theorem iF {kindOf : Str→Option NameKind} {x : Str} : ∀ {binds : List (Str × Value)} {m : Str→Option Value},(∀ v,(x,v) ∉ binds)→bindL kindOf binds m x = m x
  | [],_,_=>rfl
  | (n,v) :: r,m,h=>by
    unfold bindL
    rw [iF fun w hw=>h w (List.mem_cons_of_mem _ hw)]
    split
    · have : x ≠ n:=by rintro rfl; exact h v List.mem_cons_self
      simp [this]
    · rfl
theorem iK {kindOf : Str→Option NameKind} {x : Str} : ∀ {binds : List (Str × Value)} {m : Str→Option Value},(∀ v,(x,v) ∉ binds)→bindC kindOf binds m x = m x
  | [],_,_=>rfl
  | (n,v) :: r,m,h=>by
    unfold bindC
    rw [iK fun w hw=>h w (List.mem_cons_of_mem _ hw)]
    split
    · rfl
    · have : x ≠ n:=by rintro rfl; exact h v List.mem_cons_self
      simp [this]
theorem iG {kindOf : Str→Option NameKind} {x : Str} {v : Value} : ∀ {P : List Str} {vs : List Value} {i : Nat} {m : Str→Option Value},P.Nodup→P[i]? = some x→vs[i]? = some v→kindOf x = some .local →
    bindL kindOf (P.zip vs) m x = some v
  | [],_,_,_,_,h,_,_=>by simp at h
  | _ :: _,[],_,_,_,_,h,_=>by simp at h
  | p :: P,w :: vs,0,m,nd,h1,h2,hk=>by
    simp at h1 h2; subst h1; subst h2
    show bindL kindOf ((p,w) :: P.zip vs) m p = _
    unfold bindL
    rw [iF fun v hv=>(List.nodup_cons.mp nd).1 (List.of_mem_zip hv).1,if_pos hk]
    simp
  | p :: P,w :: vs,i + 1,m,nd,h1,h2,hk=>by
    show bindL kindOf ((p,w) :: P.zip vs) m x = _
    unfold bindL
    exact iG (i:=i) (List.nodup_cons.mp nd).2 (by simpa using h1) (by simpa using h2) hk
theorem ix {kindOf : Str→Option NameKind} {x : Str} {v : Value} : ∀ {P : List Str} {vs : List Value} {i : Nat} {m : Str→Option Value},P.Nodup→P[i]? = some x→vs[i]? = some v→kindOf x ≠ some .local →
    bindC kindOf (P.zip vs) m x = some v
  | [],_,_,_,_,h,_,_=>by simp at h
  | _ :: _,[],_,_,_,_,h,_=>by simp at h
  | p :: P,w :: vs,0,m,nd,h1,h2,hk=>by
    simp at h1 h2; subst h1; subst h2
    show bindC kindOf ((p,w) :: P.zip vs) m p = _
    unfold bindC
    rw [iK fun v hv=>(List.nodup_cons.mp nd).1 (List.of_mem_zip hv).1,if_neg hk]
    simp
  | p :: P,w :: vs,i + 1,m,nd,h1,h2,hk=>by
    show bindC kindOf ((p,w) :: P.zip vs) m x = _
    unfold bindC
    exact ix (i:=i) (List.nodup_cons.mp nd).2 (by simpa using h1) (by simpa using h2) hk
def start (N : List Str) (vs : List V) : St:=vs.map some ++ List.replicate (N.length - vs.length) none
def eH (CX : CXT) (P : Program) (w : World) (K : PySem.W.Frag) (mg : Str→Option Value) (base : Heap) (N : List Str) (qual : Str) (scope : Scope) (f : Addr) (cd : Value) (A : Around) (outer : List Env) (s : Shared) (H : Hp) (E : XK) : Cx where
  prog:=P
  w:=w
  K:=K
  mg:=mg
  base:=base
  A:=A.deeper (envOfC qual scope s.heap.objs.size f cd)
  N:=N
  s₀:=s
  H₀:=H
  env:=envOfC qual scope s.heap.objs.size f cd
  outer:=outer
  stack:=envOfC qual scope s.heap.objs.size f cd :: outer
  ex:=[]
  calm:=true
  fn:=fun _=>true
  pn:=[]
  xe:=fun e s'=>wpAny (model P w) (A.deeper (envOfC qual scope s.heap.objs.size f cd)) (leaving (envOfC qual scope s.heap.objs.size f cd) e) (fun _ s''=>CX outer H s E e s'') (fun e' s''=>CX outer H s E e' s'') s'
theorem jH {sc : Scope} {n : Nat} {x : Str} (h : sc.names.lookup x = some .cell) : ∃ c,(cellsFrom n sc.names []).lookup x = some c:=by
  have q:=PySem.W.cellsFrom_some sc.names n [] (.inl h)
  exact Option.isSome_iff_exists.mp q
theorem mE {CX : CXT} {P : Program} {w : World} {K : PySem.W.Frag} {mg : Str→Option Value} {base : Heap} {N ps : List Str} {qual : Str} {scope : Scope} {f : Addr} {cd : Value} {A : Around} {outer : List Env} {s s1 : Shared} {H : Hp} {E : XK} {us : List Value} {vs : List V}
    (S : FnScope N ps scope) (hd : A.handled = none) (e0 : Env0 P w K mg base A outer s H) (hl : vs.length = ps.length) (r : Vals vs us)
    (x : InCallC s s.heap.objs.size (bindL (envOfC qual scope s.heap.objs.size f cd).kindOf (ps.zip us) fun _=>none) (cellsFrom (s.heap.objs.size + 1) scope.names []) (bindC (envOfC qual scope s.heap.objs.size f cd).kindOf (ps.zip us) fun _=>none) s1) :
    Inv (eH CX P w K mg base N qual scope f cd A outer s H E) [] (start N vs) H s1:=by
  have hpl : ps.length ≤ N.length:=by have:=congrArg List.length S.pre; rw [List.length_take] at this; omega
  obtain ⟨h1,tk,rfl,hk⟩:=x.done
  have noA : ∀ b : Addr,b ∉ (eH CX P w K mg base N qual scope f cd A outer s H E).ex:=fun b z=>absurd (show b ∈ ([] : List Addr) from z) (by simp)
  refine ⟨⟨e0.mod,S.kind,rfl,rfl,Nat.le_refl _,fun y z c h1 h2=>?_,fun y hy=>?_,fun y c _ h=>?_,fun _=>hd,Around.frames_deeper e0.frames,.inr ⟨rfl,rfl⟩,fun b z=>absurd z (noA b),e0.bs,e0.bsz,fun b _ _=>noA b,fun b z=>absurd z (noA b),e0.funs,e0.frf⟩,
    rfl,e0.bare,Un.kept hk,⟨_,x.toInCall.ns,fun i y v h1 h2 h3=>?_⟩,fun y c h=>⟨_,x.cell y c h⟩,e0.hok.fresh (Nat.le_refl _),fun y c h=>?_,fun p hp=>absurd (show p ∈ ([] : List (Addr × Obj)) from hp) (by simp),e0.hok.kept hk,?_⟩
  · exact name_of_addr x.apart (PySem.mem_of_lookup h1) (PySem.mem_of_lookup h2)
  · have hy : scope.names.lookup y = some .cell ∨ scope.names.lookup y = some .free:=hy
    rcases hy with hy | hy
    · exact jH hy
    · exact absurd rfl (S.nofree _ (PySem.mem_of_lookup hy))
  · exact Nat.le_of_lt (x.above y c (PySem.mem_of_lookup h))
  · have hi : i < vs.length:=by
      unfold start at h2
      by_cases hi : i < vs.length
      · exact hi
      · rw [List.getElem?_append_right (by simpa using hi)] at h2
        rw [List.getElem?_replicate] at h2
        split at h2 <;> cases h2
    have ha : vs[i]? = some v:=by
      unfold start at h2
      rw [List.getElem?_append_left (by simpa using hi),List.getElem?_map] at h2
      cases e : vs[i]? with
      | none=>rw [e] at h2; cases h2
      | some a=>rw [e] at h2; cases h2; rfl
    obtain ⟨u,hu,rv⟩:=r.get ha
    have hp : ps[i]? = some y:=by
      rw [← S.pre,List.getElem?_take_of_lt (by omega)]; exact h1
    have ndP : ps.Nodup:=by rw [← S.pre]; exact S.nd.sublist (List.take_sublist _ _)
    refine ⟨u,rv,?_⟩
    rcases S.par y (List.mem_of_getElem? hp) with k | k
    · exact .inl ⟨k,iG ndP hp hu k⟩
    · obtain ⟨c,e⟩:=jH (n:=s.heap.objs.size + 1) k
      refine .inr ⟨.inl k,c,e,?_⟩
      have q:=x.cell y c e
      rw [ix ndP hp hu (by show scope.names.lookup y ≠ _; rw [k]; decide)] at q
      exact q
  · exact e0.hok.fresh (Nat.le_of_lt (x.above y c (PySem.mem_of_lookup h)))
  · unfold start
    show _ = N.length
    rw [List.length_append,List.length_map,List.length_replicate]
    omega
theorem qR {CX : CXT} {P : Program} {w : World} {K : PySem.W.Frag} {mg : Str→Option Value} {base : Heap} {k : Nat} {f : Addr} {name qual : Str} {params : Arguments} {body : List Stmt} {scope : Scope} {dV kV doc pm cdv ct oc : Value} {an od : Option Addr}
    {osl : Array (Option Value)} {N ps : List Str} {sp : Sp} (lk : K.lookup f = some ⟨oc,od,.func (PySem.W.fnOf name qual params body scope dV kV doc pm an cdv ct),osl⟩) (hcd : PySem.W.codeIn K cdv qual = true) (S : FnScope N ps scope)
    (len : ∀ vs H Q E,sp vs H Q E→vs.length = ps.length)
    (hbody : ∀ (A : Around) (outer : List Env) (s : Shared) (H : Hp) (vs : List V) (Q : VK) (E : XK),Room k (A.deeper (envOfC qual scope s.heap.objs.size f cdv))→sp vs H Q E →
      ∃ t,PSs (eH CX P w K mg base N qual scope f cdv A outer s H E) body t∧t { nx:=fun _ H'=>Q .non H',rt:=Q } (start N vs) H) :
    FnOk P w K mg base CX (k + 1) f (PySem.W.fnOf name qual params body scope dV kV doc pm an cdv ct) ps sp:=by
  refine ⟨len,fun A outer s H args us vs Q E hr e0 hb r hsp=>?_⟩
  have hl:=len _ _ _ _ hsp
  have KX : K.In s.heap:=e0.mod.kin.keeps fun b o e=>(e0.bs b o e).1
  have lim : s.heap.NoLimit:=e0.mod.nolimit.keeps fun b o e=>(e0.bs b o e).1
  have hkind : ∀ y ∈ ps.zip us,scope.names.lookup y.1 = some .local ∨ (scope.names.lookup y.1 = some .cell∧((cellsFrom (s.heap.objs.size + 1) scope.names []).lookup y.1).isSome = true):=fun ⟨n,v⟩ hy=>by
    rcases S.par n (List.of_mem_zip hy).1 with q | q
    · exact .inl q
    · exact .inr ⟨q,PySem.W.cellsFrom_some _ _ _ (.inl q)⟩
  refine codeAny_call_function hr.depth (KX _ _ lk) rfl S.co S.gen rfl (PySem.W.codeRec_of KX hcd) (hb _ _ _ _ ?_)
  refine wpAny_newFunctionEnv_cells S.kind hkind fun env he s1 x=>?_
  subst he
  refine ⟨lim.keeps x.toInCall.keep,codeAny_func ?_⟩
  obtain ⟨t,ht,hq⟩:=hbody A outer s H vs Q E (hr.deeper _) hsp
  have I : Inv (eH CX P w K mg base N qual scope f cdv A outer s H E) [] (start N vs) H s1:=mE S hr.hd e0 hl r x
  refine wpAny_mono (ht [] s1 (start N vs) H _ I hq) (fun fl s' hs=>?_) fun e s' hs=>hs
  have fin : ∀ {σ' : St} {H' : Hp} {v : V} {u : Value},Inv (eH CX P w K mg base N qual scope f cdv A outer s H E) [] σ' H' s'→RelV v u→Q v H'→CE outer P w H s Q u s' :=
    fun {σ' H' v u} J rv q=>⟨v,H',J.os,J.bare,J.base,J.hok,rv,q⟩
  cases fl with
  | ret u =>
    obtain ⟨v,σ',H',J,rv,q⟩:=hs
    exact fin J rv q
  | next =>
    obtain ⟨σ',H',J,q⟩:=hs
    exact fin (v:=V.non) (u:=Value.none) J rfl q
  | brk =>
    obtain ⟨_,_,_,q⟩:=hs
    exact False.elim q
  | cont =>
    obtain ⟨_,_,_,q⟩:=hs
    exact False.elim q
section
variable {X : Cx} {x : Str} {p pos : Pos} {e : Expr} {es : List Expr} {t : TA} {id T : String} {r : List V→Hp→VK→Prop}
def tCB (r : List V→Hp→VK→Prop) (t : TA) : TE:=fun σ H Q=>t σ H fun vs H1=>r vs H1 Q
theorem aF (hc : dW X (.builtin id) r) (hg : Gl X x) (hm : X.mg x = none) (hv : bootBuiltins x = some (.builtin id)) (ha : PA X (e :: es) t) (hn : x ≠ "__name__":=by decide) (hdb : (x == ("__debug__" : Str)) = false:=by decide)
    (he : starEach (e :: es) X.env = (false,eval e X.env) :: starEach es X.env:=by rfl) (hpl : (backTo pos (starEach es X.env)).any (·.1) = false:=by rfl) : PE X (.Call (.Name x p) (e :: es) [] pos) (tCB r t):=by
  intro pins s σ H Q I h
  refine wpAny_Call_Name_kw (cx I hg hm hv ?_ hn hdb)
  refine PyProof.Rows.callWith_builtin1 (thn (ha pos pins s σ H _ I h) fun us s1 hm0=>?_) he hpl
  obtain ⟨vs,H1,I1,r1,q1⟩:=hm0
  exact hc pins s1 σ H1 vs us Q I1 r1 q1
theorem cZ (hc : dW X (.type T) r) (hg : Gl X x) (hm : X.mg x = none) (hv : bootBuiltins x = some (.type T)) (ha : PA X (e :: es) t) (hn : x ≠ "__name__":=by decide) (hdb : (x == ("__debug__" : Str)) = false:=by decide)
    (he : starEach (e :: es) X.env = (false,eval e X.env) :: starEach es X.env:=by rfl) (hpl : (backTo pos (starEach es X.env)).any (·.1) = false:=by rfl) : PE X (.Call (.Name x p) (e :: es) [] pos) (tCB r t):=by
  intro pins s σ H Q I h
  refine wpAny_Call_Name_kw (cx I hg hm hv ?_ hn hdb)
  refine PyProof.Rows.callWith_type1 (thn (ha pos pins s σ H _ I h) fun us s1 hm0=>?_) he hpl
  obtain ⟨vs,H1,I1,r1,q1⟩:=hm0
  exact hc pins s1 σ H1 vs us Q I1 r1 q1
end
end L2
namespace HT
open PySem PyProof.Rows
def lexLt : List Int→List Int→Bool
  | [],[]=>false
  | [],_ :: _=>true
  | _ :: _,[]=>false
  | x :: xs,y :: ys=>if x = y then lexLt xs ys else decide (x < y)
theorem lexLt_cons (x y : Int) (xs ys : List Int) : lexLt (x :: xs) (y :: ys) = if x = y then lexLt xs ys else decide (x < y):=rfl
theorem lexLt_nil_nil : lexLt [] [] = false:=rfl
theorem dB (y : Int) (ys : List Int) : lexLt [] (y :: ys) = true:=rfl
theorem dA (x : Int) (xs : List Int) : lexLt (x :: xs) [] = false:=rfl
theorem jN (A : Around) (s : Shared) (a : Int) (t : Tok) (c : Int) (u : Tok) : ∃ e,SeqAt.EqAt A s (.int a t) (.int c u) e∧(e = true ↔ a = c) :=
  ⟨(a == c),SeqAt.EqAt.int_int a t c u,by simp⟩
theorem o0 (A : Around) (s : Shared) (a : Int) (t : Tok) (c : Int) (u : Tok) (prog : Program) (w : World) (E : Value→Shared→Prop) (Q : Value→Shared→Prop) (h : Q (.bool (decide (a < c))) s) :
    wpAny (model prog w) A (richCompare .Lt (.int a t) (.int c u)) Q E s :=
  (PyProof.Rows.lt_int h : wpAny (model prog w) A (compareOp .Lt (.int a t) (.int c u)) Q E s)
section
open PySem.SeqAt
open PySem.AutoSeq1 (wpAny_loadPart')
open PySem.MeetsSeq PySem.MeetsSeq2 PySem.MeetsSeq3
theorem gW (l b : Addr) (items items2 : Array Value) (n n2 : Nat) (dd dd2 : Option Addr) (sl sl2 : Array (Option Value)) (ns ms : List Int) (hi : IntsAre items.toList ns) (hj : IntsAre items2.toList ms) :
    Meets (Builtin.«tuple.__lt__» ⟨[.ref l,.ref b],[]⟩)
      (fun _ R s=>s.heap.get? l = some { cls:=.type "tuple",dict:=dd,data:=.seq items n,slots:=sl }∧s.heap.get? b = some { cls:=.type "tuple",dict:=dd2,data:=.seq items2 n2,slots:=sl2 } ∧
        R (.ok (.ret (.bool (lexLt ns ms)))) s) :=
  .of_wp fun prog w A R s h=>by
    obtain ⟨hp,g,d,tk,os⟩:=s; obtain ⟨hl,hb,h⟩:=h
    have f2:=AutoSeq1.sub_tuple_tuple
    have z1 : items.size = ns.length:=by rw [← hi.length]; simp
    have z2 : items2.size = ms.length:=by rw [← hj.length]; simp
    wp_walk using wpAny_loadPart' hl,wpAny_loadPart' hb,wpAny_forIn_list _ (fun rest b s'=>b.1 = none∧s' = ⟨hp,g,d,tk,os⟩∧∃ (vs ws : List Value) (ns' ms' : List Int),rest = vs.zip ws ∧
      IntsAre vs ns'∧IntsAre ws ms'∧ns'.length + items2.size = ms'.length + items.size∧R (.ok (.ret (.bool (lexLt ns' ms')))) ⟨hp,g,d,tk,os⟩) _
    case turn =>
      rintro ⟨y,x⟩ rest b s' ⟨hb',rfl,vs,ws,ns',ms',hz,hvi,hwi,hlen,hR⟩
      cases hvi with
      | nil=>rw [List.zip_nil_left] at hz; cases hz
      | cons a t hvi' =>
        cases hwi with
        | nil=>rw [List.zip_nil_right] at hz; cases hz
        | cons c u hwi' =>
          rw [List.zip_cons_cons] at hz
          injection hz with hyx hrest
          injection hyx with hy hx
          subst hy hx
          rw [lexLt_cons] at hR
          simp only [List.length_cons] at hlen
          obtain ⟨e,he,hiff⟩:=jN A.in1 ⟨hp,g,d,tk,os⟩ a t c u
          refine wpAny_bind (he prog w _ _ ?_)
          cases e with
          | true =>
            rw [if_pos (hiff.mp rfl)] at hR
            wp_walk
            exact ⟨rfl,rfl,_,_,_,_,hrest,hvi',hwi',by omega,hR⟩
          | false =>
            rw [if_neg (fun q=>absurd (hiff.mpr q) Bool.false_ne_true)] at hR
            have hri:=o0 A.in1 ⟨hp,g,d,tk,os⟩ a t c u prog w
            wp_walk using hri
            exact ⟨_,rfl,by simpa using hR⟩
    case fin =>
      rintro ⟨b1,b2⟩ s' ⟨hb',rfl,vs,ws,ns',ms',hz,hvi,hwi,hlen,hR⟩
      simp only at hb'
      subst hb'
      have hv : lexLt ns' ms' = decide (items.size < items2.size):=by
        cases hvi with
        | nil =>
          cases hwi with
          | nil =>
            simp only [List.length_nil] at hlen
            rw [lexLt_nil_nil]
            exact (decide_eq_false (by omega)).symm
          | cons c u hw =>
            simp only [List.length_nil,List.length_cons] at hlen
            rw [dB]
            exact (decide_eq_true (by omega)).symm
        | cons a t hv =>
          cases hwi with
          | nil =>
            simp only [List.length_nil,List.length_cons] at hlen
            rw [dA]
            exact (decide_eq_false (by omega)).symm
          | cons c u hw =>
            rw [List.zip_cons_cons] at hz
            cases hz
      rw [hv] at hR
      wp_walk
      exact ⟨_,rfl,by simpa [Builtin.Tuple.tupleCompareSizes] using hR⟩
    case h =>
      exact ⟨rfl,rfl,items.toList,items2.toList,ns,ms,rfl,hi,hj,by omega,h⟩
end
section
variable {prog : Program} {w : World} {A : Around} {E : Value→Shared→Prop} {s : Shared}
theorem lt_tupInts {l b : Addr} {items items2 : Array Value} {ns ms : List Int} {Q : Value→Shared→Prop} (hl : IsTup s.heap l items) (hb : IsTup s.heap b items2) (hi : IntsAre items.toList ns) (hj : IntsAre items2.toList ms)
    (hu : A.units < cLine) (h : Q (.bool (lexLt ns ms)) s) : wpAny (model prog w) A (compareOp .Lt (.ref l) (.ref b)) Q E s:=by
  obtain ⟨⟨cls,dd,data,sl⟩,ho,hc,n,hd⟩:=id hl
  obtain ⟨⟨cls2,dd2,data2,sl2⟩,ho2,hc2,n2,hd2⟩:=id hb
  simp only at hc hd hc2 hd2
  subst hc hd hc2 hd2
  exact richCompare_meets_room (op:=.Lt) ⟨_,ho,rfl⟩ ⟨_,ho2,rfl⟩ PySem.F.slot_tuple_lt PySem.F.entry_tuple_lt (PySem.F.args_tuple_lt_2 _ _) (gW l b items items2 n n2 dd dd2 sl sl2 ns ms hi hj)
    ⟨ho,ho2,show Value.bool (lexLt ns ms) ≠ Value.notImplemented∧Q (.bool (lexLt ns ms)) s from ⟨(fun x=>nomatch x),h⟩⟩ hu
end
end HT
namespace L2
open PySem PySem.Spec PyProof.Rows
theorem bN {ns : List Int} : ∀ {us : List Value},Vals (ns.map V.int) us→IntsAre us ns:=by
  induction ns with
  | nil=>intro us r; rw [List.map_nil] at r; cases r; exact .nil
  | cons n ns ih =>
    intro us r
    rw [List.map_cons] at r
    cases r with
    | cons r1 r2 =>
      obtain ⟨t,e⟩:=r1
      subst e
      exact .cons n t (ih r2)
section
variable {X : Cx} {e : Expr} {te : TE} {lo hi : Option Expr} {tl th : TO} {pos p2 : Pos}
end
def ixN (n : Nat) (i : Int) : Option Nat:=if 0 ≤ i then (if i < n then some i.toNat else none) else if -(n : Int) ≤ i then some (i + n).toNat else none
def atI {α : Type} (xs : List α) (i : Int) : Option α:=(ixN xs.length i).bind fun j=>xs[j]?
theorem lh {n : Nat} {i : Int} {j : Nat} (h : ixN n i = some j) : seqIndex? i n = some j∧j < n∧-(n : Int) ≤ i∧i < n:=by
  unfold ixN at h
  by_cases h0 : 0 ≤ i
  · rw [if_pos h0] at h
    by_cases h1 : i < n
    · rw [if_pos h1] at h
      have e : i.toNat = j:=Option.some.inj h
      exact ⟨by rw [seqIndex_of h0 h1,e],by omega,by omega,h1⟩
    · rw [if_neg h1] at h; cases h
  · rw [if_neg h0] at h
    by_cases h1 : -(n : Int) ≤ i
    · rw [if_pos h1] at h
      have e : (i + n).toNat = j:=Option.some.inj h
      exact ⟨by rw [seqIndex_neg (by omega) h1,e],by omega,h1,by omega⟩
    · rw [if_neg h1] at h; cases h
theorem lp {α : Type} {xs : List α} {i : Int} {v : α} (h : atI xs i = some v) : ∃ j,seqIndex? i xs.length = some j∧xs[j]? = some v∧j < xs.length∧-(xs.length : Int) ≤ i∧i < xs.length:=by
  unfold atI at h
  cases e : ixN xs.length i with
  | none=>rw [e] at h; cases h
  | some j =>
    rw [e] at h
    obtain ⟨h1,h2,h3,h4⟩:=lh e
    exact ⟨j,h1,h,h2,h3,h4⟩
theorem ar {α : Type} {xs : List α} {j : Nat} {v : α} (h : xs[j]? = some v) : atI xs (j : Int) = some v:=by
  have hj : j < xs.length:=(List.getElem?_eq_some_iff.mp h).1
  have e : ixN xs.length (j : Int) = some j:=by
    unfold ixN
    rw [if_pos (by omega),if_pos (by omega)]; simp
  unfold atI; rw [e]; exact h
theorem oR {α : Type} (xs : List α) (v : α) : atI (xs ++ [v]) (-1) = some v:=by
  have hl : (xs ++ [v]).length = xs.length + 1:=by simp
  have e : ixN (xs ++ [v]).length (-1) = some xs.length:=by
    unfold ixN
    rw [hl,if_neg (by decide),if_pos (by omega)]
    congr 1
    omega
  unfold atI
  rw [e]
  show (xs ++ [v])[xs.length]? = some v
  simp
def qj (b : Expr) : Prop:=∀ o i,subscripted b false o i = operate [o,i] (getItem o i)
def IxR (X : Cx) (r : R2) : Prop :=
  ∀ (value slice : Expr) (pins : List (Addr × Obj)) (s : Shared) (σ : St) (H : Hp) (x y : V) (v u : Value) (Q : VK),Inv X pins σ H s→RelV x v→RelV y u→r x y H Q →
    subscripted slice false v u = operate [v,u] (getItem v u)→wpAny (model X.prog X.w) X.A (subscriptTail value slice v u) (EP X pins σ Q) X.xe s
def MtR (X : Cx) (id : String) (r : V→List V→Hp→VK→Prop) : Prop :=
  ∀ (pins : List (Addr × Obj)) (s : Shared) (σ : St) (H : Hp) (x : V) (xs : List V) (v : Value) (us : List Value) (Q : VK),Inv X pins σ H s→RelV x v→Vals xs us→r x xs H Q →
    wpAny (model X.prog X.w) X.A (call (.builtin id) (v :: us)) (EP X pins σ Q) X.xe s
section
variable {X : Cx} {a b : Expr} {ta tb : TE} {pos : Pos}
theorem ax {r : R2} (hr : IxR X r) (ha : PE X a ta) (hb : PE X b tb) (hs : qj b) : PE X (.Subscript a b pos) (tOp r ta tb):=by
  intro pins s σ H Q I h
  exact Subscript_ (rN ha hb I h fun v u s2 x y H2 I2 rx ry q=>hr a b pins s2 σ H2 x y v u Q I2 rx ry q (hs _ _))
def tz (K : PySem.W.Frag) : R2:=fun x y H Q=>∃ p xs i v,x = .ref p∧y = .int i∧SqL K H p xs∧atI xs i = some v∧Q v H
def sN (K : PySem.W.Frag) : R2:=fun x y H Q=>∃ p xs i v,x = .ref p∧y = .int i∧SqT K H p xs∧atI xs i = some v∧Q v H
theorem pW : IxR X (tz X.K):=by
  intro value slice pins s σ H x y v u Q I rx ry h hs
  obtain ⟨p,xs,i,z,rfl,rfl,hq,he,q⟩:=h
  cases rx
  obtain ⟨t,rfl⟩:=ry
  obtain ⟨its,r,pl,hz⟩:=I.list hq
  obtain ⟨j,h1,h2,h3,h4,h5⟩:=lp he
  obtain ⟨w,ew,rw'⟩:=r.get h2
  have hl:=r.length
  have hn:=gz
  have fin : EP X pins σ Q w s:=⟨z,H,I,rw',q⟩
  by_cases h0 : 0 ≤ i
  · have hj : i.toNat = j:=by
      rw [seqIndex_of h0 h5] at h1
      exact Option.some.inj h1
    exact item_listR pl.isList h0 (by omega) (by rw [hj]; simpa using ew) fin hs
  · have hj : (i + (its.toArray.size : Int)).toNat = j:=by
      rw [seqIndex_neg (by omega) h4] at h1
      rw [List.size_toArray,← hl]
      exact Option.some.inj h1
    exact subscriptTail_builtinR (x:=w) pl.isList.typeIs slot_list_getitem.lookup
      (wpAny_getItem_list_neg (Q:=fun r s'=>r = w∧EP X pins σ Q r s') pl.isList (by omega) (by rw [List.size_toArray] <;> omega) (by omega) (by rw [hj]; simpa using ew) ⟨rfl,fin⟩) hs
theorem rf : IxR X (sN X.K):=by
  intro value slice pins s σ H x y v u Q I rx ry h hs
  obtain ⟨p,xs,i,z,rfl,rfl,hq,he,q⟩:=h
  cases rx
  obtain ⟨t,rfl⟩:=ry
  obtain ⟨its,r,pl,hz⟩:=I.tuple hq
  obtain ⟨j,h1,h2,h3,h4,h5⟩:=lp he
  obtain ⟨w,ew,rw'⟩:=r.get h2
  have hl:=r.length
  have hn:=gz
  have fin : EP X pins σ Q w s:=⟨z,H,I,rw',q⟩
  exact subscriptTail_builtinR (x:=w) pl.typeIs slot_tuple_getitem.lookup
    (getItem_tuple (j:=j) (Q:=fun r s'=>r = w∧EP X pins σ Q r s') pl (by omega) (by omega) (by rw [List.size_toArray,← hl]; exact h1) (by simpa using ew) ⟨rfl,fin⟩) hs
theorem kF (its : List Value) (n j : Nat) (u : Value) : Obj.mapSeq (·.setIfInBounds j u) { cls:=.type "list",data:=.seq its.toArray n } = { cls:=.type "list",data:=.seq (its.set j u).toArray n }:=by
  simp [Obj.mapSeq]
theorem Inv.lst {pins : List (Addr × Obj)} {σ : St} {H : Hp} {s : Shared} {p : Addr} {xs : List V} (I : Inv X pins σ H s) (h : H p = some (.lst xs)) :
    ∃ (its : List Value) (n : Nat),Vals xs its∧s.heap.get? p = some { cls:=.type "list",data:=.seq its.toArray n }∧xs.length ≤ sizeLine:=by
  obtain ⟨z,its,n,r,e⟩:=I.hok p _ h
  exact ⟨its,n,r,e,z⟩
theorem Inv.lstUpd {pins : List (Addr × Obj)} {σ : St} {H : Hp} {s : Shared} {p : Addr} {xs ys : List V} {its its' : List Value} {n n' : Nat} {f : Obj→Obj} (I : Inv X pins σ H s) (h : H p = some (.lst xs))
    (ho : s.heap.get? p = some { cls:=.type "list",data:=.seq its.toArray n }) (hf : f { cls:=.type "list",data:=.seq its.toArray n } = { cls:=.type "list",data:=.seq its'.toArray n' }) (r : Vals ys its') (hz : ys.length ≤ sizeLine) (t : Nat) :
    Inv X pins σ (upd H p (.lst ys)) { s with heap:=s.heap.update p f,toks:=t }:=by
  have e : (s.heap.update p f).get? p = some { cls:=.type "list",data:=.seq its'.toArray n' }:=by
    rw [Heap.get?_update_self f ho (by rw [hf] <;> rfl),hf]
  refine I.write (x:=p) (e:=p) (by rw [h]; trivial) (.inl rfl) (fun b u hb q=>(Heap.get?_update_other _ _ (Ne.symm hb)).trans q) ⟨_,e⟩ ?_
  exact ⟨hz,its',n',r,e⟩
def sS : V→V→V→Hp→(Hp→Prop)→Prop:=fun o i v H Q=>∃ p xs k j,o = .ref p∧i = .int k∧H p = some (.lst xs)∧ixN xs.length k = some j∧Q (upd H p (.lst (xs.set j v)))
theorem fY : sW X sS:=by
  intro pins s σ H o i v ov iv u Q I ro ri rv h
  obtain ⟨p,xs,k,j,rfl,rfl,hp,hj,q⟩:=h
  cases ro
  obtain ⟨t,rfl⟩:=ri
  obtain ⟨its,n,r,ho,hz⟩:=I.lst hp
  obtain ⟨h1,h2,h3,h4⟩:=lh hj
  have hl:=r.length
  have hn:=gz
  have I' : Inv X pins σ (upd H p (.lst (xs.set j v))) { s with heap:=s.heap.update p (Obj.mapSeq (·.setIfInBounds j u)) } :=
    I.lstUpd hp ho (kF its n j u) (r.set rv j) (by rw [List.length_set]; exact hz) s.toks
  by_cases h0 : 0 ≤ k
  · have hk : k.toNat = j:=by
      rw [seqIndex_of h0 h4] at h1
      exact Option.some.inj h1
    exact PySem.W.ki_setAt ho h0 (by omega) (by rw [List.size_toArray,← hl]; exact h4) (by rw [hk]; exact ⟨_,I',q⟩)
  · have hk : (k + (its.toArray.size : Int)).toNat = j:=by
      rw [seqIndex_neg (by omega) h3] at h1
      rw [List.size_toArray,← hl]
      exact Option.some.inj h1
    exact PySem.W.ki_setBack ho (by omega) (by rw [List.size_toArray,← hl]; exact h3) (by omega) (by rw [hk]; exact ⟨_,I',q⟩)
def eQ : V→Bool
  | .non=>true
  | .bl _=>true
  | .int _=>true
  | .str _=>true
  | _=>false
def eqV : V→V→Bool
  | .non,.non=>true
  | .bl a,.bl b=>a == b
  | .bl a,.int b=>(if a then 1 else 0) == b
  | .int a,.bl b=>a == (if b then 1 else 0)
  | .int a,.int b=>a == b
  | .str a,.str b=>a == b
  | _,_=>false
theorem gA {A : Around} {s : Shared} {y x : V} {u v : Value} (ry : RelV y u) (rx : RelV x v) (fy : eQ y = true) (fx : eQ x = true) : SeqAt.EqAt A s u v (eqV y x):=by
  cases y with
  | non =>
    cases ry
    cases x with
    | non=>cases rx; exact SeqAt.EqAt.same _
    | bl b=>cases rx; exact SeqAt.EqAt.none_bool b
    | int b=>obtain ⟨t,rfl⟩:=rx; exact SeqAt.EqAt.none_int b t
    | str b=>obtain ⟨t,rfl⟩:=rx; exact SeqAt.EqAt.none_str b t
    | _=>exact absurd (show false = true from fx) Bool.false_ne_true
  | bl a =>
    cases ry
    cases x with
    | non=>cases rx; exact SeqAt.EqAt.bool_none a
    | bl b=>cases rx; exact SeqAt.EqAt.bool_bool a b
    | int b=>obtain ⟨t,rfl⟩:=rx; exact SeqAt.EqAt.bool_int a b t
    | str b=>obtain ⟨t,rfl⟩:=rx; exact SeqAt.EqAt.bool_str a b t
    | _=>exact absurd (show false = true from fx) Bool.false_ne_true
  | int a =>
    obtain ⟨t',rfl⟩:=ry
    cases x with
    | non=>cases rx; exact SeqAt.EqAt.int_none a t'
    | bl b=>cases rx; exact SeqAt.EqAt.int_bool a t' b
    | int b=>obtain ⟨t,rfl⟩:=rx; exact SeqAt.EqAt.int_int a t' b t
    | str b=>obtain ⟨t,rfl⟩:=rx; exact SeqAt.EqAt.int_str a t' b t
    | _=>exact absurd (show false = true from fx) Bool.false_ne_true
  | str a =>
    obtain ⟨t',rfl⟩:=ry
    cases x with
    | non=>cases rx; exact SeqAt.EqAt.str_none a t'
    | bl b=>cases rx; exact SeqAt.EqAt.str_bool a t' b
    | int b=>obtain ⟨t,rfl⟩:=rx; exact SeqAt.EqAt.str_int a t' b t
    | str b=>obtain ⟨t,rfl⟩:=rx; exact SeqAt.EqAt.str_str a t' b t
    | _=>exact absurd (show false = true from fx) Bool.false_ne_true
  | _=>exact absurd (show false = true from fy) Bool.false_ne_true
def eqU (x : V) (u : Value) : Bool:=match u with
  | .none=>eqV .non x
  | .bool b=>eqV (.bl b) x
  | .int i _=>eqV (.int i) x
  | .str z _=>eqV (.str z) x
  | _=>false
theorem m3 {x y : V} {u : Value} (r : RelV y u) (f : eQ y = true) : eqU x u = eqV y x:=by
  cases y with
  | non=>cases r; rfl
  | bl b=>cases r; rfl
  | int i=>obtain ⟨t,rfl⟩:=r; rfl
  | str z=>obtain ⟨t,rfl⟩:=r; rfl
  | _=>exact absurd (show false = true from f) Bool.false_ne_true
theorem je {x : V} : ∀ {xs : List V} {us : List Value},Vals xs us→xs.all eQ = true→us.any (eqU x) = xs.any fun y=>eqV y x
  | _,_,.nil,_=>rfl
  | y :: xs,u :: us,.cons r t,f=>by
    rw [List.all_cons,Bool.and_eq_true] at f
    rw [List.any_cons,List.any_cons,m3 r f.1,je t f.2]
theorem gf {A : Around} {s : Shared} {x : V} {v : Value} (rx : RelV x v) (fx : eQ x = true) : ∀ {xs : List V} {us : List Value},Vals xs us→xs.all eQ = true→∀ u ∈ us,SeqAt.EqAt A s u v (eqU x u)
  | _,_,.nil,_=>fun u hu=>by cases hu
  | y :: xs,u :: us,.cons r t,f=>fun u' hu=>by
    rw [List.all_cons,Bool.and_eq_true] at f
    rcases List.mem_cons.mp hu with rfl | hu
    · rw [m3 r f.1]; exact gA r rx f.1 fx
    · exact gf rx fx t f.2 u' hu
def inV (x : V) (xs : List V) : Bool:=xs.any fun y=>eqV y x
def rIn (K : PySem.W.Frag) (neg : Bool) : R2:=fun x y H Q=>∃ p xs,y = .ref p∧(SqL K H p xs ∨ SqT K H p xs)∧eQ x = true∧xs.all eQ = true∧Q (.bl (if neg then !inV x xs else inV x xs)) H
theorem iY : OpR X (compareOp .NotIn) (rIn X.K true):=by
  intro pins s σ H x y v u Q I rx ry h
  obtain ⟨p,xs,rfl,hq,fx,fs,q⟩:=h
  cases ry
  rcases hq with hq | hq
  · obtain ⟨its,r,pl,hz⟩:=I.list hq
    refine SeqAt.notIn_listAt (eqU x) pl.isList (fun w hw=>gf rx fx r fs w (by simpa using hw)) ⟨.bl _,H,I,rfl,?_⟩
    rw [show its.toArray.any (eqU x) = its.any (eqU x) by simp,je r fs]
    exact q
  · obtain ⟨its,r,pl,hz⟩:=I.tuple hq
    refine SeqAt.notIn_tupleAt (eqU x) pl (fun w hw=>gf rx fx r fs w (by simpa using hw)) ⟨.bl _,H,I,rfl,?_⟩
    rw [show its.toArray.any (eqU x) = its.any (eqU x) by simp,je r fs]
    exact q
theorem iX : dW X (.builtin "len") (fun xs H Q=>∃ p ys,xs = [.ref p]∧(SqL X.K H p ys ∨ SqT X.K H p ys)∧Q (.int ys.length) H):=by
  intro pins s σ H xs us Q I r h
  obtain ⟨p,ys,rfl,hq,q⟩:=h
  obtain ⟨u,rfl,rx⟩:=dC r
  cases rx
  have hn:=gz
  rcases hq with hq | hq
  · obtain ⟨its,r',pl,hz⟩:=I.list hq
    have hlen:=r'.length
    exact Calls.call_len_list pl.isList (by simp only [List.size_toArray] <;> omega) ⟨.int ys.length,H,I.tok _,⟨s.toks + 1,by rw [List.size_toArray,hlen]⟩,q⟩
  · obtain ⟨its,r',pl,hz⟩:=I.tuple hq
    have hlen:=r'.length
    exact len_tuple pl (by simp only [List.size_toArray] <;> omega) ⟨.int ys.length,H,I.tok _,⟨s.toks + 1,by rw [List.size_toArray,hlen]⟩,q⟩
theorem jj : dW X (.type "list") (fun xs H Q=>∃ p ys,xs = [.ref p]∧(SqL X.K H p ys ∨ SqT X.K H p ys)∧∀ l,H l = none→Q (.ref l) (upd H l (.lst ys))):=by
  intro pins s σ H xs us Q I r h
  obtain ⟨p,ys,rfl,hq,q⟩:=h
  obtain ⟨u,rfl,rx⟩:=dC r
  cases rx
  have fin : ∀ (its : List Value),Vals ys its→ys.length ≤ sizeLine→∀ (h' : Heap) (c' : Nat),(∀ b o',s.heap.get? b = some o'→h'.get? b = some o') →
      h'.get? s.heap.objs.size = some { cls:=.type "list",dict:=none,data:=.seq its.toArray c',slots:=#[] }→EP X pins σ Q (.ref s.heap.objs.size) { s with heap:=h' }:=fun its r' hz h' c' kp e =>
    ⟨.ref s.heap.objs.size,_,I.laid (t':=s.toks) kp (Nat.le_refl _) (show ObjOk X.prog X.w _ h' _ (.lst ys) from ⟨hz,its,c',r',e⟩),rfl,q _ (I.hok.fresh (Nat.le_refl _))⟩
  rcases hq with hq | hq
  · obtain ⟨its,r',pl,hz⟩:=I.list hq
    have hlen:=r'.length
    obtain ⟨o,ho,hc,n,hd⟩:=pl.isList
    exact call_list_seq p (.inl rfl) ho hc hd (fun h' c' kp e=>fin its r' hz h' c' kp e) (by simp only [List.size_toArray] <;> omega)
  · obtain ⟨its,r',pl,hz⟩:=I.tuple hq
    have hlen:=r'.length
    obtain ⟨o,ho,hc,n,hd⟩:=pl
    exact call_list_seq p (.inr rfl) ho hc hd (fun h' c' kp e=>fin its r' hz h' c' kp e) (by simp only [List.size_toArray] <;> omega)
def tyV (K : PySem.W.Frag) (T : String) (x : V) (H : Hp) : Prop:=match x with
  | .str _=>T = "str"
  | .int _=>T = "int"
  | .ref p=>(T = "list"∧∃ xs,SqL K H p xs) ∨ (T = "tuple"∧∃ o,K.lookup p = some o∧o.cls = .type "tuple"∧o.dict = none) ∨
      (T = "dict"∧((∃ kvs,H p = some (.dK kvs)) ∨ ∃ kvs,H p = some (.dT kvs))) ∨ (T = "set"∧∃ S n,H p = some (.set S n))
  | _=>False
theorem oA {pins : List (Addr × Obj)} {σ : St} {H : Hp} {s : Shared} {T : String} {x : V} {v : Value} (I : Inv X pins σ H s) (r : RelV x v) (ty : tyV X.K T x H) :
    s.TypeIs v T∧∀ a,v = .ref a→∃ ob,s.heap.get? a = some ob∧ob.dict = none:=by
  cases x with
  | str z =>
    obtain ⟨t,rfl⟩:=r
    cases (show T = "str" from ty)
    exact ⟨typeIs_str s z t,fun _ e=>nomatch e⟩
  | int i =>
    obtain ⟨t,rfl⟩:=r
    cases (show T = "int" from ty)
    exact ⟨typeIs_int s i t,fun _ e=>nomatch e⟩
  | ref p =>
    cases r
    rcases ty with ⟨rfl,xs,hq⟩ | ⟨rfl,o,hk,hc,hd⟩ | ⟨rfl,hk⟩ | ⟨rfl,S,n,hk⟩
    · obtain ⟨its,_,pl,_⟩:=I.list hq
      refine ⟨pl.isList.typeIs,fun a e=>?_⟩
      cases e
      obtain ⟨o,n,e,c,hd,_⟩:=pl
      exact ⟨o,e,hd⟩
    · refine ⟨⟨o,I.kIn p o hk,hc⟩,fun a e=>?_⟩
      cases e
      exact ⟨o,I.kIn _ o hk,hd⟩
    · have z : ∃ o,s.heap.get? p = some o∧o.ExactDict:=by
        rcases hk with ⟨kvs,hk⟩ | ⟨kvs,hk⟩
        · obtain ⟨_,_,_,_,o,_,_,e,ex,_⟩:=I.hok p _ hk
          exact ⟨o,e,ex⟩
        · obtain ⟨_,_,_,_,o,_,_,e,ex,_⟩:=I.hok p _ hk
          exact ⟨o,e,ex⟩
      obtain ⟨o,e,ex⟩:=z
      refine ⟨⟨o,e,ex.1⟩,fun a e2=>?_⟩
      cases e2
      exact ⟨o,e,ex.2.1⟩
    · obtain ⟨o,_,_,_,e,ex,_⟩:=I.hok p _ hk
      refine ⟨⟨o,e,ex.1⟩,fun a e2=>?_⟩
      cases e2
      exact ⟨o,e,ex.2.1⟩
  | _=>exact False.elim ty
def t4 (K : PySem.W.Frag) (T : String) (r : V→List V→Hp→VK→Prop) (to : TE) : TE:=fun σ H Q=>to σ H fun x H1=>tyV K T x H1∧r x [] H1 Q
def tBM (K : PySem.W.Frag) (T : String) (r : V→List V→Hp→VK→Prop) (to : TE) (t : TA) : TE:=fun σ H Q=>to σ H fun x H1=>tyV K T x H1∧t σ H1 fun xs H2=>r x xs H2 Q
variable {o e : Expr} {es : List Expr} {to : TE} {t : TA} {name : Str} {apos cpos : Pos} {T id : String} {r : V→List V→Hp→VK→Prop}
theorem re (pa : PlainAttrs T) (slot : Slot T name id) (hty : typeOf (.builtin id) = pure (.type "method_descriptor")) (hm : MtR X id r) (ho : PE X o to)
    (hbase : attributeBase o name X.env (eval o X.env) = eval o X.env:=by rfl) (hline : (apos.endLine == cpos.line) = true:=by rfl) : PE X (.Call (.Attribute o name apos) [] [] cpos) (t4 X.K T r to):=by
  intro pins s σ H Q I h
  refine wpAny_Call_method0_late hbase hline (thn (ho pins s σ H _ I h) fun v s1 hm0=>?_)
  obtain ⟨x,H1,I1,r1,ty,q1⟩:=hm0
  obtain ⟨h1,h2⟩:=oA I1 r1 ty
  exact ⟨T,id,pa,slot,hty,h1,h2,Calls.callWith_builtin rfl (PySem.evalArgs_none (hm pins s1 σ H1 x [] v [] Q I1 r1 .nil q1))⟩
theorem dq (pa : PlainAttrs T) (slot : Slot T name id) (hty : typeOf (.builtin id) = pure (.type "method_descriptor")) (hm : MtR X id r) (ho : PE X o to) (ha : PA X (e :: es) t)
    (hbase : attributeBase o name X.env (eval o X.env) = eval o X.env:=by rfl)
    (hfew : ((backTo cpos (starEach (e :: es) X.env)).all (fun x=>!x.1) && (backToKw cpos (keywordEach [] X.env)).all (fun x=>x.1.isSome)
      && decide ((e :: es).length + ([] : List Keyword).length + (if ([] : List Keyword).isEmpty then 0 else 1) < 30)) = true:=by rfl)
    (hline : (apos.endLine == cpos.line) = true:=by rfl) (hs : starEach (e :: es) X.env = (false,eval e X.env) :: starEach es X.env:=by rfl) (hplain : (backTo cpos (starEach es X.env)).any (·.1) = false:=by rfl) :
    PE X (.Call (.Attribute o name apos) (e :: es) [] cpos) (tBM X.K T r to t):=by
  intro pins s σ H Q I h
  refine wpAny_Call_method_late hbase hfew hline rfl (thn (ho pins s σ H _ I h) fun v s1 hm0=>?_)
  obtain ⟨x,H1,I1,r1,ty,q1⟩:=hm0
  obtain ⟨h1,h2⟩:=oA I1 r1 ty
  refine ⟨T,id,pa,slot,hty,h1,h2,?_⟩
  have hA:=ha cpos pins s1 σ H1 _ I1 q1
  rw [hs] at hA ⊢
  refine Calls.callWith_builtin (by show (false || (backTo cpos (starEach es X.env)).any (·.1)) = false; rw [hplain] <;> rfl) (Calls.evalArgs_plain ?_)
  refine thn hA fun us s2 hm0=>?_
  obtain ⟨vs,H2,I2,r2,q2⟩:=hm0
  exact hm pins s2 σ H2 x vs v us Q I2 r1 r2 q2
/- xs.append(e),list.index on a module's tuple .. are MtR facts of 06m -/
end
def MtM (X : Cx) (id : String) (r : V→List V→Hp→VK→Prop) : Prop :=
  ∀ (pins : List (Addr × Obj)) (s : Shared) (σ : St) (H : Hp) (x : V) (xs : List V) (v : Value) (us : List Value) (Q : VK),Inv X pins σ H s→RelV x v→Vals xs us→r x xs H Q →
    wpAny (model X.prog X.w) X.A (call (.builtin id) (v :: us)) (EP X pins σ Q) X.xe s
theorem Vals.one {x : V} {us : List Value} (h : Vals [x] us) : ∃ u,us = [u]∧RelV x u:=by
  cases h with
  | cons r e=>cases e; exact ⟨_,rfl,r⟩
theorem Vals.two {x y : V} {us : List Value} (h : Vals [x,y] us) : ∃ u v,us = [u,v]∧RelV x u∧RelV y v:=by
  cases h with
  | cons r e =>
    obtain ⟨v,e1,q⟩:=Vals.one e
    subst e1
    exact ⟨_,_,rfl,r,q⟩
theorem Vals.zero : ∀ {us : List Value},Vals [] us→us = []
  | _,.nil=>rfl
theorem Vals.dropLast {xs : List V} {us : List Value} (h : Vals xs us) : Vals xs.dropLast us.dropLast:=by
  induction h with
  | nil=>exact .nil
  | cons r t ih =>
    cases t with
    | nil=>exact .nil
    | cons q t'=>exact .cons r ih
theorem Vals.rep {xs : List V} {us : List Value} (h : Vals xs us) : ∀ k : Nat,Vals (List.replicate k xs).flatten (List.replicate k us).flatten
  | 0=>.nil
  | k + 1=>by
    rw [List.replicate_succ,List.replicate_succ,List.flatten_cons,List.flatten_cons]
    exact Vals.append h (Vals.rep h k)
theorem ke {α : Type} (l : List α) : l.eraseIdx (l.length - 1) = l.dropLast:=by
  induction l with
  | nil=>rfl
  | cons a r ih =>
    cases r with
    | nil=>rfl
    | cons b r =>
      have e : (a :: b :: r).length - 1 = ((b :: r).length - 1) + 1:=by
        have h1 : (a :: b :: r).length = r.length + 2:=rfl
        have h2 : (b :: r).length = r.length + 1:=rfl
        omega
      rw [e,List.eraseIdx_cons_succ,ih]
      all_goals rfl
theorem ij (its : List Value) : ∀ (k : Nat) (acc : List Value),
    List.foldl (fun x1 x2=>x1 ++ x2) acc.toArray (List.replicate k its.toArray) = (acc ++ (List.replicate k its).flatten).toArray
  | 0,acc=>by simp
  | k + 1,acc=>by
    have e : acc.toArray ++ its.toArray = (acc ++ its).toArray:=by simp
    have e2 : (acc ++ its) ++ (List.replicate k its).flatten = acc ++ (List.replicate (k + 1) its).flatten:=by
      rw [List.replicate_succ,List.flatten_cons,List.append_assoc]
    rw [← e2,← ij its k (acc ++ its),← e,List.replicate_succ,List.foldl_cons]
section
variable {X : Cx} {pins : List (Addr × Obj)} {σ : St} {H : Hp} {s : Shared} {l b : Addr} {xs ys zs : List V}
theorem Inv.lset {its its' : List Value} {n : Nat} {f : Array Value→Array Value} {t' : Nat} (I : Inv X pins σ H s) (hH : H l = some (.lst xs))
    (e : s.heap.get? l = some { cls:=.type "list",data:=.seq its.toArray n }) (hf : f its.toArray = its'.toArray) (hv : Vals ys its') (hz : ys.length ≤ sizeLine) :
    Inv X pins σ (upd H l (.lst ys)) { s with heap:=s.heap.update l (Obj.mapSeq f),toks:=t' }:=by
  have q:=PySem.IsL.update e f
  rw [hf] at q
  refine I.write (x:=l) (e:=l) (by rw [hH]; exact trivial) (.inl rfl) (fun b' u hb hu=>(Heap.get?_update_other s.heap (Obj.mapSeq f) (Ne.symm hb)).trans hu) ⟨_,q⟩ ?_
  exact ⟨hz,its',_,hv,q⟩
theorem Inv.lnew {its : List Value} {t' : Nat} (I : Inv X pins σ H s) (hv : Vals ys its) (hz : ys.length ≤ sizeLine) :
    Inv X pins σ (upd H s.heap.objs.size (.lst ys)) { s with heap:=s.heap.push { cls:=.type "list",data:=.seq its.toArray },toks:=t' } :=
  I.laid (fun _ _ q=>Heap.get?_push_of_some _ q) (Nat.le_refl _) ⟨hz,its,0,hv,Heap.get?_push_size _ rfl⟩
theorem Inv.fresh (I : Inv X pins σ H s) : H s.heap.objs.size = none:=I.hok.fresh (Nat.le_refl _)
theorem Inv.lstM (I : Inv X pins σ H s) (hH : H l = some (.lst xs)) : xs.length ≤ sizeLine∧∃ (its : List Value) (n : Nat),Vals xs its∧xs.length = its.length∧s.heap.get? l = some { cls:=.type "list",data:=.seq its.toArray n }:=by
  obtain ⟨z,its,n,r,e⟩:=I.hok l _ hH
  exact ⟨z,its,n,r,r.length,e⟩
theorem n8 {n : Nat} (h : n ≤ sizeLine) : Builtin.List.listTooLong n = false:=by
  unfold Builtin.List.listTooLong
  exact decide_eq_false (by omega)
end
section
variable {X : Cx}
def pi : V→List V→Hp→VK→Prop:=fun x vs H Q=>∃ l xs y,x = .ref l∧vs = [y]∧H l = some (.lst xs)∧xs.length < sizeLine∧Q .non (upd H l (.lst (xs ++ [y])))
theorem bg : MtM X "list.append" pi:=by
  intro pins s σ H x vs v us Q I rx rv h
  obtain ⟨l,xs,y,rfl,rfl,hH,hz,q⟩:=h
  cases rx
  obtain ⟨u,rfl,ru⟩:=rv.one
  obtain ⟨z,its,n,r,hl,e⟩:=I.lstM hH
  refine call_meets F.slot_list_append ⟨_,e,rfl⟩ F.entry_list_append (F.args_list_append_2 _ _) (PySem.list_append l its.toArray n u (by rw [List.size_toArray]; omega)) ⟨e,?_⟩
  refine ⟨.non,_,I.lset (its':=its ++ [u]) hH e (by simp) (r.append (.cons ru .nil)) ?_,rfl,q⟩
  rw [List.length_append,List.length_singleton]
  omega
def uc : V→List V→Hp→VK→Prop:=fun x vs H Q=>∃ l xs y,x = .ref l∧vs = []∧H l = some (.lst xs)∧xs[xs.length - 1]? = some y∧Q y (upd H l (.lst xs.dropLast))
theorem rO : MtM X "list.pop" uc:=by
  intro pins s σ H x vs v us Q I rx rv h
  obtain ⟨l,xs,y,rfl,rfl,hH,hy,q⟩:=h
  cases rx
  have hus:=rv.zero
  subst hus
  obtain ⟨z,its,n,r,hl,e⟩:=I.lstM hH
  obtain ⟨u,hu,ru⟩:=r.get hy
  have hy' : its.toArray[its.toArray.size - 1]? = some u:=by
    show its.toArray[its.length - 1]? = some u
    rw [← Array.getElem?_toList,← hl]
    exact hu
  refine call_meets F.slot_list_pop ⟨_,e,rfl⟩ F.entry_list_pop (F.args_list_pop_1 _) (MeetsSeq.list_pop_last l its.toArray n u hy' (by rw [List.size_toArray]; omega)) ⟨e,?_⟩
  refine ⟨y,_,I.lset (its':=its.dropLast) hH e ?_ r.dropLast ?_,ru,q⟩
  · show its.toArray.eraseIdxIfInBounds (its.toArray.size - 1) = its.dropLast.toArray
    rw [List.size_toArray,List.eraseIdxIfInBounds_toArray,ke]
  · rw [List.length_dropLast]
    omega
def tS : R2:=fun x y H Q=>∃ l k xs,x = .ref l∧y = .int k∧H l = some (.lst xs)∧-(2 ^ 63) ≤ k∧k < 2 ^ 63∧xs.length * k.toNat ≤ sizeLine ∧
  ∀ p,H p = none→Q (.ref p) (upd H p (.lst (List.replicate k.toNat xs).flatten))
theorem qk {α : Type} (xs : List α) (k : Nat) : (List.replicate k xs).flatten.length = k * xs.length:=by
  induction k with
  | zero=>simp
  | succ k ih=>rw [List.replicate_succ,List.flatten_cons,List.length_append,ih,Nat.succ_mul,Nat.add_comm]
theorem rS : OpR X (binaryOp .Mult) tS:=by
  intro pins s σ H x y v u Q I rx ry h
  obtain ⟨l,k,xs,rfl,rfl,hH,h1,h2,hz,q⟩:=h
  cases rx
  obtain ⟨t,rfl⟩:=ry
  obtain ⟨z,its,n,r,hl,e⟩:=I.lstM hH
  have hlen : its.toArray.size * k.toNat ≤ sizeLine:=by rw [List.size_toArray,← hl]; exact hz
  have hcap : ¬ its.toArray.size * k.toNat > (2 ^ 63 - 1) / 8:=by
    have : (sizeLine : Nat) ≤ (2 ^ 63 - 1) / 8:=by decide
    omega
  have hfit : ¬ (!Builtin.List.listFitsIndex k) = true:=by
    rw [fitsIndex_both h1 h2]
    exact Bool.false_ne_true
  have hlong : ¬ Builtin.List.listTooLong (its.toArray.size * k.toNat) = true:=by
    rw [n8 hlen]
    exact Bool.false_ne_true
  have hnew : List.foldl (fun x1 x2=>x1 ++ x2) #[] (List.replicate (if its.toArray.isEmpty = true then 0 else k.toNat) its.toArray) = (List.replicate k.toNat its).flatten.toArray:=by
    have f0 : ∀ m : Nat,List.foldl (fun x1 x2=>x1 ++ x2) #[] (List.replicate m its.toArray) = (List.replicate m its).flatten.toArray:=fun m=>by
      have:=ij its m []
      rw [List.nil_append] at this
      exact this
    rw [f0]
    cases its with
    | nil=>simp
    | cons a r'=>rw [if_neg (by simp)]
  refine wpAny_binaryOp_repeat_ref (T := "list") (U := "int") (by decide) ⟨_,e,rfl⟩ (fun s'=>typeIs_int s' k t) noFill_list_mul F.fills_int_mul F.slot_int_rmul repeat_list F.slot_int_index.lookup
    (call_meets F.slot_int_rmul (typeIs_int s k t) F.entry_int_rmul (F.args_int_rmul_2 _ _) (int___rmul___int_list k t l its.toArray n)
      ⟨e,rfl,⟨_,e,rfl⟩,call_meets F.slot_list_mul ⟨_,e,rfl⟩ F.entry_list_mul (F.args_list_mul_2 _ _) (AutoListH.list___mul___list_int_3 l its.toArray n k t hfit hcap hlong) ⟨e,?_⟩⟩)
  rw [hnew]
  exact ⟨.ref _,_,I.lnew (t':=s.toks) (r.rep k.toNat) (by rw [qk,Nat.mul_comm]; exact hz),rfl,q _ I.fresh⟩
end
section
variable {prog : Program} {w : World} {A : Around} {E : Value→Shared→Prop} {s : Shared}
set_option maxRecDepth 100000 in
end
section
variable {X : Cx}
end
section
variable {κ : Type} [DecidableEq κ]
def fF (kvs : List (κ × V)) (k : κ) : Option V:=(kvs.find? fun kv=>decide (kv.1 = k)).map (·.2)
def gU (kvs : List (κ × V)) (k : κ) (v : V) : List (κ × V) :=
  if (kvs.any fun kv=>decide (kv.1 = k)) = true then kvs.map (fun kv=>if kv.1 = k then (kv.1,v) else kv) else kvs ++ [(k,v)]
theorem jW {p : κ × V} {r : List (κ × V)} {k : κ} (e : p.1 = k) : fF (p :: r) k = some p.2:=by simp [fF,List.find?_cons,e]
theorem jr {p : κ × V} {r : List (κ × V)} {k : κ} (e : ¬ p.1 = k) : fF (p :: r) k = fF r k:=by simp [fF,List.find?_cons,e]
theorem ju (kvs : List (κ × V)) (k : κ) (v : V) : (gU kvs k v).length ≤ kvs.length + 1:=by
  unfold gU
  split
  · rw [List.length_map]; omega
  · rw [List.length_append,List.length_cons,List.length_nil]; omega
theorem RelO.isSome_eq {o : Option V} {u : Option Value} (r : RelO o u) : o.isSome = u.isSome:=by
  cases o with
  | none=>cases u with
    | none=>rfl
    | some _=>exact (show False from r).elim
  | some _=>cases u with
    | none=>exact (show False from r).elim
    | some _=>rfl
theorem KV.val {kvs : List (κ × V)} {vs : List (κ × Value)} (r : KV kvs vs) (k : κ) : RelO (fF kvs k) (valueAt vs k):=by
  unfold KV at r
  induction r with
  | nil=>exact True.intro
  | @cons p q ps qs h t ih =>
    obtain ⟨h1,h2⟩:=h
    by_cases e : p.1 = k
    · have e' : q.1 = k:=h1.symm.trans e
      have b : valueAt (q :: qs) k = some q.2:=by simp [valueAt,List.find?_cons,e']
      rw [jW e,b]; exact h2
    · have e' : ¬ q.1 = k:=fun z=>e (h1.trans z)
      have b : valueAt (q :: qs) k = valueAt qs k:=by simp [valueAt,List.find?_cons,e']
      rw [jr e,b]; exact ih
theorem KV.any {kvs : List (κ × V)} {vs : List (κ × Value)} (r : KV kvs vs) (k : κ) : (kvs.any fun kv=>decide (kv.1 = k)) = vs.any fun kv=>decide (kv.1 = k):=by
  unfold KV at r
  induction r with
  | nil=>rfl
  | cons h t ih=>rw [List.any_cons,List.any_cons,ih,h.1]
theorem KV.repl {kvs : List (κ × V)} {vs : List (κ × Value)} (r : KV kvs vs) (k : κ) {y : V} {u : Value} (ry : RelV y u) :
    KV (kvs.map fun kv=>if kv.1 = k then (kv.1,y) else kv) (vs.map fun kv=>if kv.1 = k then (kv.1,u) else kv):=by
  unfold KV at r ⊢
  induction r with
  | nil=>exact .nil
  | @cons p q ps qs h t ih =>
    rw [List.map_cons,List.map_cons]
    refine .cons ?_ ih
    obtain ⟨h1,h2⟩:=h
    by_cases e : p.1 = k
    · rw [if_pos e,if_pos (h1.symm.trans e)]; exact ⟨h1,ry⟩
    · rw [if_neg e,if_neg (fun z=>e (h1.trans z))]; exact ⟨h1,h2⟩
theorem KV.put {kvs : List (κ × V)} {vs : List (κ × Value)} (r : KV kvs vs) (k : κ) {y : V} {u : Value} (ry : RelV y u) : KV (gU kvs k y) (stored vs k u):=by
  unfold gU stored
  rw [r.any k]
  by_cases e : (vs.any fun kv=>decide (kv.1 = k)) = true
  · rw [if_pos e,if_pos e]; exact r.repl k ry
  · rw [if_neg e,if_neg e]; exact Paired.snoc r ⟨rfl,ry⟩
theorem KV.length {kvs : List (κ × V)} {vs : List (κ × Value)} (r : KV kvs vs) : kvs.length = vs.length:=Paired.length r
end
theorem k7 {P : Program} {w : World} {k : Key} {u : Value} (r : RelV (kV k) u) : (bf P w).is k u = true:=by
  cases k with
  | inl i=>obtain ⟨t,e⟩:=(show ∃ t,u = Value.int i t from r); subst e; exact jV P w i t
  | inr x=>obtain ⟨t,e⟩:=(show ∃ t,u = Value.str x t from r); subst e; exact jP P w x t
theorem iE {P : Program} {w : World} : ∀ {ks : List Key} {us : List Value},Vals (ks.map kV) us→ItemsAre (bf P w) ks us
  | [],_,r=>by rw [List.map_nil] at r; cases r; exact .nil
  | k :: ks,_,r=>by
    rw [List.map_cons] at r
    cases r with
    | cons h t=>exact .cons (k7 h) (iE t)
abbrev KT (H : Hp) : List (List Key × V)→List (List Key × Addr × Value)→Prop:=Paired fun p q=>p.1 = q.1∧H q.2.1 = some (.tup (p.1.map kV))∧RelV p.2 q.2.2
theorem KT.val {H : Hp} {kvs : List (List Key × V)} {xs : List (List Key × Addr × Value)} (r : KT H kvs xs) (k : List Key) : RelO (fF kvs k) ((atKey xs k).map (·.2)):=by
  induction r with
  | nil=>exact True.intro
  | @cons p q ps qs h t ih =>
    obtain ⟨h1,_,h2⟩:=h
    by_cases e : p.1 = k
    · have e' : q.1 = k:=h1.symm.trans e
      have b : atKey (q :: qs) k = some q.2:=by simp [atKey,List.find?_cons,e']
      rw [jW e,b]; exact h2
    · have e' : ¬ q.1 = k:=fun z=>e (h1.trans z)
      have b : atKey (q :: qs) k = atKey qs k:=by simp [atKey,List.find?_cons,e']
      rw [jr e,b]; exact ih
section
variable {P : Program} {w : World} {H : Hp} {h : Heap} {a : Addr}
theorem qY {u : HO} (ok : HOk P w H h) (e : Rd H a u) : ObjOk P w H h a u:=e.ok ok
theorem mX {kvs : List (Key × V)} (ok : HOk P w H h) (e : Rd H a (.dK kvs)) : kvs.length ≤ sizeLine∧(a == sysModules) = false∧∃ vs,KV kvs vs∧h.DictOf (bf P w) a vs :=
  show ObjOk P w H h a (.dK kvs) from qY ok e
theorem kI {ks : List Key} (ok : HOk P w H h) (e : H a = some (.tup (ks.map kV))) : (tupleKind (bf P w)).is h ks a:=by
  obtain ⟨_,its,r,o,h1,h2,n,h3⟩:=(show ObjOk P w H h a (.tup (ks.map kV)) from ok a _ e)
  exact ⟨o,its.toArray,n,h1,h2,h3,by simpa using iE r⟩
theorem nw {kvs : List (List Key × V)} (ok : HOk P w H h) (e : Rd H a (.dT kvs)) : kvs.length ≤ sizeLine∧(a == sysModules) = false ∧
    ∃ xs,KT H kvs xs∧h.DictOfH (tupleKind (bf P w)) a xs:=by
  obtain ⟨z,y,xs,r,o,es,ep,h1,h2,h3,h4,h5⟩:=(show ObjOk P w H h a (.dT kvs) from qY ok e)
  refine ⟨z,y,xs,r,o,es,ep,h1,h2,h3,h4,fun x hx=>?_,h5⟩
  have all : ∀ {l : List (List Key × V)} {m : List (List Key × Addr × Value)},KT H l m→∀ x ∈ m,(tupleKind (bf P w)).is h x.1 x.2.1:=by
    intro l m q
    induction q with
    | nil=>intro x hx; exact nomatch hx
    | @cons p q ps qs hq t ih =>
      intro x hx
      rcases List.mem_cons.mp hx with e | hx
      · subst e
        exact kI ok (by rw [← hq.1]; exact hq.2.1)
      · exact ih x hx
  exact all r x hx
end
def DGet (H : Hp) (a : Addr) (y : V) (r : Option V) : Prop :=
  (∃ kvs k,Rd H a (.dK kvs)∧y = kV k∧r = fF kvs k) ∨ ∃ kvs k b,Rd H a (.dT kvs)∧y = .ref b∧H b = some (.tup (k.map kV))∧r = fF kvs k
theorem DGet.k {H : Hp} {a : Addr} {kvs : List (Key × V)} {k : Key} (e : H a = some (.dK kvs)) : DGet H a (kV k) (fF kvs k):=.inl ⟨kvs,k,.inl e,rfl,rfl⟩
section
variable {X : Cx} {pins : List (Addr × Obj)} {σ : St} {H : Hp} {s : Shared} {a : Addr} {y v : V} {u r : Value} {o : Option V} {A : Around} {E : Value→Shared→Prop}
theorem Inv.big (I : Inv X pins σ H s) : sysModules < s.heap.objs.size:=by
  have h : mainGlobals < s.heap.objs.size:=(I.mod.glob.keeps I.bk).lt
  exact Nat.lt_trans (by decide) h
theorem l9 {Q : Value→Shared→Prop} (hu : A.units + 1 < cLine) (I : Inv X pins σ H s) (g : DGet H a y (some v)) (ry : RelV y u) (h : ∀ w' s',Inv X pins σ H s'→RelV v w'→Q w' s') :
    wpAny (model X.prog X.w) A (getItem (.ref a) u) Q E s:=by
  rcases g with ⟨kvs,k,e,ey,l⟩ | ⟨kvs,k,b,e,ey,eb,l⟩
  · subst ey
    obtain ⟨z,hd,vs,rel,dd⟩:=mX I.hok e
    obtain ⟨w',hw,rw'⟩:=RelO.some_of (v:=v) (o:=valueAt vs k) (by rw [l]; exact rel.val k)
    exact wpAny_getItem_of (k7 ry) dd.mapOf hw (h w' _ (I.tok _) rw')
  · subst ey
    cases (show u = Value.ref b from ry)
    obtain ⟨z,hd,xs,rel,dd⟩:=nw I.hok e
    obtain ⟨w',hw,rw'⟩:=RelO.some_of (v:=v) (o:=(atKey xs k).map (·.2)) (by rw [l]; exact rel.val k)
    obtain ⟨p,hp,hp2⟩:=Option.map_eq_some_iff.mp hw
    refine wpAny_getItem_heap (tupleKind_room_in1 hu) (kI I.hok eb) dd hp ?_
    rw [hp2]
    exact h w' _ (I.tok _) rw'
theorem o8 {Q : Value→Shared→Prop} (hu : A.units + 1 < cLine) (I : Inv X pins σ H s) (g : DGet H a y o) (ry : RelV y u) (h : ∀ s',Inv X pins σ H s'→Q (.bool (!o.isSome)) s') :
    wpAny (model X.prog X.w) A (compareOp .NotIn u (.ref a)) Q E s:=by
  rcases g with ⟨kvs,k,e,ey,l⟩ | ⟨kvs,k,b,e,ey,eb,l⟩
  · subst ey
    obtain ⟨z,hd,vs,rel,dd⟩:=mX I.hok e
    refine wpAny_notIn_of (k7 ry) hd dd.mapOf ?_
    rw [← (rel.val k).isSome_eq,← l]
    exact h _ (I.tok _)
  · subst ey
    cases (show u = Value.ref b from ry)
    obtain ⟨z,hd,xs,rel,dd⟩:=nw I.hok e
    refine wpAny_notIn_heap (tupleKind_room_in1 hu) (kI I.hok eb) hd dd ?_
    have q:=(rel.val k).isSome_eq
    rw [Option.isSome_map] at q
    rw [← q,← l]
    exact h _ (I.tok _)
theorem rA {P : Program} {w : World} {H' : Hp} {h' : Heap} {kvs : List (Key × V)} {vs : List (Key × Value)} (z : kvs.length ≤ sizeLine) (hd : (a == sysModules) = false) (rel : KV kvs vs) (dd : h'.DictOf (bf P w) a vs) :
    ObjOk P w H' h' a (.dK kvs):=⟨z,hd,vs,rel,dd⟩
end
section
variable {X : Cx} {pins : List (Addr × Obj)} {σ : St} {H : Hp} {s : Shared} {a : Addr} {kvs : List (Key × V)} {k : Key} {u : Value} {A : Around} {E : Value→Shared→Prop}
end
def sA (i : Expr) : Prop:=∀ ov iv,subscripted i false ov iv = operate [ov,iv] (getItem ov iv)
theorem pe {prog : Program} {w : World} {A : Around} {E : Value→Shared→Prop} {s : Shared} {env : Env} {value slice : Expr} {pos : Pos} {T id : String} {Q : Value→Shared→Prop}
    (hl : typeLookup (.type T) "__getitem__" = pure (some (.builtin id))) (hs : sA slice)
    (h : wpAny (model prog w) A (eval value env) (fun o s₁=>wpAny (model prog w) A (eval slice env) (fun i s₂=>s₂.TypeIs o T∧wpAny (model prog w) A (getItem o i) Q E s₂) E s₁) E s) :
    wpAny (model prog w) A (eval (.Subscript value slice pos) env) Q E s:=by
  refine Subscript_ (wpAny_mono h (fun o s₁ h₁=>wpAny_mono h₁ (fun i s₂ h₂=>?_) fun _ _ x=>x) fun _ _ x=>x)
  obtain ⟨hT,h₂⟩:=h₂
  unfold subscriptTail
  refine wpAny_bind ?_
  rw [getitemInPython_of_ne hT.not_modules]
  refine wpAny_bind (wpAny_specialOf hT hl ?_)
  have fin : wpAny (model prog w) A (subscripted slice false o i) (fun r s₃=>wpAny (model prog w) A (letTemporaryGo value o r >>= fun _=>pure r) Q E s₃) E s₂:=by
    rw [hs o i]
    exact wpAny_operating (wpAny_mono h₂ (fun r s₃ h₃=>wpAny_bind (wpAny_letTemporaryGo (wpAny_pure h₃))) fun _ _ x=>x)
  first
    | exact wpAny_pure (wpAny_bind fin)
    | exact wpAny_bind (wpAny_pure (wpAny_bind fin))
    | exact wpAny_bind fin
theorem jM {X : Cx} {pins : List (Addr × Obj)} {σ : St} {H : Hp} {s : Shared} {a : Addr} {y : V} {o : Option V} (I : Inv X pins σ H s) (g : DGet H a y o) : s.TypeIs (.ref a) "dict":=by
  rcases g with ⟨kvs,k,e,_,_⟩ | ⟨kvs,k,b,e,_,_,_⟩
  · obtain ⟨_,_,vs,_,dd⟩:=mX I.hok e
    exact dd.typeIs
  · obtain ⟨_,_,xs,_,dd⟩:=nw I.hok e
    exact dd.typeIs
def tD (td ty : TE) : TE:=fun σ H Q=>td σ H fun x H1=>ty σ H1 fun y H2=>∃ a v,x = .ref a∧DGet H2 a y (some v)∧Q v H2
def pG (ty td : TE) : TE:=fun σ H Q=>ty σ H fun y H1=>td σ H1 fun x H2=>∃ a o,x = .ref a∧DGet H2 a y o∧Q (.bl (!o.isSome)) H2
section
variable {X : Cx} {o i e value : Expr} {pos pos' tpos : Pos} {td ty tv : TE}
theorem fT (hu : X.A.units + 1 < cLine) (ho : PE X o td) (hi : PE X i ty) (hs : sA i) : PE X (.Subscript o i pos) (tD td ty):=by
  intro pins s σ H Q I h
  refine pe PySem.F.slot_dict_getitem.lookup hs (thn (ho pins s σ H _ I h) fun u s1 hm0=>?_)
  obtain ⟨x,H1,I1,rx,q1⟩:=hm0
  refine thn (hi pins s1 σ H1 _ I1 q1) fun iv s2 hm1=>?_
  obtain ⟨y,H2,I2,ry,a,v,ex,g,q2⟩:=hm1
  subst ex
  obtain rfl : u = Value.ref a:=rx
  exact ⟨jM I2 g,l9 hu I2 g ry fun w' s3 I3 rw'=>⟨v,H2,I3,rw',q2⟩⟩
theorem lT (hu : X.A.units + 1 < cLine) (hi : PE X i ty) (ho : PE X o td) : PC X .NotIn i o (pG ty td):=by
  intro pins s σ H Q I h
  refine thn (hi pins s σ H _ I h) fun iv s1 hm0=>?_
  obtain ⟨y,H1,I1,ry,q1⟩:=hm0
  refine thn (ho pins s1 σ H1 _ I1 q1) fun u s2 hm1=>?_
  obtain ⟨x,H2,I2,rx,a,ov,ex,g,q2⟩:=hm1
  subst ex
  obtain rfl : u = Value.ref a:=rx
  exact o8 hu I2 g ry fun s3 I3=>⟨.bl (!ov.isSome),H2,I3,rfl,q2⟩
end
section
variable {X : Cx} {pos : Pos}
end
section
variable {X : Cx} {pins : List (Addr × Obj)} {σ : St} {H : Hp} {s : Shared} {a : Addr} {y d : V} {u r : Value} {o : Option V} {A : Around} {E : Value→Shared→Prop}
end
section
variable {X : Cx} {o e f : Expr} {apos cpos : Pos} {td ty tx : TE}
end
section
variable {X : Cx} {pins : List (Addr × Obj)} {σ : St} {H : Hp} {s : Shared} {a : Addr} {kvs : List (Key × V)} {A : Around} {E : Value→Shared→Prop}
end
section
variable {X : Cx} {pins : List (Addr × Obj)} {σ : St} {H : Hp} {s : Shared} {a : Addr} {y : V} {u : Value} {A : Around} {E : Value→Shared→Prop}
end
end L2
namespace Att
open PySem PySem.W PySem.Calls PyProof.Rows
theorem fG {P : Params} {h : Heap} : ∀ (ns : List Int) (vs : List Value),WellAll P h vs (ns.map WData.int)→IntsAre vs ns:=by
  intro ns
  induction ns with
  | nil =>
    intro vs w
    rw [List.map_nil] at w
    cases w
    exact .nil
  | cons n ns ih =>
    intro vs w
    rw [List.map_cons] at w
    cases w with
    | cons a b =>
      cases a
      exact .cons _ _ (ih _ b)
theorem mL {l : OpenLaw} {n : Nat} (hn : l.most = some n) {P : Params} {h : Heap} {args : List WData} {vals : List Value}
    (hpre : l.row.toRowW.claim.pre args = true) (hwl : WellAll P h vals args) :
    ∃ a vs ns,vals = [Value.ref a]∧args = [WData.list (ns.map WData.int)]∧h.get? a = some { cls:=.type "list",data:=.seq vs.toArray }∧IntsAre vs ns∧ns.length ≤ n:=by
  have hsh : WShape.hasAll [] args [.list .int] = true:=(pre_splitW hpre).1
  have hc : l.pre.holds [] { args:=args } = true:=(pre_splitW hpre).2
  obtain ⟨d,r,rfl,h1,h2⟩:=hasAllW_cons hsh
  obtain rfl:=hasAllW_nil h2
  obtain ⟨xs,rfl,h3⟩:=hasW_list h1
  obtain ⟨ns,rfl⟩:=items_int h3
  have hlen : ns.length ≤ n:=by
    unfold OpenLaw.pre at hc
    have h4 : (WTm.not (.lt (.lit (.int (n : Int))) (.len (.arg 0)))).holds [] { args:=[.list (ns.map .int)] } = true:=by
      have h4:=(holds_andW hc).1
      rw [hn] at h4
      exact h4
    have h5:=condW_of h4 (w_not (w_lt w_lit (w_len_list (w_arg rfl))))
    rw [List.length_map] at h5
    refine Nat.le_of_not_lt fun q=>?_
    have q' : (n : Int) < ((ns.length : Nat) : Int):=by omega
    first
      | (rw [decide_eq_true q'] at h5; exact absurd h5 (by decide))
      | (simp at h5; omega)
  cases hwl with
  | cons w1 w2 =>
    cases w2
    cases w1 with
    | list ho hall=>exact ⟨_,_,ns,rfl,rfl,ho,fG ns _ hall,hlen⟩
theorem mf (l : OpenLaw) (args : List WData) : l.row.toRowW.claim.post args (.bool true) args = true :=
  postW_of (r:=l.row.toRowW) (X:=(true == true))
    (show WShape.has [] (.bool true) .bool = true by first | rfl | decide | simp [WShape.has,WShape.arms,WShape.armsAll])
    (show (WTm.eq .res (.lit (.bool true))).value [] { args:=args,res:=some (.bool true),after:=args } = some (.bool (true == true)) from w_eq_bool (w_res rfl) w_lit) rfl
theorem attach_call {l : OpenLaw} {n : Nat} {q : Program} {loose : List Str} {XP : (Str→Option Value)→Heap→Prop} {YP : World→Heap→Prop} {d : DefRec}
    (hn : l.most = some n) (hdf : d.params.defaults = [])
    (call : ∀ (w : World) (s₀ s₁ : Shared) (mg mb : Str→Option Value) (fa : Addr) (o : Obj) (pm cd doc : Value) (a : Addr) (vs : List Value) (ns : List Int),
      Ground q loose [] XP w s₀ mg mb s₁.heap→YP w s₁.heap →
      s₁.heap.get? fa = some o→o.data = .func (docDef d.name d.params d.body d.scope pm cd doc)→s₁.heap.CodeRec cd d.name→mg d.name = some (.ref fa) →
      s₁.heap.get? a = some { cls:=.type "list",data:=.seq vs.toArray }→IntsAre vs ns→ns.length ≤ n→s₁.gens = #[] →
      codeAny (model l.prog w) callerA (.call (.ref fa) ⟨[.ref a],[]⟩) (fun r s'=>r = .ok (.ret (.bool true))∧OldK s₁.heap s'.heap∧s'.os = s₁.os∧AllBare s'.gens) s₁) :
    WalkO q loose XP YP l.row.toRowW d [] (fun f vs=>PySem.call f vs):=by
  intro w s₀ s₁ mg mb G Y fa o pm cd doc dV kV ho hd hcd hD hmg hg args vals as hpre hlay hrd hwl hlo
  obtain rfl : dV = .none:=Dflts.none hD hdf
  obtain rfl : kV = .none:=Dflts.noKw hD
  obtain ⟨a,vs,ns,rfl,rfl,hobj,hints,hlen⟩:=mL hn hpre hwl
  refine enter_call (codeAny_mono (call w s₀ s₁ mg mb fa o pm cd doc a vs ns G Y ho (fd_plain hd) hcd hmg hobj hints hlen hg) fun r s' hq=>?_)
  obtain ⟨rfl,h2,h3,h4⟩:=hq
  exact ⟨.inl ⟨.bool true,.bool true,[],rfl,fun _=>rfl,.bool true,mf l _,fun _=>⟨List.Pairwise.nil,fun _ hm=>(nomatch hm)⟩⟩,h2,h3,h4⟩
section
variable {prog : Program} {w : World} {A : Around} {E : Value→Shared→Prop} {s : Shared} {K : Frag}
end
end Att
namespace L2
open PySem PySem.Spec PyProof.Rows
theorem iA : ∀ {vs : List Value} {ns : List Int},IntsAre vs ns→Vals (ns.map V.int) vs
  | _,_,.nil=>.nil
  | _,_,.cons n t h=>.cons ⟨t,rfl⟩ (iA h)
end L2
/- THE LAST THEOREM (shape; LID,My.* are yours):
   My.Adr: a structure of the addresses that your layer names (classes,functions); My.Txt K t: a structure (Prop) of the equations over K;
   My.txt_mk : {K} {implicit addresses ..} (e1 : nsIn K mainGlobals "law" = some (some (.ref f))) (e2 : K.lookup f = some ⟨oc,od,.func (fnOf "law" "law" params body scope dV kV doc pm an cdv ct),sl⟩) (e3 : codeIn K cdv "law" = true) .. : ∃ t,My.Txt K t
set_option maxRecDepth 100000 in
set_option maxHeartbeats 0 in
theorem PySem.Challenge.cw_LID_holds : PySem.Challenge.rw_LID.Holds := by
  w_on; o_law; k_head; (case hw=>w_witness2)
  k_fill
  refine L2.walk_of (l:=PySem.Challenge.rw_LID) (n:=63) (k:=40) (x := "script") (CX:=fun w=>..) (sp:=fun _=>My.sp_law) rfl (by decide) rfl ⟨rfl,by decide,by decide⟩ (fun w h Y=>PySem.W.kIn_of Y) ?F ?S ?C
  case F =>
    intro w mg fa h KX G hmg
    have T : ∃ t,My.Txt (L2.KOf KX) t:=by
      dsimp only [L2.KOf]                          -- K must stand as «<heap const> w.params» for k_is
      refine' My.txt_mk ?e1 ?e2 ?e3 ..
      (case e1=>PySem.W.k_is)                    -- in the order: a name -> its address -> its object -> its parts
      (case e2=>PySem.W.k_is)
      ..
    obtain ⟨t,T⟩:=T
    have e0:=hmg.symm.trans (PySem.W.mg_of KX G T.law)
    cases e0                                       -- fa is the law's own address
    exact ⟨_,fun s u=>.of_eq rfl,fun base kb nb=>My.law_fn T kb nb⟩     -- if «.of_eq rfl» comes too early: refine' ⟨_,?b,fun base kb nb=>My.law_fn T kb nb⟩; exact fun s u=>.of_eq rfl
  case S=>exact fun w H a ns hl hO hS=>..
  case C=>exact ..
(the tactic k_is has no namespace: write k_is) -/
namespace L2
open PySem PySem.Spec PyProof.Rows
def fP (s : Stmt) (j : Nat) : Stmt:=match s with
  | .ClassDef _ _ _ body _ _ _ _ _ _ _=>body.getD j (.Pass ⟨0,0,0,0⟩)
  | _=>.Pass ⟨0,0,0,0⟩
def bZ (s : Stmt) : Arguments:=match s with
  | .FunctionDef _ a _ _ _ _ _ _ _ _=>a
  | _=>{ posonlyargs:=[],args:=[],vararg:=none,kwonlyargs:=[],kw_defaults:=[],kwarg:=none,defaults:=[] }
def aX (s : Stmt) : List Stmt:=match s with
  | .FunctionDef _ _ b _ _ _ _ _ _ _=>b
  | _=>[]
def af (s : Stmt) : Scope:=match s with
  | .FunctionDef _ _ _ _ _ _ sc _ _ _=>sc
  | _=>{ kind:=.function,names:=[],isGenerator:=false,isCoroutine:=false }
abbrev CX0 : CXT:=fun _ _ _ _ _ _=>False
abbrev E0 : XK:=fun _ _ _=>False
theorem lu {X : Cx} : ee CX0 X E0:=fun _ _ _ _ _ _ _ h=>h.elim
structure Fun (K : PySem.W.Frag) (x qual : Str) (st : Stmt) (f : Addr) (fd : FuncData) : Prop where
  ex : ∃ (oc : Value) (od : Option Addr) (kV doc pm : Value) (an : Option Addr) (cdv ct : Value) (osl : Array (Option Value)),
    fd = PySem.W.fnOf x qual (bZ st) (aX st) (af st) .none kV doc pm an cdv ct∧K.lookup f = some ⟨oc,od,.func fd,osl⟩∧PySem.W.codeIn K cdv qual = true
  kp : PySem.W.keepIn K (.ref f) = true
section
variable {P : Program} {w : World} {K : PySem.W.Frag} {mg : Str→Option Value} {base : Heap}
theorem Fun.ok {x qual : Str} {st : Stmt} {f : Addr} {fd : FuncData} {N ps : List Str} {k : Nat} {sp : Sp} (F : Fun K x qual st f fd) (S : FnScope N ps (af st)) (len : ∀ vs H Q E,sp vs H Q E→vs.length = ps.length)
    (hbody : ∀ (cdv : Value) (A : Around) (outer : List Env) (s : Shared) (H : Hp) (vs : List V) (Q : VK) (E : XK),Room k (A.deeper (envOfC qual (af st) s.heap.objs.size f cdv))→sp vs H Q E →
      ∃ t,PSs (eH CX0 P w K mg base N qual (af st) f cdv A outer s H E).nox (aX st) t∧t { nx:=fun _ H'=>Q .non H',rt:=Q } (start N vs) H) : FnOk P w K mg base CX0 (k + 1) f fd ps sp:=by
  obtain ⟨oc,od,kV,doc,pm,an,cdv,ct,osl,rfl,lk,hcd⟩:=F.ex
  refine qR lk hcd S len fun A outer s H vs Q E hr hsp=>?_
  obtain ⟨t,h,q⟩:=hbody cdv A outer s H vs Q E hr hsp
  exact ⟨t,h.nox,q⟩
theorem Fun.binds {x qual : Str} {st : Stmt} {f : Addr} {fd : FuncData} {ps : List Str} (F : Fun K x qual st f fd)
    (h : ∀ (kV doc pm : Value) (an : Option Addr) (cdv ct : Value) (us : List Value),us.length = ps.length→bindArgs (PySem.W.fnOf x qual (bZ st) (aX st) (af st) .none kV doc pm an cdv ct) ⟨us,[]⟩ = pure (ps.zip us)) : Binds K fd ps []:=by
  obtain ⟨oc,od,kV,doc,pm,an,cdv,ct,osl,rfl,lk,hcd⟩:=F.ex
  exact .all (h kV doc pm an cdv ct)
theorem oO {x qual : Str} {st : Stmt} {f : Addr} {oc : Value} {od an : Option Addr} {osl : Array (Option Value)} {kV doc pm cdv ct : Value} (l : K.lookup f = some ⟨oc,od,.func (PySem.W.fnOf x qual (bZ st) (aX st) (af st) .none kV doc pm an cdv ct),osl⟩)
    (c : PySem.W.codeIn K cdv qual = true) (k : PySem.W.keepIn K (.ref f) = true) : Fun K x qual st f (PySem.W.fnOf x qual (bZ st) (aX st) (af st) .none kV doc pm an cdv ct):=⟨⟨oc,od,kV,doc,pm,an,cdv,ct,osl,rfl,l,c⟩,k⟩
end
section
variable {X : Cx}
theorem pv (i : Nat) {x : Str} {pos : Pos} (hN : X.N[i]? = some x:=by rfl) (hv : Vis X.env.scope x:=by first | exact Or.inl rfl | exact Or.inr (Or.inl rfl) | exact Or.inr (Or.inr rfl)) (hd : (x == ("__debug__" : Str)) = false:=by decide)
    (hcd : (x == ("__classdict__" : Str)) = false:=by decide) : PE X (.Name x pos) (sL i):=sh hN hv hd hcd
end
theorem bj {A B : Prop} (h : B) : if false = true then A else B:=by
  rw [if_neg Bool.false_ne_true]
  exact h
theorem cS {A B : Prop} (h : A) : if true = true then A else B:=by
  rw [if_pos rfl]
  exact h
theorem cL {c A B : Prop} [Decidable c] (h1 : c→A) (h2 : ¬ c→B) : if c then A else B:=by
  by_cases h : c
  · rw [if_pos h]
    exact h1 h
  · rw [if_neg h]
    exact h2 h
def Same (H H' : Hp) : Prop:=∀ b o,H b = some o→H' b = some o
theorem Same.refl (H : Hp) : Same H H:=fun _ _ h=>h
theorem Same.trans {H H1 H2 : Hp} (a : Same H H1) (b : Same H1 H2) : Same H H2:=fun c o h=>b c o (a c o h)
theorem Same.free {H H' : Hp} (e : Same H H') {l : Addr} (h : H' l = Option.none) : H l = Option.none:=by
  cases q : H l with
  | none=>rfl
  | some o =>
    rw [e l o q] at h
    cases h
theorem Same.seq {K : PySem.W.Frag} {H H' : Hp} {a : Addr} {xs : List V} (e : Same H H') (h : SqL K H a xs) : SqL K H' a xs:=by
  rcases h with (h | ⟨o,h⟩) | h
  · exact .inl (.inl (e _ _ h))
  · exact .inl (.inr ⟨o,e _ _ h⟩)
  · exact .inr h
section
variable {κ : Type} [DecidableEq κ]
end
theorem gj {env : Env} : ∀ (names : List (Str × NameKind)) (cs : List (Str × Addr)),(∀ x ∈ names,x.2 = .free→∃ c,env.cells.lookup x.1 = some c)→(∀ x c,cs.lookup x = some c→env.cells.lookup x = some c) →
    ∃ cl : List (Str × Addr),(forIn names cs fun x r=>if (x.snd == NameKind.free) = true then (do let a ← cellOf env x.fst; pure (ForInStep.yield ((x.fst,a) :: r)) : Sem (ForInStep (List (Str × Addr)))) else pure (ForInStep.yield r)) = pure cl ∧
      (∀ x c,cl.lookup x = some c→env.cells.lookup x = some c)∧∀ x,((x,NameKind.free) ∈ names ∨ ∃ c,cs.lookup x = some c)→∃ c,cl.lookup x = some c
  | [],cs,_,h2=>⟨cs,rfl,h2,fun x hx=>hx.elim (fun z=>nomatch z) id⟩
  | (n, k) :: r,cs,h1,h2=>by
    rw [List.forIn_cons]
    by_cases hk : k = .free
    · subst hk
      obtain ⟨c,hc⟩:=h1 (n,.free) List.mem_cons_self rfl
      obtain ⟨cl,e,q1,q2⟩:=gj r ((n,c) :: cs) (fun x hx=>h1 x (List.mem_cons_of_mem _ hx)) (fun x d hd=>by
        rw [List.lookup_cons] at hd
        split at hd
        · rename_i hx
          cases hd
          have : x = n:=by simpa using hx
          subst this; exact hc
        · exact h2 x d hd)
      refine ⟨cl,?_,q1,fun x hx=>q2 x ?_⟩
      · simp only [beq_self_eq_true,if_true]
        rw [show cellOf env n = pure c by unfold cellOf; rw [hc]]
        simp only [pure_bind]
        exact e
      · rcases hx with hx | ⟨d,hd⟩
        · rcases List.mem_cons.mp hx with z | z
          · cases z
            exact .inr ⟨c,by rw [List.lookup_cons]; simp⟩
          · exact .inl z
        · refine .inr ?_
          rw [List.lookup_cons]
          split
          · exact ⟨_,rfl⟩
          · exact ⟨d,hd⟩
    · obtain ⟨cl,e,q1,q2⟩:=gj r cs (fun x hx=>h1 x (List.mem_cons_of_mem _ hx)) h2
      have hb : (k == NameKind.free) = false:=by simpa using hk
      refine ⟨cl,?_,q1,fun x hx=>q2 x ?_⟩
      · simp only [hb,Bool.false_eq_true,if_false,pure_bind]
        exact e
      · rcases hx with hx | hx
        · rcases List.mem_cons.mp hx with z | z
          · cases z; exact absurd rfl hk
          · exact .inl z
        · exact .inr hx
theorem jh {env : Env} {scope : Scope} (h : ∀ x ∈ scope.names,x.2 = .free→∃ c,env.cells.lookup x.1 = some c) :
    ∃ cl : List (Str × Addr),closureFor scope env = pure cl∧(∀ x c,cl.lookup x = some c→env.cells.lookup x = some c)∧∀ x,(x,NameKind.free) ∈ scope.names→∃ c,cl.lookup x = some c:=by
  obtain ⟨cl,e,q1,q2⟩:=gj scope.names [] h (fun x c z=>by simp at z)
  refine ⟨cl,?_,q1,fun x hx=>q2 x (.inl hx)⟩
  simp only [closureFor]
  rw [e]
  rfl
theorem md {prog : Program} {w : World} {A : Around} {R : Result→Shared→Prop} {s : Shared} {elt target iter : Expr} {ifs : List Expr} {scope : Scope} {pos : Pos} {it acc : Value} {env : Env} (I : Nat→Shared→Prop)
    (turn : ∀ n s,I n s→wpAny (model prog w) A (pyNext it) (fun r s₁=>match r with
      | none=>R (.ok .next) s₁
      | some v=>wpAny (model prog w) A (letOwnedTupleGo target it v) (fun _ s₁'=>wpAny (model prog w) A (assign target env v) (fun _ s₂ =>
          wpAny (model prog w) A (forIn ifs true fun c r=>if r = true then do let ok ← isTrue c env (eval c env); pure (ForInStep.yield ok) else pure (ForInStep.yield r)) (fun ok s₃ =>
            if ok = true then wpAny (model prog w) A (eval elt env) (fun x s₄ =>
              wpAny (model prog w) A (call (.builtin "list.append") [acc,x]) (fun _ s₅=>∃ m,m < n∧I m s₅) (fun _ _=>False) s₄) (fun _ _=>False) s₃
            else ∃ m,m < n∧I m s₃) (fun _ _=>False) s₂) (fun _ _=>False) s₁') (fun _ _=>False) s₁) (fun _ _=>False) s)
    (n : Nat) (h : I n s) :
    codeAny (model prog w) A (.compLoop (.ListComp elt [⟨target,iter,ifs,0⟩] scope pos) 0 it acc env) R s:=by
  refine codeAny_loop rfl I (fun n s hI=>?_) n h
  show wpAny _ A ((compTurn (.ListComp elt [⟨target,iter,ifs,0⟩] scope pos) 0 it acc env).onRaise (fun x=>do noteFrame x env; theTreesLotGoes x)) _ _ s
  refine wpAny_noted ?_
  rw [compTurn_list]
  refine wpAny_bind (wpAny_standAt (wpAny_bind (wpAny_mono (turn n s hI) (fun r s₁ h₁=>?_) fun _ _ h'=>h'.elim)))
  cases r with
  | none=>exact wpAny_pure h₁
  | some v =>
    refine wpAny_bind (wpAny_mono h₁ (fun _ s₁' h₁'=>?_) fun _ _ h'=>h'.elim)
    refine wpAny_bind (wpAny_mono h₁' (fun _ s₂ h₂=>wpAny_bind (wpAny_mono h₂ (fun ok s₃ h₃=>?_) fun _ _ h'=>h'.elim)) fun _ _ h'=>h'.elim)
    cases ok with
    | false=>exact wpAny_pure ⟨rfl,h₃⟩
    | true =>
      exact wpAny_bind (wpAny_bind (wpAny_mono h₃ (fun x s₄ h₄=>wpAny_bind (wpAny_mono h₄ (fun _ s₅ h₅=>wpAny_pure (wpAny_pure ⟨rfl,h₅⟩)) fun _ _ h'=>h'.elim)) fun _ _ h'=>h'.elim))
abbrev bh (X : Cx) (scope : Scope) (N : List Str) (cl : List (Str × Addr)) (C : Addr) (s : Shared) (H : Hp) (ex : List Addr) (pn : List (Addr × Obj)) : Cx where
  prog:=X.prog
  w:=X.w
  K:=X.K
  mg:=X.mg
  base:=X.base
  A:=X.A
  N:=N
  s₀:=s
  H₀:=H
  env:=compEnvC scope cl C X.env
  outer:=X.stack
  stack:=X.stack
  ex:=ex
  calm:=X.calm
  fn:=fun _=>false
  pn:=pn
  xe:=fun _ _=>False
def PTs (X : Cx) (ifs : List Expr) (t : TT) : Prop :=
  ∀ (pins : List (Addr × Obj)) (s : Shared) (σ : St) (H : Hp) (Q : Bool→Hp→Prop),Inv X pins σ H s→t σ H Q →
    wpAny (model X.prog X.w) X.A (forIn ifs true fun c r=>if r = true then do let ok ← isTrue c X.env (eval c X.env); pure (ForInStep.yield ok) else pure (ForInStep.yield r)) (TP X pins σ Q) X.xe s
def rP : TT:=fun _ H Q=>Q true H
theorem dg {X : Cx} : PTs X [] rP:=fun _ _ _ H _ I h=>wpAny_tests_nil ⟨H,I,h⟩
theorem qp {X : Cx} {c : Expr} {t : TT} (h : PT X c t) : PTs X [c] t:=fun pins s σ H Q I hq=>wpAny_tests_one (h pins s σ H Q I hq)
abbrev TTg:=V→Hp→(List V→Prop)→Prop
def PTg (X : Cx) (k : Nat) (tg : Expr) (tt : TTg) : Prop :=
  ∀ (pins : List (Addr × Obj)) (s : Shared) (σ : St) (H : Hp) (v : V) (u : Value) (Q : List V→Prop),Inv X pins σ H s→k ≤ σ.length→RelV v u→tt v H Q →
    wpAny (model X.prog X.w) X.A (assign tg X.env u) (fun _ s'=>∃ ws,ws.length = k∧Q ws∧Inv X pins (ws.map some ++ σ.drop k) H s') X.xe s
def nz : TTg:=fun v _ Q=>Q [v]
theorem eU {X : Cx} {x : Str} {pos : Pos} (hN : X.N.Nodup) (hi : X.N[0]? = some x) (hx : X.env.scope.names.lookup x = some .local) : PTg X 1 (.Name x pos) nz:=by
  intro pins s σ H v u Q I hl r h
  refine wpAny_assign_Name (gc I hN hi (.inl hx) r (fun s' I'=>⟨[v],rfl,h,?_⟩) (.inr hx))
  cases σ with
  | nil=>simp at hl
  | cons a t=>exact I'
def nu (K : PySem.W.Frag) (n : Nat) : TTg:=fun v H Q=>∃ a xs,v = .ref a∧SqT K H a xs∧xs.length = n∧Q xs
theorem o7 {α : Type} (a b : α) : ∀ (σ : List α),2 ≤ σ.length→(σ.set 0 a).set 1 b = [a,b] ++ σ.drop 2
  | _ :: _ :: _,_=>rfl
theorem qd {α : Type} : ∀ (xs : List α),xs.length = 2→∃ a b,xs = [a,b]
  | [a,b],_=>⟨a,b,rfl⟩
theorem nA {X : Cx} {x y : Str} {p1 p2 pos : Pos} {k : Nat} (hc : X.calm = true) (hN : X.N.Nodup) (h0 : X.N[0]? = some x) (h1 : X.N[1]? = some y) (hx : X.env.scope.names.lookup x = some .local) (hy : X.env.scope.names.lookup y = some .local) :
    PTg X 2 (.Tuple [.Name x p1,.Name y p2] k pos) (nu X.K 2):=by
  have g : PG X (.Tuple [.Name x p1,.Name y p2] k pos) (rK X.K 2 (f6 (dj 0) (f6 (dj 1) qf))):=by
    have a1 : PG X (.Name x p1) (dj 0):=aD hN h0 (.inl hx) (.inr hx)
    have a2 : PG X (.Name y p2) (dj 1):=aD hN h1 (.inl hy) (.inr hy)
    have a3 : PGs X [.Name x p1,.Name y p2] (f6 (dj 0) (f6 (dj 1) qf)):=aO a1 (aO a2 cO)
    exact dE hc a3
  intro pins s σ H v u Q I hl r h
  obtain ⟨a,xs,rfl,hq,hlen,q⟩:=h
  obtain ⟨x0,x1,e⟩:=qd xs hlen
  subst e
  have w : rK X.K 2 (f6 (dj 0) (f6 (dj 1) qf)) (.ref a) σ H (fun σ' H'=>σ' = (σ.set 0 (some x0)).set 1 (some x1)∧H' = H):=⟨a,[x0,x1],rfl,hq,rfl,x0,[x1],rfl,x1,[],rfl,rfl,rfl,rfl⟩
  refine thn (g pins s σ H _ _ _ I r w) ?_
  intro _ s' z
  obtain ⟨σ',H',I',e1,e2⟩:=z
  subst e2
  rw [o7 _ _ _ hl] at e1
  subst e1
  exact ⟨[x0,x1],rfl,q,I'⟩
theorem HOk.adopt {P : Program} {w : World} {H : Hp} {h : Heap} {a : Addr} {o : HO} (x : HOk P w H h) (hn : H a = none) (new : ObjOk P w (upd H a o) h a o) : HOk P w (upd H a o) h:=fun b u e=>by
  by_cases hb : b = a
  · subst hb; rw [ae] at e; cases e; exact new
  · rw [aq hb] at e
    exact (x b u e).stay (fun c v _ q=>q) (fun c q=>by rw [aq (ay q hn)]; exact q) fun c xs q=>by rw [aq (ay q hn)]; exact q
theorem c6 {env : Env} {x : Str} : ∀ {names : List (Str × NameKind)},names.lookup x = some .free →
    (names.map fun (n,k)=>if (k == NameKind.free && env.scope.kind == .function && env.kindOf n == some .cell) then (n,NameKind.cell) else (n,k)).lookup x = some .cell ∨
    (names.map fun (n,k)=>if (k == NameKind.free && env.scope.kind == .function && env.kindOf n == some .cell) then (n,NameKind.cell) else (n,k)).lookup x = some .free
  | [],h=>by simp at h
  | (n,k) :: r,h=>by
    have ih:=@c6 env x r
    show (List.lookup x ((if (k == NameKind.free && env.scope.kind == .function && env.kindOf n == some .cell) = true then (n,NameKind.cell) else (n,k)) :: _) = _) ∨ (List.lookup x ((if (k == NameKind.free && env.scope.kind == .function && env.kindOf n == some .cell) = true then (n,NameKind.cell) else (n,k)) :: _) = _)
    cases hx : x == n with
    | true =>
      simp only [List.lookup_cons,hx] at h
      cases h
      split
      · left; simp [List.lookup_cons,hx]
      · right; simp [List.lookup_cons,hx]
    | false =>
      simp only [List.lookup_cons,hx] at h
      split
      · simp only [List.lookup_cons,hx]; exact ih h
      · simp only [List.lookup_cons,hx]; exact ih h
theorem eT {env : Env} {x : Str} : ∀ {names : List (Str × NameKind)},(∀ y ∈ names,y.2 ≠ .cell) →
    ((names.map fun (n,k)=>if (k == NameKind.free && env.scope.kind == .function && env.kindOf n == some .cell) then (n,NameKind.cell) else (n,k)).lookup x = some .cell ∨
    (names.map fun (n,k)=>if (k == NameKind.free && env.scope.kind == .function && env.kindOf n == some .cell) then (n,NameKind.cell) else (n,k)).lookup x = some .free)→(x,NameKind.free) ∈ names
  | [],_,h=>by simp at h
  | (n, k) :: r,hc,h=>by
    have ih:=@eT env x r (fun y hy=>hc y (List.mem_cons_of_mem _ hy))
    have hk : k ≠ .cell:=hc (n,k) List.mem_cons_self
    have h' : (List.lookup x ((if (k == NameKind.free && env.scope.kind == .function && env.kindOf n == some .cell) = true then (n,NameKind.cell) else (n,k)) :: _) = _) ∨ (List.lookup x ((if (k == NameKind.free && env.scope.kind == .function && env.kindOf n == some .cell) = true then (n,NameKind.cell) else (n,k)) :: _) = _):=h
    cases hx : x == n with
    | true =>
      have e : x = n:=by simpa using hx
      subst e
      by_cases hc2 : (k == NameKind.free && env.scope.kind == .function && env.kindOf x == some .cell) = true
      · have : k = .free:=by
          have:=(Bool.and_eq_true_iff.mp (Bool.and_eq_true_iff.mp hc2).1).1
          simpa using this
        subst this; exact List.mem_cons_self
      · rw [if_neg hc2] at h'
        simp only [List.lookup_cons,hx] at h'
        rcases h' with h' | h'
        · exact absurd (Option.some.inj h') hk
        · cases h'; exact List.mem_cons_self
    | false =>
      refine List.mem_cons_of_mem _ (ih ?_)
      split at h' <;> (simp only [List.lookup_cons,hx] at h'; exact h')
structure CompOk (scope psc : Scope) (N PN : List Str) (k : Nat) (cap : List Nat) : Prop where
  kind : scope.kind = .function
  len : N.length = k + cap.length
  cell : ∀ y ∈ scope.names,y.2 ≠ .cell
  loc : ∀ y ∈ scope.names,y.2 = .local→scope.names.lookup y.1 = some .local
  free : ∀ y ∈ scope.names,y.2 = .free→psc.names.lookup y.1 = some .cell ∨ psc.names.lookup y.1 = some .free
  cap : ∀ j ∈ List.range cap.length,∃ x i,N[k + j]? = some x∧cap[j]? = some i∧PN[i]? = some x∧scope.names.lookup x = some .free
  free2 : ∀ y ∈ scope.names,y.2 = .free→scope.names.lookup y.1 = some .free
def cv (σ : St) (cap : List Nat) : St:=cap.map fun j=>(σ[j]?).join
def io (wi : TI) (tt : TTg) (tc : TT) (te : TE) (cap : List Nat) : TE:=fun σ H Q=>wi σ H fun J H1 =>
  ∃ W : Nat→Nat→List V→Hp→Prop,(∃ m,W 0 m [] H1)∧∀ i m ys H2,W i m ys H2 →
    (J.stop i H2∧ys.length ≤ sizeLine∧∀ p,H2 p = none→Q (.ref p) (upd H2 p (.lst ys))) ∨
    (J.go i H2∧∃ N : List V→Hp→Prop,(∀ ys' H',N ys' H'→ys'.length ≤ sizeLine∧∃ m',m' < m∧W (i + 1) m' ys' H') ∧
      ∀ x H3,J.yld i H2 x H3→tt x H3 fun ws=>tc (ws.map some ++ cv σ cap) H3 fun b H4 =>
        if b = true then te (ws.map some ++ cv σ cap) H4 fun y H5=>N (ys ++ [y]) H5 else N ys H4)
structure Blk (X : Cx) (pins : List (Addr × Obj)) (H : Hp) (s : Shared) (C : Addr) : Prop where
  ns : ∃ m,s.heap.Ns C m
  un : H C = none
  ne : C ≠ X.env.locals
  new : X.s₀.heap.objs.size ≤ C
  cells : ∀ x c,X.env.cells.lookup x = some c→c ≠ C
  pins : ∀ p ∈ X.pn ++ pins,p.1 ≠ C
theorem Blk.turn {X : Cx} {pins : List (Addr × Obj)} {H : Hp} {σ : St} {s : Shared} {C : Addr} {h' : Heap} (B : Blk X pins H s C) (I : Inv X pins σ H s) (hs : Heap.SameBut C s.heap h') : Inv X pins σ H { s with heap:=h' } :=
  I.turned (t':=s.toks) (fun b o hb e=>hs.extBut b o hb e) B.un B.ne (.inr B.new) B.cells B.pins
theorem ki {X : Cx} {pins : List (Addr × Obj)} {σ : St} {H : Hp} {s : Shared} {scope : Scope} {N : List Str} {k : Nat} {cap : List Nat} {cl : List (Str × Addr)} {h₁ : Heap} {fp : List Addr} {tk : Nat} (I : Inv X pins σ H s) (S : CompOk scope X.env.scope N X.N k cap)
    (hcl1 : ∀ x c,cl.lookup x = some c→X.env.cells.lookup x = some c) (hcl2 : ∀ x,(x,NameKind.free) ∈ scope.names→∃ c,cl.lookup x = some c)
    (hf : ∀ b ∈ fp,FpOk X pins H b) (ho : ∀ b ∈ fp,∃ o,s.heap.get? b = some o)
    {m : Str→Option Value} (hns : h₁.Ns (s.heap.objs.size + 1) m)
    (hsb : ∀ b o,(s.heap.push { cls:=.type "list",data:=.seq #[] }).get? b = some o→h₁.get? b = some o) :
    Inv (bh X scope N cl (s.heap.objs.size + 1) { s with heap:=s.heap.push { cls:=.type "list",data:=.seq #[] } } H (s.heap.objs.size :: fp) (X.pn ++ pins))
      [(s.heap.objs.size,{ cls:=.type "list",data:=.seq #[] })] (List.replicate k none ++ cv σ cap) H { s with heap:=h₁,toks:=tk }:=by
  have Ik : Inv X pins σ H { s with heap:=s.heap.push { cls:=.type "list",data:=.seq #[] } }:=I.kept (t':=s.toks) fun b o e=>Heap.get?_push_of_some _ e
  have hold : ∀ b o,s.heap.get? b = some o→h₁.get? b = some o:=fun b o e=>hsb b o (Heap.get?_push_of_some _ e)
  have ltD : ∀ {b o},s.heap.get? b = some o→b < s.heap.objs.size:=fun e=>Heap.lt_size e
  have sizeP : (s.heap.push { cls:=.type "list",data:=.seq #[] }).objs.size = s.heap.objs.size + 1:=Heap.size_push ..
  have nD : H s.heap.objs.size = none:=I.fresh
  have nC : H (s.heap.objs.size + 1) = none:=I.hok.fresh (Nat.le_succ _)
  have cellLt : ∀ x c,X.env.cells.lookup x = some c→c < s.heap.objs.size:=fun x c e=>by
    obtain ⟨v,q⟩:=I.cell x c e
    exact q.lt
  have stkNe : ∀ b,b ≠ X.env.locals→b ∉ X.fs→b ∉ frs X.stack:=fun b h1 h2 hb=>(List.mem_cons.mp (I.stkSub b hb)).elim h1 h2
  have fpLt : ∀ b ∈ fp,b < s.heap.objs.size:=fun b hb=>by obtain ⟨o,e⟩:=ho b hb; exact Heap.lt_size e
  have hfn : ∀ {x : Str},scope.names.lookup x = some .free→(x,NameKind.free) ∈ scope.names:=fun e=>PySem.mem_of_lookup e
  refine ⟨⟨I.ok.mod,S.kind,I.ok.glob,I.ok.blt,?_,fun x y c h1 h2=>I.ok.inj x y c (hcl1 x c h1) (hcl1 y c h2),fun x hx=>hcl2 x (eT S.cell hx),fun x c z=>(by cases z),I.ok.hd,I.ok.frames,.inl rfl,?_,?_,?_,?_,?_,Ik.stack,I.stkFree⟩,
    rfl,I.bare,Un.kept hsb,?_,?_,nC,fun x c e=>I.freeC x c (hcl1 x c e),?_,I.hok.kept hold,?_⟩
  · exact Nat.le_of_eq sizeP
  · intro b hb
    rcases List.mem_cons.mp hb with rfl | hb
    · exact ⟨Nat.ne_of_lt (Nat.lt_succ_self _),fun x c e=>Nat.ne_of_lt (cellLt x c (hcl1 x c e))⟩
    · exact ⟨Nat.ne_of_lt (Nat.lt_succ_of_lt (fpLt b hb)),fun x c e=>(hf b hb).2.2.2.2.1 x c (hcl1 x c e)⟩
  · intro b o e
    obtain ⟨e1,e2⟩:=I.bs b o e
    exact ⟨Heap.get?_push_of_some _ e1,e2⟩
  · show X.base.objs.size ≤ (s.heap.push _).objs.size
    rw [sizeP]
    exact Nat.le_succ_of_le (Nat.le_trans I.ok.bsz I.sz)
  · intro b o e hb
    obtain ⟨e1,e2⟩:=I.bs b o e
    rcases List.mem_cons.mp hb with rfl | hb
    · exact absurd (ltD e1) (Nat.lt_irrefl _)
    · rcases (hf b hb).2.2.2.1 with z | z
      · exact I.ok.noex b o e z
      · exact absurd (Nat.lt_of_lt_of_le (Heap.lt_size (I.ok.bs b o e).1) z) (Nat.lt_irrefl _)
  · intro b hb
    rcases List.mem_cons.mp hb with rfl | hb
    · exact stkNe _ (Nat.ne_of_gt I.lt) (I.nofs (Nat.le_refl _))
    · exact stkNe b (hf b hb).2.1 (hf b hb).2.2.1
  · refine ⟨m,hns,fun i x v h1 h2 h3=>?_⟩
    have hik : k ≤ i:=by
      refine Nat.le_of_not_lt fun hlt=>?_
      rw [List.getElem?_append_left (by simpa using hlt),List.getElem?_replicate] at h2
      split at h2 <;> cases h2
    obtain ⟨j,rfl⟩:=Nat.exists_eq_add_of_le hik
    rw [List.getElem?_append_right (by simp),List.length_replicate,Nat.add_sub_cancel_left] at h2
    have hj : j < cap.length:=by
      have:=(List.getElem?_eq_some_iff.mp h2).1
      simpa [cv] using this
    obtain ⟨x',i,e1,e2,e3,e4⟩:=S.cap j (List.mem_range.mpr hj)
    rw [show N[k + j]? = some x from h1] at e1
    cases e1
    have h2' : σ[i]? = some (some v):=by
      unfold cv at h2
      rw [List.getElem?_map,e2] at h2
      have h2' : (σ[i]?).join = some v:=Option.some.inj h2
      cases q : σ[i]? with
      | none=>rw [q] at h2'; cases h2'
      | some z=>rw [q] at h2'; exact congrArg some h2'
    have hfm:=hfn e4
    have pk:=S.free _ hfm rfl
    obtain ⟨m0,_,hl⟩:=I.loc
    obtain ⟨u,r,lk⟩:=hl i x v e3 h2' (pk.elim (fun z=>.inr (.inl z)) fun z=>.inr (.inr z))
    refine ⟨u,r,?_⟩
    rcases lk with ⟨kl,_⟩ | ⟨_,c,e,ic⟩
    · rcases pk with z | z
      · have : X.env.scope.names.lookup x = some .local:=kl
        rw [z] at this; cases this
      · have : X.env.scope.names.lookup x = some .local:=kl
        rw [z] at this; cases this
    · obtain ⟨c',ec⟩:=hcl2 x hfm
      have:=hcl1 x c' ec
      rw [e] at this; cases this
      refine .inr ⟨?_,c,ec,?_⟩
      · exact c6 e4
      · obtain ⟨ob,h3,h4⟩:=ic
        exact ⟨ob,hold _ _ h3,h4⟩
  · intro x c e
    obtain ⟨v,ob,h3,h4⟩:=I.cell x c (hcl1 x c e)
    exact ⟨v,ob,hold _ _ h3,h4⟩
  · intro p hp
    rcases List.mem_append.mp hp with hp | hp
    · obtain ⟨e,n,ne,nf,d⟩:=I.pin p hp
      exact ⟨hold _ _ e,n,Nat.ne_of_lt (Nat.lt_succ_of_lt (ltD e)),stkNe _ ne nf,d⟩
    · have : p = (s.heap.objs.size,{ cls:=.type "list",data:=.seq #[] }):=by simpa using hp
      subst this
      refine ⟨hsb _ _ (Heap.get?_push_size _ rfl),nD,Nat.ne_of_lt (Nat.lt_succ_self _),stkNe _ (Nat.ne_of_gt I.lt) (I.nofs (Nat.le_refl _)),fun v z=>by cases z⟩
  · show _ = N.length
    rw [S.len]
    simp [cv]
theorem iO {X : Cx} {elt tg iter : Expr} {ifs : List Expr} {scope : Scope} {pos : Pos} {N : List Str} {k : Nat} {cap : List Nat} {wi : TI} {tt : TTg} {tc : TT} {te : TE} {cl : List (Str × Addr)}
    (hc : X.calm = true) (hi : PI X tg iter wi) (hg : ∀ cl C s H ex pn,PTg (bh X scope N cl C s H ex pn) k tg tt) (ht : ∀ cl C s H ex pn,PTs (bh X scope N cl C s H ex pn) ifs tc)
    (he : ∀ cl C s H ex pn,PE (bh X scope N cl C s H ex pn) elt te) (S : CompOk scope X.env.scope N X.N k cap)
    (hcl1 : ∀ x c,cl.lookup x = some c→X.env.cells.lookup x = some c) (hcl2 : ∀ x,(x,NameKind.free) ∈ scope.names→∃ c,cl.lookup x = some c)
    {pins : List (Addr × Obj)} {s : Shared} {σ : St} {H : Hp} {Q : VK} (I : Inv X pins σ H s) (h : io wi tt tc te cap σ H Q) {RR : Value→Addr→Result→Shared→Prop}
    (hRR : ∀ D C s1 H',Inv X pins σ H' s1→Blk X pins H' s1 C→Q (.ref D) H'→RR (.ref D) C (.ok .next) s1) :
    wpAny (model X.prog X.w) X.A (eval iter X.env) (fun x s₁=>wpAny (model X.prog X.w) X.A (pyIter x) (fun it s₂=>wpAny (model X.prog X.w) X.A (newList []) (fun acc s₃ =>
      wpAny (model X.prog X.w) X.A (newFunctionEnv scope X.env.globals cl [] X.env.qual none .none (some X.env)) (fun cenv s₄ =>
        codeAny (model X.prog X.w) X.A (.compStart (.ListComp elt [⟨tg,iter,ifs,0⟩] scope pos) 0 it acc { cenv with scope:=relabel scope X.env }) (RR acc cenv.locals) s₄) X.xe s₃) X.xe s₂) X.xe s₁) X.xe s:=by
  refine thn (hi pins s σ H _ I h) fun v s1 h1=>thn h1 fun itv s2 h2=>?_
  obtain ⟨it,fp,tn,J,H2,e,I2,T,st2,f2,W,⟨m0,w0⟩,turn⟩:=h2
  subst e
  refine wpAny_newObj_type (wpAny_newFunctionEnv S.cell (by intro y hy; simp at hy) (fun h₁ hns₁ hsb₁=>?_) S.kind)
  dsimp only at hns₁ hsb₁ ⊢
  have hP : s2.heap.push { cls:=.type "list",dict:=none,data:=.seq ([] : List Value).toArray } = s2.heap.push { cls:=.type "list",data:=.seq #[] }:=rfl
  rw [hP] at hns₁ hsb₁ ⊢
  have hC : (s2.heap.push { cls:=.type "list",data:=.seq #[] }).objs.size = s2.heap.objs.size + 1:=Heap.size_push ..
  rw [hC] at hns₁ hsb₁ ⊢
  have hsb : ∀ b o,(s2.heap.push { cls:=.type "list",data:=.seq #[] }).get? b = some o→h₁.get? b = some o:=fun b o e =>
    hsb₁.extBut b o (by have:=Heap.lt_size e; rw [hC] at this; exact Nat.ne_of_lt this) (Heap.get?_push_of_some _ e)
  have hob : ∀ b ∈ fp,∃ o,s2.heap.get? b = some o:=fun b hb=>by obtain ⟨o,e,_⟩:=T.obj _ _ st2 b hb; exact ⟨o,e⟩
  have IY:=ki (N:=N) (k:=k) (cap:=cap) (tk:=s2.toks + ([] : List (Str × Value)).length) I2 S hcl1 hcl2 f2 hob hns₁ hsb
  generalize hY : bh X scope N cl (s2.heap.objs.size + 1) { s2 with heap:=s2.heap.push { cls:=.type "list",data:=.seq #[] } } H2 (s2.heap.objs.size :: fp) (X.pn ++ pins) = Y at IY
  have yp : Y.prog = X.prog:=by rw [← hY]
  have yw : Y.w = X.w:=by rw [← hY]
  have yK : Y.K = X.K:=by rw [← hY]
  have yA : Y.A = X.A:=by rw [← hY]
  have yc : Y.calm = true:=by rw [← hY]; exact hc
  have yl : Y.env.locals = s2.heap.objs.size + 1:=by rw [← hY]; rfl
  have yenv : Y.env = compEnvC scope cl (s2.heap.objs.size + 1) X.env:=by rw [← hY]
  have yex : Y.ex = s2.heap.objs.size :: fp:=by rw [← hY]
  have yfs : Y.fs = frs X.stack:=by rw [← hY]
  have ypn : Y.pn = X.pn ++ pins:=by rw [← hY]
  have ycl : Y.env.cells = cl:=by rw [← hY]; rfl
  have yxe : Y.xe = fun _ _=>False:=by rw [← hY]
  have gT : PTg Y k tg tt:=by rw [← hY]; exact hg _ _ _ _ _ _
  have gC : PTs Y ifs tc:=by rw [← hY]; exact ht _ _ _ _ _ _
  have gE : PE Y elt te:=by rw [← hY]; exact he _ _ _ _ _ _
  have yH : Y.H₀ = H2:=by rw [← hY]
  have ys0 : Y.s₀ = { s2 with heap:=s2.heap.push { cls:=.type "list",data:=.seq #[] } }:=by rw [← hY]
  have fpLt : ∀ b ∈ fp,b < s2.heap.objs.size:=fun b hb=>by obtain ⟨o,e⟩:=hob b hb; exact Heap.lt_size e
  have pinLt : ∀ p ∈ X.pn ++ pins,p.1 < s2.heap.objs.size:=fun p hp=>Heap.lt_size (I2.pin p hp).1
  have cellLt : ∀ x c,X.env.cells.lookup x = some c→c < s2.heap.objs.size:=fun x c e=>by
    obtain ⟨v,q⟩:=I2.cell x c e
    exact q.lt
  have stkNe : ∀ b,b ≠ X.env.locals→b ∉ X.fs→b ∉ frs X.stack:=fun b h1 h2 hb=>(List.mem_cons.mp (I2.stkSub b hb)).elim h1 h2
  have fpY : ∀ {H' : Hp} {pl : List (Addr × Obj)},(∀ b ∈ fp,H' b = none)→(∀ p ∈ pl,p.1 = s2.heap.objs.size)→∀ b ∈ fp,FpOk Y pl H' b:=fun {H' pl} hn hpl b hb=>by
    refine ⟨hn b hb,?_,?_,.inl ?_,fun x c e=>?_,fun p hp=>?_⟩
    · rw [yl]; exact Nat.ne_of_lt (Nat.lt_succ_of_lt (fpLt b hb))
    · rw [yfs]; exact stkNe b (f2 b hb).2.1 (f2 b hb).2.2.1
    · rw [yex]; exact List.mem_cons_of_mem _ hb
    · rw [ycl] at e; exact (f2 b hb).2.2.2.2.1 x c (hcl1 x c e)
    · rcases List.mem_append.mp hp with hp | hp
      · rw [ypn] at hp; exact (f2 b hb).2.2.2.2.2 p hp
      · rw [hpl p hp]; exact Nat.ne_of_gt (fpLt b hb)
  have loop : ∀ s₃ : Shared,s₃ = { s2 with heap:=h₁,toks:=s2.toks + ([] : List (Str × Value)).length } →
      codeAny (model X.prog X.w) X.A (.compLoop (.ListComp elt [⟨tg,iter,ifs,0⟩] scope pos) 0 (.ref it) (.ref s2.heap.objs.size) (compEnvC scope cl (s2.heap.objs.size + 1) X.env)) (RR (.ref s2.heap.objs.size) (s2.heap.objs.size + 1)) s₃:=by
    rintro s₃ rfl
    refine md (fun n s'=>∃ i ys its H' c,Inv Y [(s2.heap.objs.size,{ cls:=.type "list",data:=.seq (List.toArray its) c })] (List.replicate k none ++ cv σ cap) H' s'∧tn i s'.heap∧(∀ b ∈ fp,H' b = none)∧Vals ys its∧W i n ys H') ?_ m0
      ⟨0,[],[],H2,_,IY,T.keep _ _ _ st2 fun b hb o e=>hsb b o (Heap.get?_push_of_some _ e),fun b hb=>(f2 b hb).1,.nil,w0⟩
    rintro n s3 ⟨i,ys,its,H3,c3,I3,st3,fr3,rv3,w3⟩
    have onlyD : ∀ p ∈ [(s2.heap.objs.size,({ cls:=.type "list",data:=.seq its.toArray c3 } : Obj))],p.1 = s2.heap.objs.size:=fun p hp=>by
      have : p = (s2.heap.objs.size,{ cls:=.type "list",data:=.seq its.toArray c3 }):=by simpa using hp
      rw [this]
    have pinD : ∀ {pl : List (Addr × Obj)} {σ' : St} {H' : Hp} {s' : Shared},Inv Y ([(s2.heap.objs.size,({ cls:=.type "list",data:=.seq its.toArray c3 } : Obj))] ++ pl) σ' H' s'→s'.heap.get? s2.heap.objs.size = some { cls:=.type "list",data:=.seq its.toArray c3 }∧H' s2.heap.objs.size = none:=fun I'=>by
      obtain ⟨e,n,_⟩:=I'.pin (s2.heap.objs.size,{ cls:=.type "list",data:=.seq its.toArray c3 }) (List.mem_append_right _ (List.mem_append_left _ (by simp)))
      exact ⟨e,n⟩
    rcases turn i n ys H3 w3 with ⟨stop,hz,qn⟩ | ⟨go,Nx,hNx,step⟩
    · have hd:=T.done Y yp yw yK yc i _ s3 _ H3 (fun _ _=>False) I3 (fpY fr3 onlyD) st3 stop
      rw [yA] at hd
      refine thn hd fun r s4 hm0=>?_
      obtain ⟨hr,I4⟩:=hm0
      subst hr
      obtain ⟨eD,nD⟩:=pinD (pl:=[]) (by simpa using I4)
      have nC : H3 (s2.heap.objs.size + 1) = none:=by have:=I4.free; rw [yl] at this; exact this
      obtain ⟨mC,nsC,_⟩:=I4.loc
      rw [yl] at nsC
      have U:=I4.base
      rw [yfs,yex,yH,ys0] at U
      have old : ∀ {b o},s2.heap.get? b = some o→b < s2.heap.objs.size:=fun e=>Heap.lt_size e
      have Un2 : Un (frs X.stack) (s2.heap.objs.size :: fp) H2 (upd H3 s2.heap.objs.size (.lst ys)) s2.heap s4.heap :=
        ⟨fun b o e n hb hx=>U.keep b o (Heap.get?_push_of_some _ e) n hb hx,fun b o e n hb hx=>U.slot b o (Heap.get?_push_of_some _ e) n hb hx,
          fun b o e n hx=>by rw [aq (Nat.ne_of_lt (old e))]; exact U.free b o (Heap.get?_push_of_some _ e) n hx,fun b o e hx=>U.there b o (Heap.get?_push_of_some _ e) hx,
          fun b xs e=>by have q:=U.tups b xs e; rw [aq (ay q nD)]; exact q,fun b o u e=>by have q:=U.frzs b o u e; rw [aq (ay q nD)]; exact q,
          fun b ps e=>by obtain ⟨mo,q⟩:=U.tbls b ps e; exact ⟨mo,by rw [aq (ay q nD)]; exact q⟩⟩
      have hok4:=I4.hok
      rw [yp,yw] at hok4
      have IX : Inv X pins σ (upd H3 s2.heap.objs.size (.lst ys)) s4:=by
        refine I2.call' (ch:=s2.heap.objs.size :: fp) ?_ Un2 (hok4.adopt nD ⟨hz,its,c3,rv3,eD⟩) I4.bare fun b hb=>?_
        · have:=I4.os; rw [ys0] at this; exact this
        · rcases List.mem_cons.mp hb with rfl | hb
          · exact ⟨.inr I2.sz,Nat.ne_of_gt I2.lt,fun x c e=>Nat.ne_of_lt (cellLt x c e),fun p hp=>Nat.ne_of_lt (pinLt p hp)⟩
          · exact ⟨(f2 b hb).2.2.2.1,(f2 b hb).2.1,(f2 b hb).2.2.2.2.1,(f2 b hb).2.2.2.2.2⟩
      refine hRR _ _ s4 _ IX ⟨⟨mC,nsC⟩,?_,?_,Nat.le_succ_of_le I2.sz,fun x c e=>Nat.ne_of_lt (Nat.lt_succ_of_lt (cellLt x c e)),fun p hp=>Nat.ne_of_lt (Nat.lt_succ_of_lt (pinLt p hp))⟩ (qn _ nD)
      · rw [aq (Nat.succ_ne_self _)]; exact nC
      · exact Nat.ne_of_gt (Nat.lt_succ_of_lt I2.lt)
    · have hd := T.item Y yp yw yK yc i _ s3 _ H3 (fun _ _=>False) I3 (fpY fr3 onlyD) st3 go
      rw [yA] at hd
      refine thn hd fun r s4 hm0=>?_
      obtain ⟨u,hr,h4⟩:=hm0
      subst hr
      refine thn h4 fun _ s5 hm0=>?_
      obtain ⟨x,H5,I5,r5,y5,st5,fr5⟩:=hm0
      have I5':=I5.pinned (fpY fr5 onlyD) (T.obj _ _ st5)
      have a5:=gT _ s5 _ H5 x u _ I5' (by simp) r5 (step x H5 y5)
      rw [yp,yw,yA,yxe,yenv] at a5
      refine thn a5 fun _ s6 hm0=>?_
      obtain ⟨ws,hlw,q6,I6⟩:=hm0
      have dr : (List.replicate k (none : Option V) ++ cv σ cap).drop k = cv σ cap:=by
        rw [List.drop_append_of_le_length (by simp)]; simp
      rw [dr] at I6
      have a6:=gC _ s6 _ H5 _ I6 q6
      rw [yp,yw,yA,yxe,yenv] at a6
      refine thn a6 fun ok s7 hm0=>?_
      obtain ⟨H7,I7,q7⟩:=hm0
      have wk : ∀ (j : Nat) v,(List.replicate k (none : Option V) ++ cv σ cap)[j]? = some (some v)→(ws.map some ++ cv σ cap)[j]? = some (some v):=fun j v e=>by
        have hik : k ≤ j:=by
          refine Nat.le_of_not_lt fun hlt=>?_
          rw [List.getElem?_append_left (by simpa using hlt),List.getElem?_replicate] at e
          split at e <;> cases e
        rw [List.getElem?_append_right (by simpa using hik),List.length_replicate] at e
        rw [List.getElem?_append_right (by simpa [hlw] using hik),List.length_map,hlw]
        exact e
      have wl : (List.replicate k (none : Option V) ++ cv σ cap).length = (ws.map some ++ cv σ cap).length:=by simp [hlw]
      have stn : ∀ {H' : Hp} {s' : Shared},Inv Y ([(s2.heap.objs.size,({ cls:=.type "list",data:=.seq its.toArray c3 } : Obj))] ++ gI fp s5.heap) (ws.map some ++ cv σ cap) H' s'→tn (i + 1) s'.heap∧∀ b ∈ fp,H' b = none:=fun {H' s'} I'=>by
        refine ⟨T.keep _ _ _ st5 fun b hb o e=>(I'.pin (b,o) (List.mem_append_right _ (List.mem_append_right _ (de hb e)))).1,fun b hb=>?_⟩
        obtain ⟨o,e,d⟩:=T.obj _ _ st5 b hb
        exact (I'.pin (b,o) (List.mem_append_right _ (List.mem_append_right _ (de hb e)))).2.1
      cases ok with
      | false =>
        obtain ⟨_,m',hm,w'⟩:=hNx _ _ q7
        obtain ⟨t7,f7⟩:=stn I7
        exact ⟨m',hm,i + 1,ys,its,H7,c3,(I7.weak wl wk).unpinned,t7,f7,rv3,w'⟩
      | true =>
        have a7:=gE _ s7 _ H7 _ I7 q7
        rw [yp,yw,yA,yxe,yenv] at a7
        rw [if_pos rfl]
        refine thn a7 fun yv s8 hm0=>?_
        obtain ⟨y,H8,I8,r8,q8⟩:=hm0
        obtain ⟨hz8,m',hm,w'⟩:=hNx _ _ q8
        rw [List.length_append,List.length_singleton] at hz8
        obtain ⟨eD,nD⟩:=pinD I8
        obtain ⟨t8,f8⟩:=stn I8
        refine wpAny_list_append_plain (hsz:=by rw [List.size_toArray,← rv3.length]; omega) ⟨c3,eD⟩ fun h9 pl9 sb9=>?_
        obtain ⟨c9,e9⟩:=pl9
        have I8' : Inv Y [] (List.replicate k none ++ cv σ cap) H8 s8:=(I8.weak wl wk).pins_of fun p hp=>by cases hp
        have I9 : Inv Y [] (List.replicate k none ++ cv σ cap) H8 { s8 with heap:=h9 } :=
          I8'.turned (t':=s8.toks) (it:=s2.heap.objs.size) (fun b o hb e=>sb9.extBut b o hb e) nD (by rw [yl]; exact Nat.ne_of_lt (Nat.lt_succ_self _)) (.inl (by rw [yex]; exact List.mem_cons_self)) (fun x c e=>by rw [ycl] at e; exact Nat.ne_of_lt (cellLt x c (hcl1 x c e)))
            fun p hp=>by
              rw [List.append_nil,ypn] at hp
              exact Nat.ne_of_lt (pinLt p hp)
        have e9' : h9.get? s2.heap.objs.size = some { cls:=.type "list",data:=.seq (its ++ [yv]).toArray c9 }:=by rw [e9]; simp
        refine ⟨m',hm,i + 1,ys ++ [y],its ++ [yv],H8,c9,I9.pins_of fun p hp=>?_,T.keep _ _ _ t8 fun b hb o e=>sb9.extBut b o (Nat.ne_of_lt (fpLt b hb)) e,f8,rv3.append (.cons r8 .nil),w'⟩
        have : p = (s2.heap.objs.size,{ cls:=.type "list",data:=.seq (its ++ [yv]).toArray c9 }):=by simpa using hp
        subst this
        refine ⟨e9',nD,?_,?_,fun v z=>by cases z⟩
        · rw [yl]; exact Nat.ne_of_lt (Nat.lt_succ_self _)
        · rw [yfs]; exact stkNe _ (Nat.ne_of_gt I2.lt) (I2.nofs (Nat.le_refl _))
  exact codeAny_compStart_list (loop _ rfl) (T.self _ 0 _ _ _ (T.keep _ _ _ st2 fun b hb o e=>hsb b o (Heap.get?_push_of_some _ e)) (loop _ rfl))
section
variable {X : Cx} {elt tg iter : Expr} {ifs : List Expr} {scope : Scope} {pos : Pos} {N : List Str} {k : Nat} {cap : List Nat} {wi : TI} {tt : TTg} {tc : TT} {te : TE}
theorem lx (hc : X.calm = true) (S : CompOk scope X.env.scope N X.N k cap) (hi : PI X tg iter wi) (hg : ∀ cl C s H ex pn,PTg (bh X scope N cl C s H ex pn) k tg tt) (ht : ∀ cl C s H ex pn,PTs (bh X scope N cl C s H ex pn) ifs tc)
    (he : ∀ cl C s H ex pn,PE (bh X scope N cl C s H ex pn) elt te) (hs : ∀ x,foldedSetIterable iter X.env x = pure x:=by intro _; rfl) :
    PE X (.ListComp elt [⟨tg,iter,ifs,0⟩] scope pos) (io wi tt tc te cap):=by
  intro pins s σ H Q I h
  obtain ⟨cl,hclos,hcl1,hcl2⟩:=jh (scope:=scope) (env:=X.env) fun y hy hf=>I.ok.has y.1 (S.free y hy hf)
  rw [eval_ListComp]
  refine wpAny_comprehension_free (use:=none) rfl hs hclos S.kind S.loc ?_
  refine iO hc hi hg ht he S hcl1 hcl2 I h fun D C s1 H' I1 B q=>?_
  obtain ⟨m,hm⟩:=B.ns
  exact ⟨m,hm,fun h' sb=>⟨.ref D,H',B.turn I1 sb,rfl,q⟩⟩
theorem qh {i : Nat} {y : Str} {py spos : Pos} (hc : X.calm = true) (S : CompOk scope X.env.scope N X.N k cap) (hN : X.N.Nodup) (hiy : X.N[i]? = some y) (hy : X.env.scope.names.lookup y = some .local) (hi : PI X tg iter wi)
    (hg : ∀ cl C s H ex pn,PTg (bh X scope N cl C s H ex pn) k tg tt) (ht : ∀ cl C s H ex pn,PTs (bh X scope N cl C s H ex pn) ifs tc)
    (he : ∀ cl C s H ex pn,PE (bh X scope N cl C s H ex pn) elt te)
    (hsw : swapsWith (.ListComp elt [⟨tg,iter,ifs,0⟩] scope pos) (some (.Name y py)) spos.line X.env = pure true:=by rfl) (hs : ∀ x,foldedSetIterable iter X.env x = pure x:=by intro _; rfl) :
    PS X (.Assign [.Name y py] (.ListComp elt [⟨tg,iter,ifs,0⟩] scope pos) spos) (pT (io wi tt tc te cap) (dj i)):=by
  intro pins s σ H D I h
  obtain ⟨cl,hclos,hcl1,hcl2⟩:=jh (scope:=scope) (env:=X.env) fun y hy hf=>I.ok.has y.1 (S.free y hy hf)
  rw [exec_Assign_Name_used _ _ _ _ hsw]
  refine wpAny_bind (wpAny_standAt (wpAny_bind ?_))
  show wpAny _ X.A (do let _ ← comprehension (.ListComp elt [⟨tg,iter,ifs,0⟩] scope pos) scope X.env _ (newList []) false (eval iter X.env) (some (assign (.Name y py) X.env))) _ _ s
  refine wpAny_bind (wpAny_mono (wpAny_comprehension_free (use:=some (assign (.Name y py) X.env)) (Q:=fun _ s'=>SP X pins D .next s') rfl hs hclos S.kind S.loc ?_) (fun _ s' hq=>wpAny_pure (wpAny_pure hq)) fun _ _ e=>e)
  refine iO hc hi hg ht he S hcl1 hcl2 I h fun Da C s1 H' I1 B q=>?_
  show wpAny _ X.A (assign (.Name y py) X.env (.ref Da)) _ _ _
  refine wpAny_assign_Name (ii (v:=.ref Da) I1 hN hiy (.inl hy) rfl (fun s' I' z=>?_) (.inr hy))
  obtain ⟨a,hsb,ha⟩:=z
  have hCa : C ≠ a:=by
    rcases ha with rfl | ha
    · exact B.ne
    · exact fun e=>B.cells _ _ ha e.symm
  obtain ⟨m,hm⟩:=B.ns
  refine ⟨m,hm.sameBut hsb hCa,fun h' sb=>?_⟩
  exact ⟨_,H',I'.turned (t':=s'.toks) (fun b o hb e=>sb.extBut b o hb e) B.un B.ne (.inr B.new) B.cells B.pins,q⟩
end
abbrev Rel (α : Type):=Hp→α→V→Prop
def cg : Rel Int:=fun _ i v=>v = .int i
def r6 {α : Type} (R : Rel α) : Rel (Option α):=fun H o v=>match o with
  | none=>v = .non
  | some x=>R H x v
def jG {α : Type} (R : Rel α) : Rel (List α):=fun H xs v=>∃ a vs,v = .ref a∧H a = some (.lst vs)∧Paired (R H) xs vs
def rT2 {α β : Type} (R : Rel α) (S : Rel β) : Rel (α × β):=fun H p v=>∃ a x y,v = .ref a∧H a = some (.tup [x,y])∧R H p.1 x∧S H p.2 y
structure MonoR {α : Type} (R : Rel α) : Prop where
  go : ∀ (H H' : Hp) (x : α) (v : V),Same H H'→R H x v→R H' x v
theorem MonoR.up {α : Type} {R : Rel α} (m : MonoR R) {H H' : Hp} {x : α} {v : V} (s : Same H H') (h : R H x v) : R H' x v:=m.go H H' x v s h
theorem aQ : MonoR cg:=⟨fun _ _ _ _ _ h=>h⟩
theorem bi {α : Type} {R : Rel α} (m : MonoR R) {H H' : Hp} (s : Same H H') {xs : List α} {vs : List V} (p : Paired (R H) xs vs) : Paired (R H') xs vs:=Paired.mapP p fun _ _ q=>m.up s q
theorem gq {α : Type} {R : Rel α} (m : MonoR R) : MonoR (jG R):=⟨fun H H' x v s h=>by
  obtain ⟨a,vs,e,h1,p⟩:=h
  exact ⟨a,vs,e,s _ _ h1,bi m s p⟩⟩
theorem cw {α β : Type} {R : Rel α} {S : Rel β} (m : MonoR R) (n : MonoR S) : MonoR (rT2 R S):=⟨fun H H' x v s h=>by
  obtain ⟨a,x,y,e,h1,p,q⟩:=h
  exact ⟨a,x,y,e,s _ _ h1,m.up s p,n.up s q⟩⟩
theorem Paired.at {α β : Type} {F : α→β→Prop} : ∀ {xs : List α} {ys : List β} {i : Nat} {x : α},Paired F xs ys→xs[i]? = some x→∃ y,ys[i]? = some y∧F x y
  | _,_,_,_,.nil,e=>by simp at e
  | _,_,0,_,.cons r _,e=>by simp at e; subst e; exact ⟨_,rfl,r⟩
  | _,_,i + 1,x,.cons _ t,e=>by
    obtain ⟨u,h1,h2⟩:=Paired.at (i:=i) (x:=x) t (by simpa using e)
    exact ⟨u,by simpa using h1,h2⟩
theorem Paired.app {α β : Type} {F : α→β→Prop} : ∀ {xs xs' : List α} {ys ys' : List β},Paired F xs ys→Paired F xs' ys'→Paired F (xs ++ xs') (ys ++ ys')
  | _,_,_,_,.nil,s=>s
  | _,_,_,_,.cons r t,s=>.cons r (Paired.app t s)
section
variable {X : Cx}
def kindV (H : Hp) : V→String→Prop
  | .non,T=>T = "NoneType"
  | .bl _,T=>T = "bool"
  | .int _,T=>T = "int"
  | .str _,T=>T = "str"
  | .ref a,T=>(T = "list"∧((∃ xs,H a = some (.lst xs)) ∨ ∃ o xs,H a = some (.frz o (.lst xs)))) ∨ (T = "tuple"∧∃ xs,H a = some (.tup xs)) ∨ (T = "dict"∧∃ kvs,H a = some (.dK kvs))
  | _,_=>False
theorem kindV.ty {K : PySem.W.Frag} {H : Hp} {x : V} {T : String} (h : kindV H x T) : TyOf K H x (.type T):=by
  cases x with
  | non=>cases (show T = "NoneType" from h); exact .non
  | bl b=>cases (show T = "bool" from h); exact .bl b
  | int i=>cases (show T = "int" from h); exact .int i
  | str z=>cases (show T = "str" from h); exact .str z
  | ref a =>
    rcases h with ⟨rfl,⟨xs,e⟩ | ⟨o,xs,e⟩⟩ | ⟨rfl,xs,e⟩ | ⟨rfl,kvs,e⟩
    · exact .lst e
    · exact .frz e
    · exact .tup e
    · exact .dK e
  | _=>exact False.elim h
theorem nL {T : String} : dW X (.builtin "isinstance") (fun xs H Q=>∃ x S b,xs = [x,.ty T]∧kindV H x S∧PySem.W.kitOne X.K (.type S) (.type T) = some b∧Q (.bl b) H):=by
  intro pins s σ H xs us Q I r h
  obtain ⟨x,S,b,rfl,hk,e,q⟩:=h
  obtain ⟨u,c,rfl,ru,rc⟩:=r.two
  cases (show c = Value.type T from rc)
  exact mN I ru hk.ty e fun tk=>⟨.bl b,H,I.tok _,rfl,q⟩
theorem eV {K : PySem.W.Frag} (T : String) : PySem.W.kitOne K (.type T) (.type T) = some true:=by
  unfold PySem.W.kitOne
  rw [if_pos (by simp)]
theorem eO {K : PySem.W.Frag} : PySem.W.kitOne K (.type "int") (.type "bool") = some false:=rfl
end
def eS (scope psc : Scope) (N PN : List Str) (k : Nat) (cap : List Nat) : Bool :=
  (scope.kind == .function) && (N.length == k + cap.length) &&
  (scope.names.all fun y=>(y.2 != .cell) && (y.2 != .local || scope.names.lookup y.1 == some .local) &&
    (y.2 != .free || (scope.names.lookup y.1 == some .free && (psc.names.lookup y.1 == some .cell || psc.names.lookup y.1 == some .free)))) &&
  ((List.range cap.length).all fun j=>match N[k + j]?,cap[j]? with
    | some x,some i=>PN[i]? == some x && scope.names.lookup x == some .free
    | _,_=>false)
theorem eY {scope psc : Scope} {N PN : List Str} {k : Nat} {cap : List Nat} (h : eS scope psc N PN k cap = true) : CompOk scope psc N PN k cap:=by
  unfold eS at h
  simp only [Bool.and_eq_true] at h
  obtain ⟨⟨⟨h1,h2⟩,h3⟩,h4⟩:=h
  rw [List.all_eq_true] at h3 h4
  have q : ∀ y ∈ scope.names,y.2 ≠ .cell∧(y.2 = .local→scope.names.lookup y.1 = some .local)∧(y.2 = .free→scope.names.lookup y.1 = some .free∧(psc.names.lookup y.1 = some .cell ∨ psc.names.lookup y.1 = some .free)):=fun y hy=>by
    have:=h3 y hy
    simp only [Bool.and_eq_true,Bool.or_eq_true,bne_iff_ne,beq_iff_eq] at this
    obtain ⟨⟨a,b⟩,c⟩:=this
    exact ⟨a,fun e=>b.elim (fun z=>absurd e z) id,fun e=>c.elim (fun z=>absurd e z) id⟩
  refine ⟨by simpa using h1,by simpa using h2,fun y hy=>(q y hy).1,fun y hy=>(q y hy).2.1,fun y hy e=>((q y hy).2.2 e).2,fun j hj=>?_,fun y hy e=>((q y hy).2.2 e).1⟩
  have:=h4 j hj
  split at this
  · rename_i x i e1 e2
    simp only [Bool.and_eq_true,beq_iff_eq] at this
    exact ⟨x,i,e1,e2,this.1,this.2⟩
  · cases this
section
variable {X : Cx} {elt tg iter : Expr} {ifs : List Expr} {scope : Scope} {pos : Pos} {wi : TI} {tt : TTg} {tc : TT} {te : TE}
theorem jL (psc : Scope) (PN N : List Str) (k : Nat) (cap : List Nat) (hi : PI X tg iter wi) (hg : ∀ cl C s H ex pn,PTg (bh X scope N cl C s H ex pn) k tg tt) (ht : ∀ cl C s H ex pn,PTs (bh X scope N cl C s H ex pn) ifs tc)
    (he : ∀ cl C s H ex pn,PE (bh X scope N cl C s H ex pn) elt te) (hc : X.calm = true:=by rfl) (h1 : X.env.scope = psc:=by rfl) (h2 : X.N = PN:=by rfl) (S : eS scope psc N PN k cap = true:=by decide +kernel)
    (hs : ∀ x,foldedSetIterable iter X.env x = pure x:=by intro _; rfl) :
    PE X (.ListComp elt [⟨tg,iter,ifs,0⟩] scope pos) (io wi tt tc te cap):=lx hc (by rw [h1,h2]; exact eY S) hi hg ht he hs
theorem q5 {i : Nat} {y : Str} {py spos : Pos} (psc : Scope) (PN N : List Str) (k : Nat) (cap : List Nat) (hN : X.N.Nodup) (hiy : X.N[i]? = some y) (hy : X.env.scope.names.lookup y = some .local) (hi : PI X tg iter wi)
    (hg : ∀ cl C s H ex pn,PTg (bh X scope N cl C s H ex pn) k tg tt) (ht : ∀ cl C s H ex pn,PTs (bh X scope N cl C s H ex pn) ifs tc)
    (he : ∀ cl C s H ex pn,PE (bh X scope N cl C s H ex pn) elt te) (hc : X.calm = true:=by rfl) (h1 : X.env.scope = psc:=by rfl) (h2 : X.N = PN:=by rfl) (S : eS scope psc N PN k cap = true:=by decide +kernel)
    (hsw : swapsWith (.ListComp elt [⟨tg,iter,ifs,0⟩] scope pos) (some (.Name y py)) spos.line X.env = pure true:=by rfl) (hs : ∀ x,foldedSetIterable iter X.env x = pure x:=by intro _; rfl) :
    PS X (.Assign [.Name y py] (.ListComp elt [⟨tg,iter,ifs,0⟩] scope pos) spos) (pT (io wi tt tc te cap) (dj i)):=qh hc (by rw [h1,h2]; exact eY S) hN hiy hy hi hg ht he hsw hs
end
structure Dn (P : Program) (w : World) (K : PySem.W.Frag) (mg : Str→Option Value) (base : Heap) (x : Str) (n : Nat) (ps : List Str) (sp : Sp) : Prop where
  ex : ∃ f fd,FnOk P w K mg base CX0 n f fd ps sp∧mg x = some (.ref f)∧PySem.W.keepIn K (.ref f) = true∧Binds K fd ps []
structure DefAt (K : PySem.W.Frag) (mg : Str→Option Value) (x : Str) (st : Stmt) (ps : List Str) : Prop where
  ex : ∃ f fd,Fun K x x st f fd∧mg x = some (.ref f)∧Binds K fd ps []
section
variable {P : Program} {w : World} {K : PySem.W.Frag} {mg : Str→Option Value} {base : Heap}
theorem DefAt.ok {x : Str} {st : Stmt} {N ps : List Str} {k : Nat} {sp : Sp} (F : DefAt K mg x st ps) (S : FnScope N ps (af st)) (len : ∀ vs H Q E,sp vs H Q E→vs.length = ps.length)
    (hbody : ∀ (f : Addr) (cdv : Value) (A : Around) (outer : List Env) (s : Shared) (H : Hp) (vs : List V) (Q : VK) (E : XK),Room k (A.deeper (envOfC x (af st) s.heap.objs.size f cdv))→sp vs H Q E →
      ∃ t,PSs (eH CX0 P w K mg base N x (af st) f cdv A outer s H E).nox (aX st) t∧t { nx:=fun _ H'=>Q .non H',rt:=Q } (start N vs) H) : Dn P w K mg base x (k + 1) ps sp:=by
  obtain ⟨f,fd,F,hm,hb⟩:=F.ex
  exact ⟨f,fd,F.ok S len fun cdv A outer s H vs Q E=>hbody f cdv A outer s H vs Q E,hm,F.kp,hb⟩
end
theorem az {X : Cx} {x : Str} {n k : Nat} {ps : List Str} {sp : Sp} {e : Expr} {es : List Expr} {t : TA} {p pos : Pos} (D : Dn X.prog X.w X.K X.mg X.base x n ps sp) (hr : Room k X.A) (ha : PA X (e :: es) t) (hk : n ≤ k:=by decide) (hg : Gl X x:=by rfl)
    (hdb : (x == ("__debug__" : Str)) = false:=by decide) (he : starEach (e :: es) X.env = (false,eval e X.env) :: starEach es X.env:=by rfl) (hpl : (backTo pos (starEach es X.env)).any (·.1) = false:=by rfl) :
    PE X (.Call (.Name x p) (e :: es) [] pos) (q0 sp [] E0 t):=by
  obtain ⟨f,fd,F,hm,kp,hb⟩:=D.ex
  exact qz F (hr.mono hk) hg hm kp hb .nil lu ha hdb he hpl
theorem iW {A : Around} {k : Nat} (hr : Room k A) (n : Nat) (h : n ≤ 64:=by decide) : A.units + n < cLine:=Nat.lt_of_le_of_lt (Nat.add_le_add_left h _) hr.units
def sU (t u : TS) : TS:=fun D σ H=>∃ M : St→Hp→Prop,t { D with nx:=M } σ H∧∀ σ' H',M σ' H'→u D σ' H'
theorem fO {X : Cx} {st : Stmt} {rest : List Stmt} {t u : TS} (h1 : PS X st t) (h2 : PSs X rest u) : PSs X (st :: rest) (sU t u):=by
  intro pins s σ H D I h
  obtain ⟨M,h,k⟩:=h
  refine wpAny_execs_cons (thn (h1 pins s σ H { D with nx:=M } I h) fun f s1 q=>?_)
  cases f with
  | next =>
    obtain ⟨σ',H',I',q⟩:=q
    exact h2 pins s1 σ' H' D I' (k σ' H' q)
  | ret v=>exact q
  | brk=>exact q
  | cont=>exact q
def fq (H H' : Hp) : Hp:=fun b=>match H b with
  | none=>H' b
  | some _=>none
theorem mz (H H' : Hp) : Same (fq H H') H':=fun b o e=>by
  unfold fq at e
  cases q : H b with
  | none=>rw [q] at e; exact e
  | some u=>rw [q] at e; cases e
theorem iM {H H' : Hp} {b : Addr} {o : HO} (h : H b = some o) : fq H H' b = none:=by unfold fq; rw [h]
theorem db {H H' : Hp} {b : Addr} (h : H b = none) : fq H H' b = H' b:=by unfold fq; rw [h]
theorem fv {H H1 H' H2 : Hp} (a : Same H H1) (b : Same H' H2) : Same (fq H1 H') (fq H H2):=fun c o e=>by
  cases q : H1 c with
  | some u=>rw [iM q] at e; cases e
  | none =>
    rw [db q] at e
    rw [db (a.free q)]
    exact b c o e
theorem ah {H : Hp} {p : Addr} (h : H p = none) (o : HO) : Same H (upd H p o):=fun b u q=>by rw [aq (ay q h)]; exact q
theorem Same.put {Hs H : Hp} {p : Addr} (s : Same Hs H) (h : Hs p = none) (o : HO) : Same Hs (upd H p o):=fun b u q=>by
  rw [aq (ay q h)]; exact s b u q
theorem di {n m : Nat} (h : n ≤ m) (hm : m ≤ 1000000:=by decide) : n ≤ sizeLine:=Nat.le_trans h (Nat.le_trans hm (by decide))
theorem eG {x : V} {H : Hp} {f : List V→St} {A B : List V→Hp→Prop} (h : A [x] H) : nz x H fun ws=>rP (f ws) H fun b H4=>if b = true then A ws H4 else B ws H4:=by
  show if true = true then A [x] H else B [x] H
  rw [if_pos rfl]; exact h
theorem fj {K : PySem.W.Frag} {n : Nat} {a : Addr} {xs : List V} {H : Hp} {f : List V→St} {A B : List V→Hp→Prop} (hq : SqT K H a xs) (hn : xs.length = n) (h : A xs H) : nu K n (.ref a) H fun ws=>rP (f ws) H fun b H4=>if b = true then A ws H4 else B ws H4:=by
  refine ⟨a,xs,rfl,hq,hn,?_⟩
  show if true = true then A xs H else B xs H
  rw [if_pos rfl]; exact h
theorem kX : ∀ {vs : List Value} {ns : List Int},IntsAre vs ns→Vals (ns.map V.int) vs
  | _,_,.nil=>.nil
  | _,_,.cons _ t r=>.cons ⟨t,rfl⟩ (kX r)
section
variable {prog : Program} {w : World} {A : Around} {E : Value→Shared→Prop} {s : Shared} {T : String} {r d : Addr} {n : Nat} {P : Nat→Value→Prop} {OK : Heap→Prop} {Q : Value→Shared→Prop}
end
section
variable {X : Cx}
end
def Ris (xs : List Nat) : Prop:=xs.Pairwise (· < ·)
theorem Ris.lt {xs : List Nat} (h : Ris xs) {i j a b : Nat} (hij : i < j) (ha : xs[i]? = some a) (hb : xs[j]? = some b) : a < b:=by
  obtain ⟨h1,e1⟩:=List.getElem?_eq_some_iff.mp ha
  obtain ⟨h2,e2⟩:=List.getElem?_eq_some_iff.mp hb
  have:=List.pairwise_iff_getElem.mp h i j h1 h2 hij
  rw [e1,e2] at this; exact this
theorem gN (xs : Array Nat) (hr : Ris xs.toList) (j : Nat) : ∀ (fuel lo hi : Nat),hi - lo ≤ fuel→lo ≤ hi→hi ≤ xs.size→(∀ (i v : Nat),i < lo→xs.toList[i]? = some v→v < j)→(∀ (i v : Nat),hi ≤ i→xs.toList[i]? = some v→j ≤ v) →
    SetTable.below.go xs j fuel lo hi ≤ xs.size∧(∀ (i v : Nat),i < SetTable.below.go xs j fuel lo hi→xs.toList[i]? = some v→v < j)∧∀ (i v : Nat),SetTable.below.go xs j fuel lo hi ≤ i→xs.toList[i]? = some v→j ≤ v
  | 0,lo,hi,h1,h2,h3,h4,h5=>by
    have e : lo = hi:=by omega
    subst e
    exact ⟨h3,h4,h5⟩
  | fuel + 1,lo,hi,h1,h2,h3,h4,h5=>by
    rw [SetTable.below.go]
    by_cases hl : lo < hi
    · rw [if_pos hl]
      have hm : (lo + hi) / 2 < xs.size:=by (clear h1 h2 h4 h5; omega)
      have hg : xs.toList[(lo + hi) / 2]? = some (xs.getD ((lo + hi) / 2) j):=by
        rw [Array.getElem?_toList,Array.getElem?_eq_getElem hm]
        simp [Array.getD,hm]
      dsimp only
      by_cases hc : xs.getD ((lo + hi) / 2) j < j
      · rw [if_pos hc]
        refine gN xs hr j fuel _ _ (by (clear h5 hl hm hc h3 h4 h2; omega)) (by (clear h1 h2 h3 h4 hm hc h5; omega)) h3 (fun i v hi' hv=>?_) h5
        by_cases e : i = (lo + hi) / 2
        · subst e; rw [hg] at hv; cases hv; exact hc
        · exact Nat.lt_trans (hr.lt (by (clear h1 h2 h3 h4 h5 hl hm hc; omega)) hv hg) hc
      · rw [if_neg hc]
        refine gN xs hr j fuel _ _ (by (clear h5 hl hm hc h3 h4 h2; omega)) (by (clear h1 h2 h3 h4 hm hc h5; omega)) (by (clear h1 h2 h3 h4 h5 hl hc; omega)) h4 (fun i v hi' hv=>?_)
        by_cases e : i = (lo + hi) / 2
        · subst e; rw [hg] at hv; cases hv; (clear h1 h2 h3 h4 h5 hi' hl hm; omega)
        · have:=hr.lt (by (clear h1 h2 h3 h4 h5 hl hm hc; omega) : (lo + hi) / 2 < i) hg hv; (clear h1 h2 h3 h4 h5 hl hi' e hm; omega)
    · rw [if_neg hl]
      have e : lo = hi:=by (clear h3 h4 h1 h5; omega)
      subst e
      exact ⟨h3,h4,h5⟩
theorem dX (xs : Array Nat) (hr : Ris xs.toList) (j : Nat) : SetTable.below xs j ≤ xs.size∧(∀ (i v : Nat),i < SetTable.below xs j→xs.toList[i]? = some v→v < j)∧∀ (i v : Nat),SetTable.below xs j ≤ i→xs.toList[i]? = some v→j ≤ v :=
  gN xs hr j xs.size 0 xs.size (by omega) (Nat.zero_le _) (Nat.le_refl _) (fun i v h=>by omega) (fun i v h e=>by
    have:=(List.getElem?_eq_some_iff.mp e).1
    rw [Array.length_toList] at this; omega)
theorem jI {xs : Array Nat} (hr : Ris xs.toList) {k v : Nat} (h : xs.toList[k]? = some v) : SetTable.below xs (v + 1) = k + 1:=by
  obtain ⟨h1,h2,h3⟩:=dX xs hr (v + 1)
  have hk:=(List.getElem?_eq_some_iff.mp h).1
  rw [Array.length_toList] at hk
  rcases Nat.lt_trichotomy (SetTable.below xs (v + 1)) (k + 1) with hlt | he | hgt
  · have:=h3 k v (by omega) h; omega
  · exact he
  · have hk1 : k + 1 < xs.size:=by omega
    obtain ⟨u,hu⟩ : ∃ u,xs.toList[k + 1]? = some u:=⟨xs[k + 1],by rw [Array.getElem?_toList,Array.getElem?_eq_getElem hk1]⟩
    have a:=h2 (k + 1) u hgt hu
    have b:=hr.lt (Nat.lt_succ_self k) h hu
    (clear h1 h2 h3 hk hgt hk1; omega)
theorem gM {xs : Array Nat} (hr : Ris xs.toList) : SetTable.below xs 0 = 0:=by
  obtain ⟨h1,h2,_⟩:=dX xs hr 0
  cases e : SetTable.below xs 0 with
  | zero=>rfl
  | succ k =>
    have hk : 0 < xs.size:=by omega
    have:=h2 0 xs[0] (by omega) (by rw [Array.getElem?_toList,Array.getElem?_eq_getElem hk])
    omega
theorem kg {xs : Array Nat} (hr : Ris xs.toList) {j : Nat} (hn : xs[SetTable.below xs j]? ≠ some j) : Ris (SetTable.insertAt xs (SetTable.below xs j) j).toList:=by
  obtain ⟨h1,h2,h3⟩:=dX xs hr j
  rw [SetTable.toList_insertAt]
  have hlt : ∀ a ∈ xs.toList.take (SetTable.below xs j),a < j:=fun a ha=>by
    obtain ⟨i,hi⟩:=List.getElem?_of_mem ha
    have hi' : i < SetTable.below xs j:=by
      have:=(List.getElem?_eq_some_iff.mp hi).1
      rw [List.length_take] at this; omega
    rw [List.getElem?_take_of_lt hi'] at hi
    exact h2 i a hi' hi
  have hgt : ∀ b ∈ xs.toList.drop (SetTable.below xs j),j < b:=fun b hb=>by
    obtain ⟨i,hi⟩:=List.getElem?_of_mem hb
    rw [List.getElem?_drop] at hi
    have hle:=h3 _ b (Nat.le_add_right _ i) hi
    rcases Nat.lt_or_eq_of_le hle with z | z
    · exact z
    · subst z
      exfalso
      cases i with
      | zero=>rw [Nat.add_zero,Array.getElem?_toList] at hi; exact hn hi
      | succ i =>
        obtain ⟨u,hu⟩ : ∃ u,xs.toList[SetTable.below xs j]? = some u:=by
          have hs:=(List.getElem?_eq_some_iff.mp hi).1
          have : SetTable.below xs j < xs.toList.length:=by (clear hn h1 h2 h3 hlt hle; omega)
          exact ⟨xs.toList[SetTable.below xs j],by simp⟩
        have a:=h3 _ u (Nat.le_refl _) hu
        have b:=hr.lt (by omega : SetTable.below xs j < SetTable.below xs j + (i + 1)) hu hi
        omega
  refine List.pairwise_append.mpr ⟨hr.sublist (List.take_sublist _ _),List.pairwise_cons.mpr ⟨hgt,hr.sublist (List.drop_sublist _ _)⟩,fun a ha b hb=>?_⟩
  rcases List.mem_cons.mp hb with rfl | hb
  · exact hlt a ha
  · exact Nat.lt_trans (hlt a ha) (hgt b hb)
structure Tab (led : Bool) (t : SetTable) : Prop where
  led : t.led = led
  dum : t.dummies = #[]
  ris : Ris t.place.toList
theorem Tab.standIn {led : Bool} {t : SetTable} (h : Tab led t) (n : Nat) : Tab led (t.standIn n):=⟨h.led,rfl,by
  show Ris (Array.range n).toList
  rw [Array.toList_range]
  exact List.pairwise_lt_range⟩
theorem lQ (j : Nat) : SetTable.has #[] j = false:=by
  unfold SetTable.has
  simp
theorem lO (t : SetTable) (j : Nat) : t.slot j = if (t.place[SetTable.below t.place j]? == some j) = true then .live (SetTable.below t.place j) else if SetTable.has t.dummies j = true then .dummy else .empty:=rfl
theorem fX {t : SetTable} (hd : t.dummies = #[]) (f : Nat→Int) (h : Int) : ∀ (fuel : Nat) (p : SetTable.Probe) (j : Nat) (d : Option Nat),p.dummy = none→SetTable.probe.go t f h fuel p = some (.empty j d)→d = none∧t.place[SetTable.below t.place j]? ≠ some j
  | 0,p,j,d,_,e=>by rw [SetTable.probe.go] at e; cases e
  | fuel + 1,p,j,d,hp,e=>by
    rw [SetTable.probe.go] at e
    have hadv : (t.advance p).dummy = none:=by
      unfold SetTable.advance
      split
      · exact hp
      · exact hp
    split at e
    · rename_i hs
      cases e
      refine ⟨hp,fun hc=>?_⟩
      rw [lO,hc] at hs
      simp at hs
    · rename_i hs
      rw [lO,hd,lQ] at hs
      exfalso
      by_cases hb : (t.place[SetTable.below t.place p.j]? == some p.j) = true
      · rw [if_pos hb] at hs; cases hs
      · rw [if_neg hb] at hs; simp at hs
    · split at e
      · cases e
      · exact fX hd f h fuel _ j d hadv e
theorem Tab.layNew {led : Bool} {t : SetTable} (T : Tab led t) (es : Array (Int × Value)) (h : Int) (x : Value) : Tab led (layNew t es h x).2.1:=by
  unfold PySem.layNew
  cases e : t.freeSlot h with
  | none=>exact T.standIn _
  | some sw =>
    obtain ⟨slot,wd⟩:=sw
    dsimp only
    have key : Tab led (t.put slot).1:=by
      have hne : t.place[SetTable.below t.place slot]? ≠ some slot:=by
        unfold SetTable.freeSlot at e
        split at e
        · rename_i j d hp
          cases e
          unfold SetTable.probe at hp
          obtain ⟨e1,e2⟩:=fX T.dum _ _ _ _ _ _ rfl hp
          subst e1
          exact e2
        · cases e
      refine ⟨T.led,?_,kg T.ris hne⟩
      show (if SetTable.has t.dummies slot then _ else t.dummies) = #[]
      rw [T.dum,lQ]; rfl
    unfold SetTable.orStandIn
    split
    · exact key
    · exact key.standIn _
theorem dR (f : Nat→Option Nat) (n : Nat) : Ris (((List.range n).filterMap fun j=>(f j).map fun k=>(j,k)).map (·.1)):=by
  have : Ris (((List.range n).filterMap fun j=>(f j).map fun k=>(j,k)).map (·.1)):=by
    have e : ((List.range n).filterMap fun j=>(f j).map fun k=>(j,k)).map (·.1) = (List.range n).filter fun j=>(f j).isSome:=by
      induction (List.range n) with
      | nil=>rfl
      | cons a r ih =>
        cases h : f a with
        | none=>simp [List.filterMap_cons,h,ih]
        | some k=>simp [List.filterMap_cons,h,ih]
    rw [e]
    exact List.pairwise_lt_range.sublist List.filter_sublist
  exact this
theorem Tab.relay {led : Bool} {t : SetTable} (T : Tab led t) (es : Array (Int × Value)) (wanted : Nat) : Tab led (relayAll t es wanted).2.1:=by
  unfold relayAll
  cases e : t.relaid (es.map (·.1)) wanted with
  | none=>exact T.standIn _
  | some q =>
    obtain ⟨t',order⟩:=q
    dsimp only
    split
    · unfold SetTable.relaid SetTable.laid at e
      cases e2 : SetTable.layClean (SetTable.sizeAbove wanted - 1) (es.map (·.1)) with
      | none=>rw [e2] at e; cases e
      | some owner =>
        rw [e2] at e
        cases e
        refine ⟨T.led,rfl,?_⟩
        have:=dR (fun j=>owner.getD j none) (SetTable.sizeAbove wanted - 1 + 1)
        simpa using this
    · exact T.standIn _
def SetI (P : Program) (w : World) (h : Heap) (a : Addr) (led : Bool) (ks : List Int) : Prop :=
  ∃ (o : Obj) (es : Array (Int × Value)) (ep : Nat) (t : SetTable) (ns : List Int),h.get? a = some o∧o.ExactSet∧o.data = .set es ep t∧ElemsOf (intKind P w) es.toList∧IntsAre (es.toList.map (·.2)) ns∧ns.Nodup∧(∀ k,k ∈ ns ↔ k ∈ ks) ∧
    es.size < scanBound∧t.fits es.size = true∧Tab led t
theorem SetI.keep {P : Program} {w : World} {h h' : Heap} {a : Addr} {led : Bool} {ks : List Int} (S : SetI P w h a led ks) (k : ∀ o,h.get? a = some o→h'.get? a = some o) : SetI P w h' a led ks:=by
  obtain ⟨o,es,ep,t,ns,e,r⟩:=S
  exact ⟨o,es,ep,t,ns,k o e,r⟩
theorem iC : ∀ {l l' : List Value} {ns : List Int},l'.Perm l→IntsAre l ns→∃ ns',IntsAre l' ns'∧ns'.Perm ns:=by
  intro l l' ns hp
  induction hp generalizing ns with
  | nil=>intro h; exact ⟨ns,h,.refl _⟩
  | cons x _ ih =>
    intro h
    cases h with
    | cons n t r =>
      obtain ⟨ns',h1,h2⟩:=ih r
      exact ⟨n :: ns',.cons n t h1,h2.cons n⟩
  | swap x y l =>
    intro h
    cases h with
    | cons n t r =>
      cases r with
      | cons m u r=>exact ⟨m :: n :: _,.cons m u (.cons n t r),.swap n m _⟩
  | trans _ _ ih1 ih2 =>
    intro h
    obtain ⟨n1,a1,a2⟩:=ih2 h
    obtain ⟨n2,b1,b2⟩:=ih1 a1
    exact ⟨n2,b1,b2.trans a2⟩
theorem cT {l l' : List (Int × Value)} {ns : List Int} (hp : l'.Perm l) (h : IntsAre (l.map (·.2)) ns) : ∃ ns',IntsAre (l'.map (·.2)) ns'∧ns'.Perm ns:=iC (hp.map _) h
theorem cW : ∀ (l1 l2 : List Int),l1.Nodup→(∀ x ∈ l1,x ∈ l2)→l1.length ≤ l2.length
  | [],_,_,_=>Nat.zero_le _
  | x :: l1,l2,hn,hs=>by
    have hx : x ∈ l2:=hs x List.mem_cons_self
    have hxn:=(List.nodup_cons.mp hn).1
    have:=cW l1 (l2.erase x) (List.nodup_cons.mp hn).2 fun y hy=>(List.mem_erase_of_ne (fun e=>by subst e; exact hxn hy)).mpr (hs y (List.mem_cons_of_mem _ hy))
    rw [List.length_erase_of_mem hx] at this
    have hp : 0 < l2.length:=List.length_pos_of_mem hx
    rw [List.length_cons]; omega
theorem iz {k : Int} {t : Tok} : ∀ {vs : List Value} {ns : List Int},IntsAre vs ns→IntsAre (vs ++ [.int k t]) (ns ++ [k])
  | _,_,.nil=>.cons k t .nil
  | _,_,.cons n u r=>.cons n u (iz r)
theorem ff {P : Program} {w : World} {k : Int} : ∀ {l : List (Int × Value)} {ns : List Int},IntsAre (l.map (·.2)) ns→((∃ e ∈ l,(intKind P w).is k e.2 = true) ↔ k ∈ ns)
  | [],_,h=>by cases h; simp
  | (hh,v) :: l,_,h=>by
    cases h with
    | cons n t r =>
      have ih:=ff (P:=P) (w:=w) (k:=k) r
      rw [List.mem_cons,← ih]
      constructor
      · rintro ⟨e,he,q⟩
        rcases List.mem_cons.mp he with rfl | he
        · obtain ⟨u,z⟩:=Value.isInt_shape (k:=k) (v:=Value.int n t) q
          injection z with z _
          exact .inl z.symm
        · exact .inr ⟨e,he,q⟩
      · rintro (rfl | ⟨e,he,q⟩)
        · exact ⟨_,List.mem_cons_self,by simp [intKind,Value.isInt]⟩
        · exact ⟨e,List.mem_cons_of_mem _ he,q⟩
theorem stored {h : Heap} {a : Addr} {ob : Obj} {es : Array (Int × Value)} {ep : Nat} {t : SetTable} (ho : h.get? a = some ob) (hd : ob.data = .set es ep t) (es2 : Array (Int × Value)) (t2 : SetTable) :
    (h.update a (Obj.putSet es2 t2)).get? a = some { ob with data:=.set es2 (ep + 1) t2 }:=by
  have z:=Heap.get?_update_self (Obj.putSet es2 t2) ho (by rw [putSet_of es2 t2 hd]; rfl)
  rwa [putSet_of es2 t2 hd] at z
section
variable {P : Program} {w : World} {A : Around} {E : Value→Shared→Prop}
theorem j3 {s : Shared} {g : Bool→Sem Unit} (hg : ∀ (b : Bool) (s1 : Shared) (Q1 : Unit→Shared→Prop),Q1 () s1→wpAny (model P w) A (g b) Q1 E s1) {a : Addr} {ob : Obj} {es : Array (Int × Value)} {ep : Nat} {t : SetTable}
    (ho : s.heap.get? a = some ob) (hex : ob.ExactSet) (hd : ob.data = .set es ep t) {led : Bool} {ks : List Int} {es1 : Array (Int × Value)} {t2 : SetTable} {ns : List Int} (hel : ElemsOf (intKind P w) es1.toList)
    (hi : IntsAre (es1.toList.map (·.2)) ns) (nd : ns.Nodup) (hm : ∀ k,k ∈ ns ↔ k ∈ ks) (hb : es1.size < scanBound) (hf : t2.fits es1.size = true) (hT : Tab led t2) {wd : Bool} {R : Option Bool→Shared→Prop}
    (h : ∀ h',Heap.SameBut a s.heap h'→SetI P w h' a led ks→R (some true) { s with heap:=h' }) :
    wpAny (model P w) A (storeSet a es1 t2 >>= fun _=>if (!wd && t2.tooFull) = true then (g (relayAll t2 es1 (SetTable.grown es1.size)).2.2 >>= fun _ =>
      storeSet a (relayAll t2 es1 (SetTable.grown es1.size)).1 (relayAll t2 es1 (SetTable.grown es1.size)).2.1 >>= fun _=>pure (some true)) else pure (some true)) R E s:=by
  refine wpAny_bind (wpAny_storeSet_of ho hd ?_ (fits_of_scanBound hb))
  have g1:=stored ho hd es1 t2
  have sb:=Heap.SameBut.update s.heap a (Obj.putSet es1 t2)
  have S1 : SetI P w (s.heap.update a (Obj.putSet es1 t2)) a led ks:=⟨_,es1,ep + 1,t2,ns,g1,hex,rfl,hel,hi,nd,hm,hb,hf,hT⟩
  by_cases hc : (!wd && t2.tooFull) = true
  · rw [if_pos hc]
    have pm:=relayAll_perm t2 es1 (SetTable.grown es1.size)
    have ft:=relayAll_fits t2 es1 (SetTable.grown es1.size)
    have T3:=hT.relay es1 (SetTable.grown es1.size)
    generalize relayAll t2 es1 (SetTable.grown es1.size) = q at pm ft T3 ⊢
    obtain ⟨es2,t3,gv⟩:=q
    dsimp only at pm ft T3 ⊢
    obtain ⟨ns2,i2,p2⟩:=cT pm hi
    have sz : es2.size = es1.size:=by rw [← Array.length_toList,pm.length_eq,Array.length_toList]
    have hb2 : es2.size < scanBound:=by omega
    refine wpAny_bind (hg _ _ _ (wpAny_bind (wpAny_storeSet_of g1 rfl ?_ (fits_of_scanBound hb2))))
    have g2:=stored g1 rfl es2 t3
    refine wpAny_pure (h _ (sb.trans (Heap.SameBut.update _ a _)) ⟨_,es2,ep + 1 + 1,t3,ns2,g2,hex,rfl,hel.perm pm,i2,p2.symm.nodup nd,fun k=>(p2.mem_iff).trans (hm k),hb2,ft,T3⟩)
  · rw [if_neg hc]
    exact wpAny_pure (h _ sb S1)
theorem o5 {s : Shared} {a : Addr} {led : Bool} {ks : List Int} {k : Int} {tk : Tok} {Q : Bool→Shared→Prop} (S : SetI P w s.heap a led ks) (hroom : ks.length + 1 < scanBound)
    (h : ∀ b h',Heap.SameBut a s.heap h'→SetI P w h' a led (ks ++ [k])→Q b { s with heap:=h' }) :
    wpAny (model P w) A (setAddHashed a (.int k tk) ((intKind P w).hash k)) Q E s:=by
  obtain ⟨ob,es,ep,t,ns,ho,hex,hd,hel,hi,nd,hm,hb,hf,hT⟩:=S
  have hkey : (intKind P w).is k (.int k tk) = true:=intKind_is _ _ _ _
  have hsc : (Value.int k tk).scannable = true:=rfl
  have hsub : ns.length ≤ ks.length:=cW ns ks nd fun x hx=>(hm x).mp hx
  have hes : es.size = ns.length:=by
    have:=hi.length
    rw [List.length_map,Array.length_toList] at this; exact this
  unfold setAddHashed setAddHashedIn
  refine wpAny_holding (wpAny_bind (wpAny_setState_of ho hd hf ?_))
  dsimp only
  rw [byScan_of hsc hb hel]
  simp only [↓reduceIte]
  unfold setAddByScan
  refine wpAny_bind (wpAny_bind (wpAny_rule (wpAny_bind (wpAny_setScan_of hkey ho hd hf hel ?_))))
  cases hr : List.findIdx? (fun e=>(intKind P w).is k e.2) es.toList with
  | some j =>
    dsimp only
    obtain ⟨hj,hpj,_⟩:=List.findIdx?_eq_some_iff_getElem.mp hr
    have hin : k ∈ ns:=(ff (P:=P) (w:=w) hi).mp ⟨es.toList[j],List.getElem_mem hj,hpj⟩
    refine wpAny_pure (wpAny_pure ?_)
    have z:=h false s.heap (Heap.SameBut.refl a s.heap) ⟨ob,es,ep,t,ns,ho,hex,hd,hel,hi,nd,fun x=>?_,hb,hf,hT⟩
    · exact z
    · rw [List.mem_append,List.mem_singleton,hm x]
      exact ⟨.inl,fun q=>q.elim id fun e=>by subst e; exact (hm _).mp hin⟩
  | none =>
    dsimp only
    have hnin : k ∉ ns:=fun hk=>by
      obtain ⟨e,he,q⟩:=(ff (P:=P) (w:=w) hi).mpr hk
      have:=List.findIdx?_eq_none_iff.mp hr e he
      rw [q] at this; cases this
    have hgw : ∀ (b : Bool) (s1 : Shared) (Q1 : Unit→Shared→Prop),Q1 () s1→wpAny (model P w) A (match b with | true=>rule "set.scan.the-table-gave-way" | false=>pure ()) Q1 E s1:=fun b s1 Q1 hq=>by
      cases b
      · exact wpAny_pure hq
      · exact wpAny_rule hq
    have pm:=layNew_perm t es ((intKind P w).hash k) (.int k tk)
    have ft:=layNew_fits t es ((intKind P w).hash k) (.int k tk)
    have T1:=hT.layNew es ((intKind P w).hash k) (.int k tk)
    generalize layNew t es ((intKind P w).hash k) (.int k tk) = q at pm ft T1 ⊢
    obtain ⟨es1,t1,wd,gv⟩:=q
    dsimp only at pm ft T1 ⊢
    rw [Array.toList_push] at pm
    have hel1 : ElemsOf (intKind P w) es1.toList:=(hel.push hkey hsc).perm pm
    obtain ⟨ns1,i1,p1⟩:=cT pm (ns:=ns ++ [k]) (by rw [List.map_append]; exact iz hi)
    have nd1 : ns1.Nodup:=p1.symm.nodup (List.nodup_append.mpr ⟨nd,by simp,fun x hx y hy=>by
      have : y = k:=by simpa using hy
      subst this
      exact fun e=>hnin (e ▸ hx)⟩)
    have hm1 : ∀ x,x ∈ ns1 ↔ x ∈ ks ++ [k]:=fun x=>by rw [p1.mem_iff,List.mem_append,List.mem_append,hm x]
    have sz1 : es1.size = es.size + 1:=by rw [← Array.length_toList,pm.length_eq,List.length_append,Array.length_toList]; rfl
    have hb1 : es1.size < scanBound:=by omega
    refine wpAny_bind (hgw _ _ _ ?_)
    have fin : ∀ h',Heap.SameBut a s.heap h'→SetI P w h' a led (ks ++ [k])→Q true { s with heap:=h' }:=fun h' sb S'=>h true h' sb S'
    split
    · refine wpAny_bind ?_
      rw [hashByValue_scannable 8 hsc]
      refine wpAny_pure ?_
      have e1 : plainKind (Value.int k tk) = true:=rfl
      rw [e1]
      refine j3 (g:=fun b=>match b with | true=>rule "set.scan.the-table-gave-way" | false=>pure ()) hgw ho hex hd hel1 i1 nd1 hm1 hb1 ft T1 fun h' sb S'=>?_
      exact wpAny_pure (fin h' sb S')
    · refine wpAny_bind (wpAny_pure ?_)
      refine j3 (g:=fun b=>match b with | true=>rule "set.scan.the-table-gave-way" | false=>pure ()) hgw ho hex hd hel1 i1 nd1 hm1 hb1 ft T1 fun h' sb S'=>?_
      exact wpAny_pure (fin h' sb S')
end
end L2
namespace PySem
section
variable {prog : Program} {w : World} {A : Around} {E : Value→Shared→Prop} {s : Shared}
theorem j4 (v : Value) {Qn : Value→Shared→Prop}
    (h : Qn (.ref s.heap.objs.size) { s with heap:=s.heap.push { cls:=.type "set",dict:=none,data:=.set #[] 0 (.fresh 0 0 (!w.params.followText "set-order")) } }) :
    codeAny (model prog w) A (.call (.builtin "set.__new__") ⟨[.type "set",v],[]⟩) (wants Qn E) s:=by
  refine codeAny_of_tree ?_
  show wpAny _ A.in1 (checkBuiltinCall "set.__new__" ⟨[.type "set",v],[]⟩ >>= fun _=>again (.builtin "set.__new__" ⟨[.type "set",v],[]⟩)) _ _ s
  refine wpAny_bind (wpAny_of_eq (F.newCall_set_1 v) (wpAny_pure ⟨plainId_quiet F.plain_set_new _,codeAny_builtin F.entry_set_new ?_⟩))
  rw [Around.under_plainId F.plain_set_new _]
  unfold Builtin.«set.__new__» Builtin.Frozenset.newClass
  have hsub:=sub_set_self
  obtain ⟨hp,g,d,tk,os⟩:=s
  dsimp only
  wp_walk
  refine wpAny_askSetting (wpAny_pure ?_)
  dsimp only
  simp only [newObj]
  refine wpAny_bind (wpAny_alloc (wpAny_pure ?_))
  exact wpAny_pure h
end
end PySem
namespace L2
open PySem PySem.Spec PyProof.Rows
section
variable {P : Program} {w : World} {A : Around} {R : Result→Shared→Prop} {I : Addr} {fp wr : List Addr} {G : Array GenState→Array GenState→Prop} {n : Nat} {Pv : Nat→Value→Prop} {St : Nat→Shared→Prop}
theorem ni (W : WalksS P w A.in1 I fp wr G n Pv St) (a : Addr) (hSf : a ∉ fp) (led : Bool) (val : Nat→Int) (hval : ∀ i v,Pv i v→∃ t,v = .int (val i) t) (hb : n + 1 < scanBound) :
    ∀ (k i : Nat) (s : Shared),n - i = k→i ≤ n→St i s→SetI P w s.heap a led ((List.range i).map val) →
      (∀ s',Moved (a :: wr) G s s'→SetI P w s'.heap a led ((List.range n).map val)→R (.ok (.ret .none)) s') →
      codeAny (model P w) A (.builtin "set.update.loop" ⟨[.ref a,.ref I],[]⟩) R s:=by
  have hSw : a ∉ wr:=fun h=>hSf (W.sub _ h)
  have hsub : ∀ b ∈ wr,b ∈ a :: wr:=fun b hb=>List.mem_cons_of_mem _ hb
  intro k
  induction k with
  | zero =>
    intro i s hk hi hst hS hR
    obtain rfl : i = n:=by omega
    refine codeAny_builtin F.entry_set_update_loop ?_
    rw [Around.under_plainId F.plain_set_update_loop _]
    show wpAny _ A.in1 (pyNext (.ref I) >>= _) _ _ s
    refine wpAny_bind (W.done s _ _ hst fun s' hm=>?_)
    show wpAny _ A.in1 (ret Value.none) _ _ s'
    exact wpAny_pure (hR s' (hm.mono hsub) (hS.keep fun o e=>hm.heap a o hSw e))
  | succ k ih =>
    intro i s hk hi hst hS hR
    have hlt : i < n:=by omega
    refine codeAny_builtin F.entry_set_update_loop ?_
    rw [Around.under_plainId F.plain_set_update_loop _]
    show wpAny _ A.in1 (pyNext (.ref I) >>= _) _ _ s
    refine wpAny_bind (W.item i s _ _ hlt hst fun v s1 hP hst1 hm=>?_)
    obtain ⟨t,rfl⟩:=hval i v hP
    have S1 : SetI P w s1.heap a led ((List.range i).map val):=hS.keep fun o e=>hm.heap a o hSw e
    show wpAny _ A.in1 (holding [Value.int (val i) t] (setAdd a (.int (val i) t)) >>= _) _ _ s1
    refine wpAny_bind (wpAny_holding ?_)
    unfold setAdd
    refine wpAny_holding (wpAny_bind ((intKind P w).pyHash (k:=val i) (intKind_is _ _ _ _) ?_))
    refine o5 (s:={ s1 with toks:=s1.toks + 1 }) S1 (by rw [List.length_map,List.length_range]; omega) fun b h2 sb S2=>?_
    have S3 : SetI P w h2 a led ((List.range (i + 1)).map val):=by
      rw [List.range_succ,List.map_append]; exact S2
    refine wpAny_pure ⟨plainId_quiet F.plain_set_update_loop _,ih (i + 1) _ (by omega) hlt (W.frame _ s1 _ _ hst1 (Nat.le_succ _) fun c hc o e=>?_) S3 fun s2 hm2 S4=>?_⟩
    · rw [sb.2 c (fun z : c = a=>hSf (by rw [← z]; exact hc))]; exact e
    · refine hR s2 (Moved.trans W.gtrans ((hm.mono hsub).then_heap (Nat.le_succ _) fun c o hc e=>?_) hm2) S4
      rw [sb.2 c (fun z : c = a=>hc (by rw [z]; exact List.mem_cons_self))]; exact e
end
theorem ny {P : Program} {w : World} {h : Heap} {a : Addr} {led : Bool} (e : h.get? a = some { cls:=.type "set",dict:=none,data:=.set #[] 0 (.fresh 0 0 led) }) : SetI P w h a led [] :=
  ⟨_,#[],0,.fresh 0 0 led,[],e,⟨rfl,rfl,rfl⟩,rfl,fun e he=>by simp at he,.nil,List.nodup_nil,fun k=>Iff.rfl,by decide,rfl,⟨rfl,rfl,List.Pairwise.nil⟩⟩
end L2
namespace PySem
open L2
section
variable {prog : Program} {w : World} {A : Around} {E : Value→Shared→Prop} {s : Shared}
theorem own_set_list {l : Addr} {items : Array Value} {ns : List Int} {Q : Value→Shared→Prop} (hh : A.handled = none) (hl : s.heap.IsList l items) (hi : PyProof.Rows.IntsAre items.toList ns) (hb : items.size + 1 < scanBound)
    (h : ∀ (h' : Heap) (tk : Nat),SetI prog w h' s.heap.objs.size (!w.params.followText "set-order") ((List.range items.size).map fun i=>ns.getD i 0)→(∀ b o,s.heap.get? b = some o→h'.get? b = some o)→Q (.ref s.heap.objs.size) { s with heap:=h',toks:=tk }) :
    wpAny (model prog w) A (call (.type "set") [.ref l]) Q E s:=by
  obtain ⟨cc,tl,hmro⟩:=F.called_set.mro
  have hmade:=F.called_set.made
  have hsub:=F.called_set.sub
  refine wpAny_call (codeAny_of_tree ?_)
  show wpAny _ _ (callAny (.type "set") _) _ _ _
  refine wpAny_pure ⟨Code.quiet_builtin _ (by decide +kernel),codeAny_builtin F.entry_type_call ?_⟩
  rw [Around.under_plain (weight_type_call_type "set" [.ref l] []) rfl]
  have hnt:=F.called_set.notType
  have hcc:=F.called_set.canCreate
  have hct:=F.typeCall_set_1 (.ref l)
  repeat (any_goals (first | assumption | wp_step))
  refine codeAny_mono (j4 (.ref l) (E:=E) (Qn:=fun ob s1=>ob = .ref s.heap.objs.size∧s1 = { s with heap:=s.heap.push { cls:=.type "set",dict:=none,data:=.set #[] 0 (.fresh 0 0 (!w.params.followText "set-order")) } }) ⟨rfl,rfl⟩) fun r s1 hr=>?_
  generalize hled : (!w.params.followText "set-order") = led at hr h
  cases r with
  | error e=>exact hr
  | ok fl =>
    cases fl with
    | ret ob =>
      obtain ⟨rfl,rfl⟩:=hr
      have hS : (s.heap.push { cls:=.type "set",dict:=none,data:=.set #[] 0 (.fresh 0 0 led) }).get? s.heap.objs.size = some { cls:=.type "set",dict:=none,data:=.set #[] 0 (.fresh 0 0 led) }:=Heap.get?_push_size _ rfl
      have hT : Shared.TypeIs { s with heap:=s.heap.push { cls:=.type "set",dict:=none,data:=.set #[] 0 (.fresh 0 0 led) } } (.ref s.heap.objs.size) "set":=⟨_,hS,rfl⟩
      have hli:=F.called_set.init.lookup
      have hbi:=F.called_set.init.bind (.ref s.heap.objs.size)
      repeat (any_goals (first | assumption | wp_step))
      refine codeAny_mono (codeAny_call_builtin (R:=wants (fun r s2=>r = .none∧∃ h' tk,s2 = { s with heap:=h',toks:=tk }∧SetI prog w h' s.heap.objs.size led ((List.range items.size).map fun i=>ns.getD i 0) ∧
          (∀ b o,s.heap.get? b = some o→h'.get? b = some o)) E) F.called_set.init.plain F.entry_set_init (check_set_init_1 hT ?_)) fun r2 s2 hr2=>?_
      · obtain ⟨ol,hol,hcl,nl,hdl⟩:=hl
        obtain ⟨ocls,odict,odata,oslots⟩:=ol
        simp only at hcl hdl
        subst hcl; subst hdl
        have hol' : (s.heap.push { cls:=.type "set",dict:=none,data:=.set #[] 0 (.fresh 0 0 led) }).get? l = some { cls:=.type "list",dict:=odict,data:=.seq items nl,slots:=oslots }:=Heap.get?_push_of_some _ hol
        have hsls:=F.sub_list_set
        have hslf:=F.sub_list_frozenset
        have hnd : (Value.type "list" == Value.type "dict") = false:=by decide
        have hl1 : (s.heap.push { cls:=.type "set",dict:=none,data:=.set #[] 0 (.fresh 0 0 led) }).IsList l items:=⟨_,hol',rfl,nl,rfl⟩
        unfold Builtin.«set.__init__» noKeywords Builtin.Frozenset.updateFrom
        generalize hPI : pyIter = PI
        wp_walk
        subst hPI
        refine wpAny_pyIter_list hl1 ?_
        refine wpAny_bind (wpAny_runValue ?_)
        have hlS : l < s.heap.objs.size:=Heap.lt_size hol
        have hh3 : A.in1.in1.in1.handled = none:=by simp [hh]
        have hsz : (s.heap.push { cls:=.type "set",dict:=none,data:=.set #[] 0 (.fresh 0 0 led) }).objs.size = s.heap.objs.size + 1:=Heap.size_push ..
        have hneI : l ≠ (s.heap.push { cls:=.type "set",dict:=none,data:=.set #[] 0 (.fresh 0 0 led) }).objs.size:=by rw [hsz]; exact Nat.ne_of_lt (Nat.lt_succ_of_lt hlS)
        have hSf : s.heap.objs.size ∉ [(s.heap.push { cls:=.type "set",dict:=none,data:=.set #[] 0 (.fresh 0 0 led) }).objs.size,l]:=by
          rw [hsz]
          intro z
          rcases List.mem_cons.mp z with z | z
          · exact absurd z (Nat.ne_of_lt (Nat.lt_succ_self _))
          · exact absurd (List.mem_singleton.mp z) (Nat.ne_of_gt hlS)
        have hval : ∀ (i : Nat) (v : Value),items[i]? = some v→∃ t,v = .int ((fun i=>ns.getD i 0) i) t:=fun i v hv=>PyProof.Rows.IntsAre.int_at hi i v (by rw [Array.getElem?_toList]; exact hv)
        refine ni ((Walks.list hh3 _ l hneI items).toS) s.heap.objs.size hSf led (fun i=>ns.getD i 0) hval hb (items.size - 0) 0 _ (by omega) (Nat.zero_le _) ⟨⟨_,Heap.get?_push_size _ rfl,rfl,rfl⟩,hl1.push _⟩ ?hS0 ?hR
        case hS0=>exact ny (Heap.get?_push_of_some _ hS)
        case hR =>
          intro s' hm hS'
          obtain ⟨h',g',d',tk',os'⟩:=s'
          have eg : g' = s.gens:=hm.gens
          have ed : d' = s.drawn:=hm.drawn
          have eo : os' = s.os:=hm.os
          subst eg; subst ed; subst eo
          show wpAny _ _ _ _ _ _
          refine wpAny_pure ?_
          show wpAny _ _ (ret Value.none) _ _ _
          refine wpAny_pure ⟨rfl,h',tk',rfl,hS',fun b o e=>hm.heap b o (fun z=>?_) (Heap.get?_push_of_some _ (Heap.get?_push_of_some _ e))⟩
          have hlt:=Heap.lt_size e
          rcases List.mem_cons.mp z with z | z
          · exact absurd z (Nat.ne_of_lt hlt)
          · have z':=List.mem_singleton.mp z
            rw [hsz] at z'
            exact absurd z' (Nat.ne_of_lt (Nat.lt_succ_of_lt hlt))
      · cases r2 with
        | error e=>exact hr2
        | ok fl2 =>
          cases fl2 with
          | ret r =>
            obtain ⟨rfl,h',tk,rfl,hS',hk'⟩:=hr2
            repeat (any_goals (first | assumption | wp_step))
            exact h _ _ hS' hk'
          | _=>exact hr2.elim
    | _=>exact hr.elim
end
end PySem
namespace PySem.F
theorem si_next : Slot "set_iterator" "__next__" "set_iterator.__next__" :=
  .of (owner := "set_iterator") (n := "__next__") (by rw [typeLookup_type,builtinLookup_eq_fast]; kernel_rfl) (by decide +kernel) (by decide +kernel) (by decide +kernel) (by first | exact .inl (by decide +kernel) | exact .inr (by decide +kernel)) (by rw [isSubtype_type]; kernel_rfl)
theorem si_next_e : entryFor table "set_iterator.__next__" = some Builtin.«set_iterator.__next__»:=entryFor_of_tree (by kernel_rfl)
theorem jB : Manifest.owners.lookup (String.ofList ['r','o','t','a','r','e','t','i','_','t','e','s'].reverse) = some Manifest.sig_set_iterator:=by kernel_rfl
theorem si_next_a (a : Value) : argsOk "set_iterator.__next__" ⟨[a],[]⟩:=by
  unfold argsOk; rw [signature?_of (id := "set_iterator.__next__") (n:=['_','_','t','x','e','n','_','_']) (o:=['r','o','t','a','r','e','t','i','_','t','e','s']) (by kernel_rfl) jB]; kernel_rfl
theorem si_iter : Slot "set_iterator" "__iter__" "set_iterator.__iter__" :=
  .of (owner := "set_iterator") (n := "__iter__") (by rw [typeLookup_type,builtinLookup_eq_fast]; kernel_rfl) (by decide +kernel) (by decide +kernel) (by decide +kernel) (by first | exact .inl (by decide +kernel) | exact .inr (by decide +kernel)) (by rw [isSubtype_type]; kernel_rfl)
theorem si_iter_e : entryFor table "set_iterator.__iter__" = some Builtin.«dict_keyiterator.__iter__»:=entryFor_alias (id' := "dict_keyiterator.__iter__") (by kernel_rfl) rfl (by decide +kernel) (by kernel_rfl)
theorem si_iter_a (a : Value) : argsOk "set_iterator.__iter__" ⟨[a],[]⟩:=by
  unfold argsOk; rw [signature?_of (id := "set_iterator.__iter__") (n:=['_','_','r','e','t','i','_','_']) (o:=['r','o','t','a','r','e','t','i','_','t','e','s']) (by kernel_rfl) jB]; kernel_rfl
theorem set_iter_e : entryFor table "set.__iter__" = some Builtin.«frozenset.__iter__»:=entryFor_alias (id' := "frozenset.__iter__") (by kernel_rfl) rfl (by decide +kernel) (by kernel_rfl)
end PySem.F
namespace L2
open PySem PySem.Spec PyProof.Rows
section
variable {P : Program} {w : World} {A : Around} {E : Value→Shared→Prop} {s : Shared}
theorem kQ {M : Model} {src : Source} {n : Nat} {Q : Nat→Shared→Prop} (hn : n ≠ 0) (h : ∀ i,i < n→Q i { s with drawn:=s.drawn.bump src }) : wpAny M A (choose src n) Q E s :=
  fun _ _ _=>⟨hn,h _ (Nat.mod_lt _ (Nat.pos_of_ne_zero hn))⟩
theorem dY {α : Type} : ∀ (l : List α) (i : Nat) (h : i < l.length),(l[i] :: l.eraseIdx i).Perm l
  | x :: l,0,_=>.refl _
  | x :: l,i + 1,h=>by
    have h' : i < l.length:=by simpa using h
    have:=dY l i h'
    show ((x :: l)[i + 1] :: x :: l.eraseIdx i).Perm (x :: l)
    exact (List.Perm.swap x _ _).trans (this.cons x)
theorem iN {α : Type} {M : Model} : ∀ (n : Nat) (xs : List α) (s : Shared) (Q : List α→Shared→Prop),xs.length = n→(∀ ys d,ys.Perm xs→Q ys { s with drawn:=d })→wpAny M A (drawOrder n xs) Q E s
  | 0,xs,s,Q,hl,h=>by
    have : xs = []:=List.length_eq_zero_iff.mp hl
    subst this
    exact wpAny_pure (h [] s.drawn (.refl _))
  | n + 1,[],s,Q,hl,h=>by simp at hl
  | n + 1,x :: xs,s,Q,hl,h=>by
    rw [drawOrder]
    · refine wpAny_bind (kQ (by simp) fun i hi=>?_)
      have e : (x :: xs)[i]? = some ((x :: xs)[i]):=by simp [hi]
      rw [e]
      dsimp only
      refine wpAny_bind (iN n _ _ _ ?_ fun ys d hp=>?_)
      · rw [List.length_eraseIdx_of_lt hi]; simp at hl ⊢; exact hl
      · refine wpAny_pure (h _ d ?_)
        refine (hp.cons _).trans ?_
        exact dY _ i hi
    · simp
structure SAt (h : Heap) (a : Addr) (es : Array (Int × Value)) (ep : Nat) (t : SetTable) : Prop where
  ex : ∃ o,h.get? a = some o∧o.ExactSet∧o.data = .set es ep t
  fits : t.fits es.size = true
theorem fB {a : Addr} {es : Array (Int × Value)} {ep : Nat} {t : SetTable} {slot given : Nat} {Q : Option (Value × Nat)→Shared→Prop} (S : SAt s.heap a es ep t) (hb : w.params.followText "set-order" = false) (hl : t.led = true) (hp : t.plain = true ∨ es.size ≤ 1)
    (h : Q (match es[SetTable.below t.place slot]?,t.place[SetTable.below t.place slot]? with | some (_,x),some j=>some (x,j + 1) | _,_=>none) s) : wpAny (model P w) A (setNext a slot given ep) Q E s:=by
  obtain ⟨o,ho,hex,hd⟩:=S.ex
  unfold setNext
  refine wpAny_bind (wpAny_setState_of ho hd S.fits ?_)
  dsimp only
  unfold setsByText
  refine wpAny_bind (wpAny_bind (wpAny_askSetting (wpAny_pure ?_)))
  show wpAny _ _ (if w.params.followText "set-order" = true then _ else _) _ _ _
  rw [hb]
  simp only [Bool.false_eq_true,if_false]
  have hdr : (!t.plain && decide (es.size > 1)) = false:=by
    rcases hp with hp | hp
    · rw [hp]; rfl
    · rw [decide_eq_false (by omega),Bool.and_false]
  refine wpAny_ite_split (fun hc=>?_) (fun _=>?_)
  · have hc' : (!t.plain && decide (es.size > 1)) = true:=hc
    rw [hdr] at hc'; cases hc'
  · show wpAny _ _ ((if (!t.led && !es.isEmpty) = true then unsupported "set:maker-not-led" else pure ()) >>= fun _=>pure _) Q E s
    rw [hl]
    simp only [Bool.not_true,Bool.false_and,Bool.false_eq_true,if_false]
    exact wpAny_bind (wpAny_pure (wpAny_pure h))
theorem iu {a : Addr} {es : Array (Int × Value)} {ep : Nat} {t : SetTable} {slot given : Nat} {Q : Option (Value × Nat)→Shared→Prop} (S : SAt s.heap a es ep t) (hb : w.params.followText "set-order" = true)
    (h : Q (((pickOrder (w.params.setOrder a ep) es)[given]?).map fun e=>(e.2,slot)) s) : wpAny (model P w) A (setNext a slot given ep) Q E s:=by
  obtain ⟨o,ho,hex,hd⟩:=S.ex
  unfold setNext
  refine wpAny_bind (wpAny_setState_of ho hd S.fits ?_)
  dsimp only
  unfold setsByText
  refine wpAny_bind (wpAny_bind (wpAny_askSetting (wpAny_pure ?_)))
  show wpAny _ _ (if w.params.followText "set-order" = true then _ else _) _ _ _
  rw [if_pos hb]
  refine wpAny_ite_split (fun hc=>by simp at hc) (fun _=>?_)
  unfold setWalk
  refine wpAny_bind (wpAny_bind (wpAny_setState_of ho hd S.fits ?_))
  dsimp only
  unfold setsByText
  refine wpAny_bind (wpAny_bind (wpAny_askSetting (wpAny_pure ?_)))
  show wpAny _ _ (if w.params.followText "set-order" = true then _ else _) _ _ _
  rw [if_pos hb]
  refine wpAny_bind (wpAny_askSetting (wpAny_pure ?_))
  exact wpAny_pure h
theorem ka {a : Addr} {es : Array (Int × Value)} {ep : Nat} {t : SetTable} {place : Nat} {e : Int × Value} {Q : Value→Shared→Prop} (S : SAt s.heap a es ep t) (he : es[place]? = some e) (h : Q e.2 s) : wpAny (model P w) A (setNextDrawn a place ep) Q E s:=by
  obtain ⟨o,ho,hex,hd⟩:=S.ex
  unfold setNextDrawn
  refine wpAny_bind (wpAny_setState_of ho hd S.fits ?_)
  dsimp only
  refine wpAny_ite_split (fun hc=>by simp at hc) (fun _=>?_)
  rw [he]
  exact wpAny_pure h
theorem ik {α : Type} (f : Nat→Nat) : ∀ (fuel k : Nat) (left : List α) (out : Array α),left.length = fuel→(pickOrder.go f fuel k left out).toList.Perm (out.toList ++ left)
  | 0,k,left,out,hl=>by
    have : left = []:=List.length_eq_zero_iff.mp hl
    subst this
    rw [pickOrder.go]; simp
  | fuel + 1,k,left,out,hl=>by
    rw [pickOrder.go]
    have hi : f k % left.length < left.length:=Nat.mod_lt _ (by omega)
    have e : left[f k % left.length]? = some (left[f k % left.length]):=by simp [hi]
    rw [e]
    dsimp only
    refine (ik f fuel (k + 1) _ _ (by rw [List.length_eraseIdx_of_lt hi]; omega)).trans ?_
    rw [Array.toList_push,List.append_assoc]
    exact List.Perm.append_left _ (by simpa using dY left _ hi)
theorem nM {α : Type} (f : Nat→Nat) (es : Array α) : (pickOrder f es).toList.Perm es.toList:=by
  have:=ik f es.size 0 es.toList #[] (by simp)
  simpa [pickOrder] using this
end
def cQ (first : Value) (S : Addr) (i n ep : Nat) : Obj:={ cls:=.type "set_iterator",data:=.fields #[first,.int i 0,.ref S,.int n 0,.int ep 0] }
section
variable {P : Program} {w : World} {A : Around} {E : Value→Shared→Prop} {s : Shared}
theorem lR {I S : Addr} {slot i n ep nx : Nat} {x : Value} {es : Array (Int × Value)} {t : SetTable} {Q : Option Value→Shared→Prop} (hI : s.heap.get? I = some (cQ (.int slot 0) S i n ep)) (hS : SAt s.heap S es ep t) (hn : es.size = n)
    (hN : ∀ (A' : Around) (E' : Value→Shared→Prop) (Q' : Option (Value × Nat)→Shared→Prop),Q' (some (x,nx)) s→wpAny (model P w) A' (setNext S slot i ep) Q' E' s)
    (h : ∀ h',h'.get? I = some (cQ (.int nx 0) S (i + 1) n ep)→Heap.SameBut I s.heap h'→Q (some x) { s with heap:=h' }) : wpAny (model P w) A (pyNext (.ref I)) Q E s:=by
  have hT : s.TypeIs (.ref I) "set_iterator":=⟨_,hI,rfl⟩
  obtain ⟨o,ho,hex,hd⟩:=hS.ex
  unfold pyNext
  refine wpAny_bind (wpAny_attempt (wpAny_callSpecial?_slot (name:=Str.ofString "__next__") hT F.si_next (wpAny_call_entry F.si_next hT F.si_next_e ?_ (F.si_next_a _))))
  unfold Builtin.«set_iterator.__next__»
  refine wpAny_bind (wpAny_pure ?_)
  refine wpAny_bind (wpAny_fieldsOf hI rfl ?_)
  show wpAny _ _ (setEntries S >>= _) _ _ _
  refine wpAny_bind (wpAny_setEntries_of ho hd hS.fits ?_)
  refine wpAny_ite_split (fun hc=>by rw [hn] at hc; simp at hc) (fun _=>?_)
  show wpAny _ _ (setNext S slot i ep >>= _) _ _ _
  refine wpAny_bind (hN _ _ _ ?_)
  show wpAny _ _ (setField (.ref I) 0 (rawInt nx) >>= _) _ _ _
  refine wpAny_bind (wpAny_setField_rec hI (by simp) fun h1 g1 sb1=>?_)
  refine wpAny_bind (wpAny_setField_rec (s:={ s with heap:=h1 }) g1 (by simp) fun h2 g2 sb2=>?_)
  exact wpAny_pure ⟨_,rfl,wpAny_pure (h h2 (by simpa [cQ,rawInt] using g2) (sb1.trans sb2))⟩
theorem nY {I S : Addr} {slot i n ep : Nat} {es : Array (Int × Value)} {t : SetTable} {Q : Option Value→Shared→Prop} (hh : A.handled = none) (hI : s.heap.get? I = some (cQ (.int slot 0) S i n ep)) (hS : SAt s.heap S es ep t) (hn : es.size = n)
    (hN : ∀ (A' : Around) (E' : Value→Shared→Prop) (Q' : Option (Value × Nat)→Shared→Prop),Q' none s→wpAny (model P w) A' (setNext S slot i ep) Q' E' s)
    (h : ∀ h',Heap.ExtBut I s.heap h'→Q none { s with heap:=h' }) : wpAny (model P w) A (pyNext (.ref I)) Q E s:=by
  have hT : s.TypeIs (.ref I) "set_iterator":=⟨_,hI,rfl⟩
  obtain ⟨o,ho,hex,hd⟩:=hS.ex
  unfold pyNext
  refine wpAny_bind (wpAny_attempt (wpAny_callSpecial?_slot (name:=Str.ofString "__next__") hT F.si_next (wpAny_call_entry F.si_next hT F.si_next_e ?_ (F.si_next_a _))))
  unfold Builtin.«set_iterator.__next__»
  refine wpAny_bind (wpAny_pure ?_)
  refine wpAny_bind (wpAny_fieldsOf hI rfl ?_)
  show wpAny _ _ (setEntries S >>= _) _ _ _
  refine wpAny_bind (wpAny_setEntries_of ho hd hS.fits ?_)
  refine wpAny_ite_split (fun hc=>by rw [hn] at hc; simp at hc) (fun _=>?_)
  show wpAny _ _ (setNext S slot i ep >>= _) _ _ _
  refine wpAny_bind (hN _ _ _ ?_)
  show wpAny _ _ (setField (.ref I) 2 .none >>= _) _ _ _
  refine wpAny_bind (wpAny_setField_rec hI (by simp) fun h1 g1 sb1=>?_)
  show wpAny _ _ (newExc (.type "StopIteration") [] >>= _) _ _ _
  refine wpAny_bind ?_
  simp only [newExc,newTuple]
  refine wpAny_bind (wpAny_newObj_type ?_ (by size_fits))
  refine wpAny_bind (m:=firstArgMember _ _) (wpAny_of_eq (a:=Value.none) (by first | rfl | (simp only [firstArgMember]; rfl)) ?_)
  refine wpAny_newObj_type ?_ (by size_fits)
  simp only [raiseNew]
  refine wpAny_bind (wpAny_handled ?_)
  rw [show A.in1.handled = none from hh]
  refine wpAny_bind (wpAny_pure (wpAny_throw ?_))
  refine wpAny_bind (wpAny_isInstance (T := "StopIteration") (b:=true) ⟨_,Heap.get?_push_size _ rfl,rfl⟩ isSubtype_stop ?_)
  exact wpAny_pure (h _ ((sb1.extBut.push _).push _))
theorem pH {I S T : Addr} {i n ep : Nat} {e : Int × Value} {pl : List Nat} {p : Nat} {es : Array (Int × Value)} {t : SetTable} {Q : Option Value→Shared→Prop} (hI : s.heap.get? I = some (cQ (.ref T) S i n ep)) (hS : SAt s.heap S es ep t) (hn : es.size = n)
    (hT' : s.heap.get? T = some { cls:=.type "tuple",data:=.seq (pl.map fun (k : Nat)=>rawInt k).toArray }) (hp : pl[i]? = some p) (he : es[p]? = some e)
    (h : ∀ h',h'.get? I = some (cQ (.ref T) S (i + 1) n ep)→Heap.SameBut I s.heap h'→Q (some e.2) { s with heap:=h' }) : wpAny (model P w) A (pyNext (.ref I)) Q E s:=by
  have hT : s.TypeIs (.ref I) "set_iterator":=⟨_,hI,rfl⟩
  obtain ⟨o,ho,hex,hd⟩:=hS.ex
  unfold pyNext
  refine wpAny_bind (wpAny_attempt (wpAny_callSpecial?_slot (name:=Str.ofString "__next__") hT F.si_next (wpAny_call_entry F.si_next hT F.si_next_e ?_ (F.si_next_a _))))
  unfold Builtin.«set_iterator.__next__»
  refine wpAny_bind (wpAny_pure ?_)
  refine wpAny_bind (wpAny_fieldsOf hI rfl ?_)
  show wpAny _ _ (setEntries S >>= _) _ _ _
  refine wpAny_bind (wpAny_setEntries_of ho hd hS.fits ?_)
  refine wpAny_ite_split (fun hc=>by rw [hn] at hc; simp at hc) (fun _=>?_)
  dsimp only
  refine wpAny_bind ?_
  show wpAny _ _ (load T >>= _) _ _ _
  refine wpAny_bind (wpAny_load hT' (wpAny_pure ?_))
  dsimp only
  rw [show ((List.map (fun (k : Nat)=>rawInt k) pl).toArray)[((i : Nat) : Int).toNat]? = some (rawInt p) by rw [Int.toNat_natCast]; simp [hp]]
  show wpAny _ _ (setNextDrawn S ((p : Nat) : Int).toNat ((ep : Nat) : Int).toNat >>= _) _ _ _
  rw [Int.toNat_natCast,Int.toNat_natCast]
  refine wpAny_bind (ka hS he ?_)
  refine wpAny_bind (wpAny_setField_rec hI (by simp) fun h2 g2 sb2=>?_)
  exact wpAny_pure ⟨_,rfl,wpAny_pure (h h2 (by simpa [cQ,rawInt] using g2) sb2)⟩
theorem r9 {I S T : Addr} {i n ep : Nat} {pl : List Nat} {es : Array (Int × Value)} {t : SetTable} {Q : Option Value→Shared→Prop} (hh : A.handled = none) (hI : s.heap.get? I = some (cQ (.ref T) S i n ep)) (hS : SAt s.heap S es ep t) (hn : es.size = n)
    (hT' : s.heap.get? T = some { cls:=.type "tuple",data:=.seq (pl.map fun (k : Nat)=>rawInt k).toArray }) (hp : pl[i]? = none)
    (h : ∀ h',Heap.ExtBut I s.heap h'→Q none { s with heap:=h' }) : wpAny (model P w) A (pyNext (.ref I)) Q E s:=by
  have hT : s.TypeIs (.ref I) "set_iterator":=⟨_,hI,rfl⟩
  obtain ⟨o,ho,hex,hd⟩:=hS.ex
  unfold pyNext
  refine wpAny_bind (wpAny_attempt (wpAny_callSpecial?_slot (name:=Str.ofString "__next__") hT F.si_next (wpAny_call_entry F.si_next hT F.si_next_e ?_ (F.si_next_a _))))
  unfold Builtin.«set_iterator.__next__»
  refine wpAny_bind (wpAny_pure ?_)
  refine wpAny_bind (wpAny_fieldsOf hI rfl ?_)
  show wpAny _ _ (setEntries S >>= _) _ _ _
  refine wpAny_bind (wpAny_setEntries_of ho hd hS.fits ?_)
  refine wpAny_ite_split (fun hc=>by rw [hn] at hc; simp at hc) (fun _=>?_)
  dsimp only
  refine wpAny_bind ?_
  show wpAny _ _ (load T >>= _) _ _ _
  refine wpAny_bind (wpAny_load hT' (wpAny_pure ?_))
  dsimp only
  rw [show ((List.map (fun (k : Nat)=>rawInt k) pl).toArray)[((i : Nat) : Int).toNat]? = none by rw [Int.toNat_natCast]; simpa using hp]
  dsimp only
  refine wpAny_bind (wpAny_setField_rec hI (by simp) fun h0 g0 sb0=>?_)
  refine wpAny_bind (wpAny_setField_rec (s:={ s with heap:=h0 }) g0 (by simp) fun h1 g1 sb1=>?_)
  show wpAny _ _ (newExc (.type "StopIteration") [] >>= _) _ _ _
  refine wpAny_bind ?_
  simp only [newExc,newTuple]
  refine wpAny_bind (wpAny_newObj_type ?_ (by size_fits))
  refine wpAny_bind (m:=firstArgMember _ _) (wpAny_of_eq (a:=Value.none) (by first | rfl | (simp only [firstArgMember]; rfl)) ?_)
  refine wpAny_newObj_type ?_ (by size_fits)
  simp only [raiseNew]
  refine wpAny_bind (wpAny_handled ?_)
  rw [show A.in1.handled = none from hh]
  refine wpAny_bind (wpAny_pure (wpAny_throw ?_))
  refine wpAny_bind (wpAny_isInstance (T := "StopIteration") (b:=true) ⟨_,Heap.get?_push_size _ rfl,rfl⟩ isSubtype_stop ?_)
  exact wpAny_pure (h _ (((sb0.trans sb1).extBut.push _).push _))
theorem i8 {I S : Addr} {first : Value} {i n ep : Nat} {Q : Value→Shared→Prop} (hI : s.heap.get? I = some (cQ first S i n ep)) (h : Q (.ref I) s) : wpAny (model P w) A (pyIter (.ref I)) Q E s:=by
  have hT : s.TypeIs (.ref I) "set_iterator":=⟨_,hI,rfl⟩
  refine wpAny_pyIter_slot hT F.si_iter (wpAny_call_entry F.si_iter hT F.si_iter_e ?_ (F.si_iter_a _))
  show wpAny _ _ (ret (.ref I)) _ _ s
  exact wpAny_pure ⟨_,rfl,"set_iterator",_,hT,F.si_next.lookup,h⟩
theorem SAt.keep {h h' : Heap} {a : Addr} {es : Array (Int × Value)} {ep : Nat} {t : SetTable} (x : SAt h a es ep t) (k : ∀ o,h.get? a = some o→h'.get? a = some o) : SAt h' a es ep t:=by
  obtain ⟨o,e,r⟩:=x.ex
  exact ⟨⟨o,k o e,r⟩,x.fits⟩
theorem jc {l : List Nat} {i : Nat} (h : i < l.length) : l[i]? = some (l.getD i 0):=by simp [List.getD,h]
def ji (t : SetTable) : Nat→Nat
  | 0=>0
  | i + 1=>t.place.toList.getD i 0 + 1
theorem iQ (hh : A.handled = none) (hb : w.params.followText "set-order" = false) {I S : Addr} (hne : S ≠ I) {es : Array (Int × Value)} {ep : Nat} {t : SetTable} (T : Tab true t) (hf : t.fits es.size = true) (hp : t.plain = true ∨ es.size ≤ 1) :
    Walks P w A I [I,S] [I] es.toList.length (fun i v=>(es.toList[i]?).map (·.2) = some v) (fun i h=>h.get? I = some (cQ (.int (ji t i) 0) S i es.size ep)∧SAt h S es ep t∧i ≤ es.size) where
  sub:=fun b hb=>by simp at hb; simp [hb]
  frame:=fun i h h' st hk=>⟨hk I (by simp) _ st.1,st.2.1.keep fun o e=>hk S (by simp) o e,st.2.2⟩
  item:=fun i s Q E hi st hQ=>by
    rw [Array.length_toList] at hi
    have hsz : t.place.size = es.size:=by unfold SetTable.fits at hf; simp at hf; exact hf.1
    have hpl : t.place.toList[i]? = some (t.place.toList.getD i 0):=by
      have : i < t.place.toList.length:=by rw [Array.length_toList]; omega
      exact jc this
    have hbl : SetTable.below t.place (ji t i) = i:=by
      cases i with
      | zero=>exact gM T.ris
      | succ j =>
        refine jI T.ris ?_
        have : j < t.place.toList.length:=by rw [Array.length_toList]; omega
        exact jc this
    have hes : es[i]? = some (es[i]):=by simp [hi]
    refine lR (x:=(es[i]).2) (nx:=ji t (i + 1)) st.1 st.2.1 rfl (fun A' E' Q' q=>fB st.2.1 hb T.led hp ?_) fun h' g sb=>?_
    · rw [hbl,hes,← Array.getElem?_toList,hpl]; exact q
    · refine hQ _ h' s.toks ?_ ⟨g,st.2.1.keep fun o e=>sb.extBut S o hne e,hi⟩ fun b o hb e=>sb.extBut b o (fun z=>hb (by simp [z])) e
      rw [Array.getElem?_toList,hes]; rfl
  done:=fun s Q E st hQ=>by
    rw [Array.length_toList] at st
    have hsz : t.place.size = es.size:=by unfold SetTable.fits at hf; simp at hf; exact hf.1
    have hbl : SetTable.below t.place (ji t es.size) = es.size:=by
      cases e : es.size with
      | zero=>exact gM T.ris
      | succ j =>
        refine jI T.ris ?_
        have : j < t.place.toList.length:=by rw [Array.length_toList]; omega
        exact jc this
    refine nY hh st.1 st.2.1 rfl (fun A' E' Q' q=>fB st.2.1 hb T.led hp ?_) fun h' eb=>hQ h' s.toks fun b o hb e=>eb b o (fun z=>hb (by simp [z])) e
    rw [hbl,show es[es.size]? = none by simp]; exact q
  self:=fun _ _ _ _ st hQ=>i8 st.1 hQ
theorem kh (hh : A.handled = none) (hb : w.params.followText "set-order" = true) {I S : Addr} (hne : S ≠ I) {es : Array (Int × Value)} {ep : Nat} {t : SetTable} {slot : Nat} :
    Walks P w A I [I,S] [I] (pickOrder (w.params.setOrder S ep) es).toList.length (fun i v=>((pickOrder (w.params.setOrder S ep) es).toList[i]?).map (·.2) = some v) (fun i h=>h.get? I = some (cQ (.int slot 0) S i es.size ep)∧SAt h S es ep t) where
  sub:=fun b hb=>by simp at hb; simp [hb]
  frame:=fun i h h' st hk=>⟨hk I (by simp) _ st.1,st.2.keep fun o e=>hk S (by simp) o e⟩
  item:=fun i s Q E hi st hQ=>by
    have hes : (pickOrder (w.params.setOrder S ep) es).toList[i]? = some ((pickOrder (w.params.setOrder S ep) es).toList[i]):=by simp
    refine lR (x:=((pickOrder (w.params.setOrder S ep) es).toList[i]).2) (nx:=slot) st.1 st.2 rfl (fun A' E' Q' q=>iu st.2 hb ?_) fun h' g sb=>?_
    · rw [← Array.getElem?_toList,hes]; exact q
    · refine hQ _ h' s.toks (by rw [hes]; rfl) ⟨g,st.2.keep fun o e=>sb.extBut S o hne e⟩ fun b o hb e=>sb.extBut b o (fun z=>hb (by simp [z])) e
  done:=fun s Q E st hQ=>by
    refine nY hh st.1 st.2 rfl (fun A' E' Q' q=>iu st.2 hb ?_) fun h' eb=>hQ h' s.toks fun b o hb e=>eb b o (fun z=>hb (by simp [z])) e
    rw [← Array.getElem?_toList,List.getElem?_eq_none (Nat.le_refl _)]; exact q
  self:=fun _ _ _ _ st hQ=>i8 st.1 hQ
theorem jx (hh : A.handled = none) {I S T : Addr} (hne : S ≠ I) (hnt : T ≠ I) {es : Array (Int × Value)} {ep : Nat} {t : SetTable} {pl : List Nat} (hp : pl.Perm (List.range es.size)) :
    Walks P w A I [I,S,T] [I] pl.length (fun i v=>∃ p e,pl[i]? = some p∧es.toList[p]? = some e∧v = e.2) (fun i h=>h.get? I = some (cQ (.ref T) S i es.size ep)∧SAt h S es ep t∧h.get? T = some { cls:=.type "tuple",data:=.seq (pl.map fun (k : Nat)=>rawInt k).toArray }) where
  sub:=fun b hb=>by simp at hb; simp [hb]
  frame:=fun i h h' st hk=>⟨hk I (by simp) _ st.1,st.2.1.keep fun o e=>hk S (by simp) o e,hk T (by simp) _ st.2.2⟩
  item:=fun i s Q E hi st hQ=>by
    have hpl : pl[i]? = some pl[i]:=by simp [hi]
    have hlt : pl[i] < es.size:=List.mem_range.mp (hp.mem_iff.mp (List.getElem_mem hi))
    have hes : es[pl[i]]? = some (es[pl[i]]):=by simp [hlt]
    refine pH st.1 st.2.1 rfl st.2.2 hpl hes fun h' g sb=>?_
    exact hQ _ h' s.toks ⟨_,_,hpl,by rw [Array.getElem?_toList]; exact hes,rfl⟩ ⟨g,st.2.1.keep fun o e=>sb.extBut S o hne e,sb.extBut T _ hnt st.2.2⟩ fun b o hb e=>sb.extBut b o (fun z=>hb (by simp [z])) e
  done:=fun s Q E st hQ=>r9 hh st.1 st.2.1 rfl st.2.2 (by simp) fun h' eb=>hQ h' s.toks fun b o hb e=>eb b o (fun z=>hb (by simp [z])) e
  self:=fun _ _ _ _ st hQ=>i8 st.1 hQ
end
section
variable {P : Program} {w : World} {A : Around} {E : Value→Shared→Prop} {s : Shared}
theorem nB {S : Addr} {Q : Bool→Shared→Prop} (hT : s.TypeIs (.ref S) "set") (h : Q false s) : wpAny (model P w) A (Builtin.List.listLengthHint (.ref S)) Q E s:=by
  unfold Builtin.List.listLengthHint
  refine wpAny_bind (wpAny_specialOf hT PySem.F.slot_set_len.lookup ?_)
  generalize hid : ("set.__len__" : String) = id0
  wp_delta
  rw [show splitId id0 = some ("set","__len__") from by subst hid; decide +kernel]
  subst hid
  refine wpAny_bind (wpAny_isInstance (T := "set") (b:=true) hT (by rw [isSubtype_type]; kernel_rfl) ?_)
  refine wpAny_ite_split (fun hab=>absurd hab (by decide)) (fun _=>?_)
  refine wpAny_ite_split (fun _=>?_) (fun hab=>absurd (by decide +kernel) hab)
  exact wpAny_bind (wpAny_typeOf hT (wpAny_pure h))
theorem jF {α : Type} (d : α) (L : List α) : (List.range L.length).map (fun p=>L.getD p d) = L:=by
  refine List.ext_getElem? fun i=>?_
  by_cases h : i < L.length
  · simp [List.getD,h]
  · rw [List.getElem?_eq_none (by simp; omega),List.getElem?_eq_none (by omega)]
def rQ (n : Nat) (Pv : Nat→Value→Prop) (ks : List Int) : Prop:=∀ vs : List Value,vs.length = n→(∀ (j : Nat) v,vs[j]? = some v→Pv j v)→∃ ns,IntsAre vs ns∧ns.Nodup∧∀ k,k ∈ ns ↔ k ∈ ks
theorem lJ {es ord : List (Int × Value)} {ns ks : List Int} (hi : IntsAre (es.map (·.2)) ns) (nd : ns.Nodup) (hm : ∀ k,k ∈ ns ↔ k ∈ ks) (hp : ord.Perm es) : rQ ord.length (fun i v=>(ord[i]?).map (·.2) = some v) ks:=fun vs hl hv=>by
  have e : vs = ord.map (·.2):=by
    refine List.ext_getElem? fun i=>?_
    by_cases h : i < vs.length
    · have hv':=hv i vs[i] (by simp)
      rw [List.getElem?_map,hv']; simp
    · rw [List.getElem?_eq_none (by omega),List.getElem?_eq_none (by simp; omega)]
  obtain ⟨ns',h1,h2⟩:=cT hp hi
  exact ⟨ns',e ▸ h1,h2.symm.nodup nd,fun k=>(h2.mem_iff).trans (hm k)⟩
theorem km {es : List (Int × Value)} {ns ks : List Int} {pl : List Nat} (hi : IntsAre (es.map (·.2)) ns) (nd : ns.Nodup) (hm : ∀ k,k ∈ ns ↔ k ∈ ks) (hp : pl.Perm (List.range es.length)) : rQ pl.length (fun i v=>∃ p e,pl[i]? = some p∧es[p]? = some e∧v = e.2) ks:=fun vs hl hv=>by
  have e : vs = pl.map (fun p=>(es.map (·.2)).getD p .none):=by
    refine List.ext_getElem? fun i=>?_
    by_cases h : i < vs.length
    · obtain ⟨p,en,h1,h2,h3⟩:=hv i vs[i] (by simp)
      rw [List.getElem?_map,h1,List.getElem?_eq_getElem h,h3]
      simp [List.getD,h2]
    · rw [List.getElem?_eq_none (by omega),List.getElem?_eq_none (by simp; omega)]
  have hp2 : vs.Perm (es.map (·.2)):=by
    rw [e]
    have:=hp.map (fun p=>(es.map (·.2)).getD p Value.none)
    rw [show List.range es.length = List.range (es.map (·.2)).length by simp,jF] at this
    exact this
  obtain ⟨ns',h1,h2⟩:=iC hp2 hi
  exact ⟨ns',h1,h2.symm.nodup nd,fun k=>(h2.mem_iff).trans (hm k)⟩
theorem ou {S : Addr} {ks : List Int} {Q : Value→Shared→Prop} (hh : A.handled = none) (hS : SetI P w s.heap S (!w.params.followText "set-order") ks)
    (h : ∀ (I : Addr) (h2 : Heap) (dr : Drawn) (fp : List Addr) (n : Nat) (Pv : Nat→Value→Prop) (St : Nat→Heap→Prop),(∀ b o,s.heap.get? b = some o→h2.get? b = some o)→Walks P w A I fp [I] n Pv St→St 0 h2→(∀ b ∈ fp,b = S ∨ s.heap.get? b = none)→s.heap.get? I = none→n < scanBound→rQ n Pv ks →
      Q (.ref I) { s with heap:=h2,drawn:=dr }) : wpAny (model P w) A (pyIter (.ref S)) Q E s:=by
  obtain ⟨o,es,ep,t,ns,ho,hex,hd,hel,hi,nd,hm,hb,hf,hT⟩:=hS
  have hTy : s.TypeIs (.ref S) "set":=⟨o,ho,hex.1⟩
  have hSlt:=Heap.lt_size ho
  refine wpAny_pyIter_slot hTy F.slot_set_iter (wpAny_call_entry F.slot_set_iter hTy F.set_iter_e ?_ (F.args_set_iter_1 _))
  unfold Builtin.«frozenset.__iter__»
  refine wpAny_bind (wpAny_pure ?_)
  show wpAny _ _ (Builtin.Frozenset.sizeOf S >>= _) _ _ _
  unfold Builtin.Frozenset.sizeOf
  refine wpAny_bind (wpAny_bind (wpAny_setEntries_of ho hd hf (wpAny_pure ?_)))
  unfold setDrawn
  refine wpAny_bind (wpAny_bind (wpAny_setState_of ho hd hf ?_))
  dsimp only
  unfold setsByText
  refine wpAny_bind (wpAny_bind (wpAny_askSetting (wpAny_pure (wpAny_pure ?_))))
  show wpAny _ _ (if (!w.params.followText "set-order" && (!t.plain && decide (es.size > 1))) = true then _ else _) _ _ _
  have hnone : ∀ {h' : Heap} {b : Addr},s.heap.objs.size ≤ b→s.heap.get? b = none:=fun hb=>Heap.get?_none_of_le hb
  by_cases hc : (!w.params.followText "set-order" && (!t.plain && decide (es.size > 1))) = true
  · rw [if_pos hc]
    refine wpAny_bind (iN es.size (List.range es.size) _ _ (by simp) fun pl dr hp=>?_)
    have hpl : pl.length = es.size:=by rw [hp.length_eq,List.length_range]
    refine wpAny_bind (wpAny_newTuple ?_ (by rw [List.length_map,hpl]; exact fits_of_scanBound hb))
    refine wpAny_bind (wpAny_setEpoch_of (s:={ s with heap:=s.heap.push { cls:=.type "tuple",data:=.seq (pl.map fun (k : Nat)=>rawInt k).toArray },drawn:=dr }) (Heap.get?_push_of_some _ ho) hd hf ?_)
    refine wpAny_bind (wpAny_newObj_type (wpAny_pure ⟨_,rfl,"set_iterator",_,⟨_,Heap.get?_push_size _ rfl,rfl⟩,F.si_next.lookup,?_⟩))
    have hsz : (s.heap.push { cls:=.type "tuple",data:=.seq (pl.map fun (k : Nat)=>rawInt k).toArray }).objs.size = s.heap.objs.size + 1:=Heap.size_push ..
    have e2 : ∀ b ob,s.heap.get? b = some ob→((s.heap.push { cls:=.type "tuple",data:=.seq (pl.map fun (k : Nat)=>rawInt k).toArray }).push (cQ (.ref s.heap.objs.size) S 0 es.size ep)).get? b = some ob:=fun b ob e=>Heap.get?_push_of_some _ (Heap.get?_push_of_some _ e)
    refine h _ _ dr [_,S,s.heap.objs.size] pl.length _ _ e2 (jx (t:=t) hh ?_ ?_ hp) ⟨?_,⟨⟨o,e2 _ _ ho,hex,hd⟩,hf⟩,?_⟩ ?_ ?_ (by rw [hpl]; exact hb) (km hi nd hm (by simpa using hp))
    · rw [hsz]; exact Nat.ne_of_lt (Nat.lt_succ_of_lt hSlt)
    · rw [hsz]; exact Nat.ne_of_lt (Nat.lt_succ_self _)
    · exact Heap.get?_push_size _ rfl
    · exact Heap.get?_push_of_some _ (Heap.get?_push_size _ rfl)
    · intro b hb'
      simp only [List.mem_cons,List.not_mem_nil,or_false] at hb'
      rcases hb' with rfl | rfl | rfl
      · exact .inr (Heap.get?_none_of_le (by rw [hsz]; exact Nat.le_succ _))
      · exact .inl rfl
      · exact .inr (Heap.get?_none_of_le (Nat.le_refl _))
    · exact Heap.get?_none_of_le (by rw [hsz]; exact Nat.le_succ _)
  · rw [if_neg hc]
    refine wpAny_bind (wpAny_pure (wpAny_bind (wpAny_setEpoch_of ho hd hf ?_)))
    refine wpAny_bind (wpAny_newObj_type (wpAny_pure ⟨_,rfl,"set_iterator",_,⟨_,Heap.get?_push_size _ rfl,rfl⟩,F.si_next.lookup,?_⟩))
    have e2 : ∀ b ob,s.heap.get? b = some ob→(s.heap.push (cQ (.int 0 0) S 0 es.size ep)).get? b = some ob:=fun b ob e=>Heap.get?_push_of_some _ e
    have hne : S ≠ s.heap.objs.size:=Nat.ne_of_lt hSlt
    have hfp : ∀ b ∈ [s.heap.objs.size,S],b = S ∨ s.heap.get? b = none:=fun b hb'=>by
      simp only [List.mem_cons,List.not_mem_nil,or_false] at hb'
      rcases hb' with rfl | rfl
      · exact .inr (Heap.get?_none_of_le (Nat.le_refl _))
      · exact .inl rfl
    cases ht : w.params.followText "set-order" with
    | true =>
      have pm:=nM (w.params.setOrder S ep) es
      have hlen : (pickOrder (w.params.setOrder S ep) es).toList.length < scanBound:=by rw [pm.length_eq,Array.length_toList]; exact hb
      exact h _ _ s.drawn [s.heap.objs.size,S] _ _ _ e2 (kh (t:=t) (slot:=0) hh ht hne) ⟨Heap.get?_push_size _ rfl,⟨⟨o,e2 _ _ ho,hex,hd⟩,hf⟩⟩ hfp (Heap.get?_none_of_le (Nat.le_refl _)) hlen (lJ hi nd hm pm)
    | false =>
      rw [ht] at hT hc
      have hp : t.plain = true ∨ es.size ≤ 1:=by
        cases hpl : t.plain with
        | true=>exact .inl rfl
        | false =>
          rw [hpl] at hc
          refine .inr (Nat.le_of_not_lt fun z=>hc ?_)
          simpa using z
      exact h _ _ s.drawn [s.heap.objs.size,S] _ _ _ e2 (iQ hh ht hne hT hf hp) ⟨Heap.get?_push_size _ rfl,⟨⟨o,e2 _ _ ho,hex,hd⟩,hf⟩,Nat.zero_le _⟩ hfp (Heap.get?_none_of_le (Nat.le_refl _)) (by rw [Array.length_toList]; exact hb) (lJ hi nd hm (.refl _))
end
section
variable {P : Program} {w : World} {A : Around} {E : Value→Shared→Prop} {s : Shared}
theorem kd {S D : Addr} {ks : List Int} {R : Result→Shared→Prop} (hh : A.handled = none) (hS : SetI P w s.heap S (!w.params.followText "set-order") ks) (hne : D ≠ S) (res : Value) {c0 : Nat} (hD : s.heap.get? D = some { cls:=.type "list",data:=.seq #[] c0 })
    (hR : ∀ (h' : Heap) (tk : Nat) (dr : Drawn) (acc : Array Value) (c : Nat) (ns : List Int),(∀ b o,b ≠ D→s.heap.get? b = some o→h'.get? b = some o)→h'.get? D = some { cls:=.type "list",dict:=none,data:=.seq acc c,slots:=#[] }→IntsAre acc.toList ns→ns.Nodup→(∀ k,k ∈ ns ↔ k ∈ ks) →
      R (.ok (.ret res)) { s with heap:=h',toks:=tk,drawn:=dr }) :
    wpAny (model P w) A.in1 (Builtin.List.listExtendWith (.ref D) (.ref S) res) (fun fin s'=>match fin with | .done f=>R (.ok f) s' | .again c'=>c'.quiet = true∧codeAny (model P w) A c' R s') (fun e s'=>R (.error e) s') s:=by
  have hTy : s.TypeIs (.ref S) "set":=by
    obtain ⟨o,es,ep,t,ns,ho,hex,_⟩:=hS
    exact ⟨o,ho,hex.1⟩
  unfold Builtin.List.listExtendWith
  refine wpAny_bind (wpAny_typeOf (T := "set") hTy ?_)
  have h1 : Builtin.List.listSameRef (.ref D) (.ref S) = false:=by simp [Builtin.List.listSameRef,hne]
  have h2 : (Value.type "set" == Value.type "list") = false:=by decide
  have h3 : (Value.type "set" == Value.type "tuple") = false:=by decide
  simp only [h1,h2,h3,Bool.or_false,Bool.false_eq_true,if_false]
  refine wpAny_bind (ou (A:=A.in1) hh hS fun I hp dr fp n Pv St kp W st hfp hI hn outs=>?_)
  have hDp:=kp _ _ hD
  have hDf : D ∉ fp:=fun hm=>by
    rcases hfp D hm with e | e
    · exact hne e
    · rw [hD] at e; cases e
  have key : ∀ (h4 : Heap) (c4 tk : Nat),St 0 h4→(∀ b o,b ≠ D→s.heap.get? b = some o→h4.get? b = some o)→h4.get? D = some { cls:=.type "list",data:=.seq #[] c4 } →
      codeAny (model P w) A (.builtin "list.extend.loop" ⟨[.ref D,.ref I,res],[]⟩) R { s with heap:=h4,toks:=tk,drawn:=dr }:=by
    intro h4 c4 tk st4 k4 hD4
    refine codeAny_extend_loopS W.toS (fits_of_scanBound hn) D hDf res n 0 _ #[] c4 rfl (Nat.zero_le _) st4 hD4 (ItemsOf.nil _) fun s5 acc c5 hm hD5 hacc=>?_
    obtain ⟨ns,i1,i2,i3⟩:=outs acc.toList (by rw [Array.length_toList]; exact hacc.1) fun j v e=>hacc.2 j v (by rw [← Array.getElem?_toList]; exact e)
    rw [Moved.eq_with hm]
    refine hR s5.heap s5.toks dr acc c5 ns (fun b o hb e=>hm.heap b o (fun hmem=>?_) (k4 b o hb e)) hD5 i1 i2 i3
    rcases List.mem_cons.mp hmem with z | z
    · exact hb z
    · rw [List.mem_singleton.mp z] at e; rw [hI] at e; cases e
  refine wpAny_bind (wpAny_holding (nB (s:={ s with heap:=hp,drawn:=dr }) (by obtain ⟨o,ho,hc⟩:=hTy; exact ⟨o,kp _ _ ho,hc⟩) ?_))
  refine wpAny_ite_split (fun _=>?_) (fun _=>wpAny_pure ⟨plainId_quiet PySem.F.plain_extend_loop _,key hp c0 _ st (fun b o _ e=>kp b o e) hDp⟩)
  refine wpAny_bind (wpAny_rule (wpAny_bind ?_))
  show wpAny _ _ (updateSeq D (·.push .none) >>= fun _=>updateSeq D (·.pop)) _ _ _
  refine wpAny_bind (wpAny_updateSeq hDp rfl ?_)
  have g2:=Heap.get?_update_self (Obj.mapSeq (·.push Value.none)) hDp rfl
  refine wpAny_updateSeq (hz:=by seq_fits) g2 rfl ?_
  have g3:=Heap.get?_update_self (Obj.mapSeq (·.pop)) g2 rfl
  refine wpAny_pure ⟨plainId_quiet PySem.F.plain_extend_loop _,key _ _ _ (W.frame 0 _ _ st fun b hb o e=>?_) (fun b o hb e=>?_) g3⟩
  · have hbD : b ≠ D:=fun z=>hDf (z ▸ hb)
    exact (Heap.get?_update_other _ _ (Ne.symm hbD)).trans ((Heap.get?_update_other _ _ (Ne.symm hbD)).trans e)
  · exact (Heap.get?_update_other _ _ (Ne.symm hb)).trans ((Heap.get?_update_other _ _ (Ne.symm hb)).trans (kp b o e))
theorem jK {S : Addr} {ks : List Int} {R : List Value→Shared→Prop} (hh : A.handled = none) (hS : SetI P w s.heap S (!w.params.followText "set-order") ks)
    (h : ∀ (h' : Heap) (tk : Nat) (dr : Drawn) (vs : List Value) (ns : List Int),(∀ b o,s.heap.get? b = some o→h'.get? b = some o)→IntsAre vs ns→ns.Nodup→(∀ k,k ∈ ns ↔ k ∈ ks)→R vs { s with heap:=h',toks:=tk,drawn:=dr }) :
    wpAny (model P w) A (collect (.ref S)) R E s:=by
  have hlt : S < s.heap.objs.size:=by
    obtain ⟨o,es,ep,t,ns,ho,_⟩:=hS
    exact Heap.lt_size ho
  unfold collect
  refine wpAny_bind (wpAny_runValue (codeAny_builtin entry_proto_collect' ?_))
  rw [Around.under_plainId PySem.F.plain_proto_collect _]
  show wpAny _ A.in1 (newList [] >>= fun l=>again (.builtin "list.__iadd__" ⟨[l,.ref S],[]⟩)) _ _ s
  refine wpAny_bind (wpAny_newObj_type (wpAny_pure ⟨plainId_quiet PySem.F.plain_list_iadd _,codeAny_builtin entry_list_iadd' ?_⟩))
  rw [Around.under_plainId PySem.F.plain_list_iadd _]
  have hD : (s.heap.push { cls:=.type "list",data:=.seq ([] : List Value).toArray }).get? s.heap.objs.size = some { cls:=.type "list",data:=.seq #[] }:=Heap.get?_push_size _ rfl
  show wpAny _ A.in1 (Builtin.List.listExtendWith (.ref s.heap.objs.size) (.ref S) (.ref s.heap.objs.size)) _ _ _
  have key:=kd (A:=A) (s:={ s with heap:=s.heap.push { cls:=.type "list",data:=.seq ([] : List Value).toArray } }) (ks:=ks)
    (R:=fun (q : Result) (s' : Shared)=>∃ (h' : Heap) (tk : Nat) (dr : Drawn) (acc : Array Value) (c : Nat) (ns : List Int),q = .ok (.ret (.ref s.heap.objs.size))∧s' = { s with heap:=h',toks:=tk,drawn:=dr }∧(∀ b o,s.heap.get? b = some o→h'.get? b = some o) ∧
      h'.get? s.heap.objs.size = some { cls:=.type "list",dict:=none,data:=.seq acc c,slots:=#[] }∧IntsAre acc.toList ns∧ns.Nodup∧∀ k,k ∈ ns ↔ k ∈ ks)
    hh (hS.keep fun o e=>Heap.get?_push_of_some _ e) (Nat.ne_of_gt hlt) (.ref s.heap.objs.size) hD
    (fun h' tk dr acc c ns hk g i1 i2 i3=>⟨h',tk,dr,acc,c,ns,rfl,rfl,fun b o e=>hk b o (Nat.ne_of_lt (Heap.lt_size e)) (Heap.get?_push_of_some _ e),g,i1,i2,i3⟩)
  refine wpAny_mono key (fun fin s' x=>?_) fun e s' x=>?_
  · cases fin with
    | done f =>
      obtain ⟨h',tk,dr,acc,c,ns,e,rfl,hk,g,i1,i2,i3⟩:=x
      cases e
      show wpAny _ A (load s.heap.objs.size >>= _) _ _ _
      exact wpAny_bind (wpAny_load g (wpAny_pure (h h' tk dr acc.toList ns hk i1 i2 i3)))
    | again c1 =>
      refine ⟨x.1,codeAny_mono x.2 fun q s2 y=>?_⟩
      obtain ⟨h',tk,dr,acc,c,ns,rfl,rfl,hk,g,i1,i2,i3⟩:=y
      show wpAny _ A (load s.heap.objs.size >>= _) _ _ _
      exact wpAny_bind (wpAny_load g (wpAny_pure (h h' tk dr acc.toList ns hk i1 i2 i3)))
  · obtain ⟨_,_,_,_,_,_,z,_⟩:=x
    cases z
theorem kn {S : Addr} {ks : List Int} {Q : Value→Shared→Prop} (hh : A.handled = none) (hS : SetI P w s.heap S (!w.params.followText "set-order") ks) (h64 : ∀ ns : List Int,ns.Nodup→(∀ k ∈ ns,k ∈ ks)→ns.length < 64)
    (h : ∀ (h1 h2 : Heap) (tk : Nat) (dr : Drawn) (out : List Value) (ns : List Int) (e : Nat),(∀ b o,s.heap.get? b = some o→h1.get? b = some o)→(∀ b o,h1.get? b = some o→h2.get? b = some o)→IntsAre out ns→ns.Nodup→ns.Pairwise (· ≤ ·)→(∀ k,k ∈ ns ↔ k ∈ ks) →
      h2.get? h1.objs.size = some { cls:=.type "list",data:=.seq out.toArray e }→Q (.ref h1.objs.size) { s with heap:=h2,toks:=tk,drawn:=dr }) :
    wpAny (model P w) A (call (.builtin "sorted") [.ref S]) Q E s:=by
  refine Calls.call_function_entry kind_sorted plain_sorted entry_sorted (args_sorted1 _) ?_
  unfold Builtin.«sorted»
  refine wpAny_bind (m:=checkCount "sorted" 1 1 _) (wpAny_pure ?_)
  refine wpAny_bind (jK (A:=A.in1) hh hS fun h' tk dr vs ns hk i1 i2 i3=>?_)
  have hl : vs.length < 64:=by rw [i1.length]; exact h64 ns i2 fun k hk=>(i3 k).mp hk
  refine wpAny_bind (wpAny_newList ?_ (di (m:=64) (Nat.le_of_lt hl)))
  have hoL : (h'.push (seqObj "list" vs.toArray 0)).get? h'.objs.size = some (seqObj "list" vs.toArray 0):=Heap.get?_push_size _ rfl
  refine wpAny_bind (wpAny_holding (wpAny_call_entry slot_list_sort ⟨_,hoL,rfl⟩ entry_list_sort (list_sort_tree (n:=0) hoL i1 hl fun out ns' a1 a2 a3=>⟨_,rfl,?_⟩) (args_list_sort _)))
  obtain ⟨e,he⟩:=sortedHeap_at (out:=out) hoL
  refine wpAny_pure ⟨_,rfl,h h' _ tk dr out.toList ns' e hk (fun b o q1=>?_) a1 (a2.symm.nodup i2) a3 (fun k=>a2.mem_iff.trans (i3 k)) (by simpa using he)⟩
  rw [sortedHeap_old (Nat.ne_of_lt (Heap.lt_size q1)) (by rw [size_push']; exact Nat.lt_succ_of_lt (Heap.lt_size q1))]
  exact Heap.get?_push_of_some _ q1
end
theorem ph {ns : List Int} (h : ns.Pairwise (· ≤ ·)) (d : ns.Nodup) : ns.Pairwise (· < ·):=by
  refine (h.and d).imp fun hm0=>?_
  obtain ⟨a,b⟩:=hm0
  omega
def qI (K : PySem.W.Frag) (ta : TA) : TE:=fun σ H Q=>ta σ H fun vs H1=>∃ (a : Addr) (ks : List Int),vs = [.ref a]∧SqL K H1 a (ks.map V.int)∧ks.length + 1 < 4096∧(∀ ns : List Int,ns.Nodup→(∀ k ∈ ns,k ∈ ks)→ns.length < 64) ∧
  ∀ (p : Addr) (ns : List Int),H1 p = none→ns.Pairwise (· < ·)→(∀ k,k ∈ ns ↔ k ∈ ks)→Q (.ref p) (upd H1 p (.lst (ns.map V.int)))
theorem hX {X : Cx} {e : Expr} {ta : TA} {p1 p2 pos1 pos2 : Pos} (hc : X.calm = true) (hg : Gl X "sorted") (hm : X.mg "sorted" = none) (hg2 : Gl X "set") (hm2 : X.mg "set" = none) (he : PA X [e] ta)
    (h1 : starEach [e] X.env = [(false,eval e X.env)]:=by rfl) (h2 : starEach [.Call (.Name "set" p2) [e] [] pos2] X.env = [(false,eval (.Call (.Name "set" p2) [e] [] pos2) X.env)]:=by rfl) :
    PE X (.Call (.Name "sorted" p1) [.Call (.Name "set" p2) [e] [] pos2] [] pos1) (qI X.K ta):=by
  intro pins s σ H Q I h
  have inner : wpAny (model X.prog X.w) X.A (eval (.Call (.Name "set" p2) [e] [] pos2) X.env) (fun v s1=>∃ (S : Addr) (H1 : Hp) (ks : List Int),v = .ref S∧Inv X pins σ H1 s1∧SetI X.prog X.w s1.heap S (!X.w.params.followText "set-order") ks∧(∀ ns : List Int,ns.Nodup→(∀ k ∈ ns,k ∈ ks)→ns.length < 64) ∧
      ∀ (p : Addr) (ns : List Int),H1 p = none→ns.Pairwise (· < ·)→(∀ k,k ∈ ns ↔ k ∈ ks)→Q (.ref p) (upd H1 p (.lst (ns.map V.int)))) X.xe s:=by
    refine Call_ (cx I hg2 hm2 PyProof.Rows.boot_set (PyProof.Rows.callWith_type1 (thn (he pos2 pins s σ H _ I h) fun us s1 hm0=>?_) h1 rfl))
    obtain ⟨vs,H1,I1,r,q⟩:=hm0
    obtain ⟨a,ks,rfl,ha,hz,h64,q⟩:=q
    obtain ⟨u,rfl,ru⟩:=dC r
    cases ru
    obtain ⟨its,rv,pl,_⟩:=I1.list ha
    have hi : IntsAre its ks:=bN rv
    have hs : its.toArray.size = ks.length:=by rw [List.size_toArray]; exact hi.length
    refine PySem.own_set_list (I1.ok.hd hc) pl.isList (by simpa using hi) (by rw [hs]; exact hz) fun h' tk sI k=>?_
    rw [hs,jF] at sI
    exact ⟨_,H1,ks,rfl,I1.kept (t':=tk) k,sI,h64,q⟩
  refine Call_ (cx I hg hm PyProof.Rows.boot_sorted (PyProof.Rows.callWith_builtin1 (by
    rw [h2]
    refine Calls.spliced_cons (thn inner fun v s1 x=>Calls.spliced_nil ?_)
    obtain ⟨S,H1,ks,rfl,I1,sI,h64,q⟩:=x
    refine kn (I1.ok.hd hc) sI h64 fun h1 h2 tk dr out ns e k1 k2 i1 nd pw mem ho=>?_
    have I2 : Inv X pins σ H1 { s1 with heap:=h1,toks:=tk,drawn:=dr }:=I1.call' (s':={ s1 with heap:=h1,toks:=tk,drawn:=dr }) (ch:=[]) rfl (Un.kept k1) (I1.hok.kept k1) I1.bare (fun _ z=>nomatch z)
    have hz : (ns.map V.int).length ≤ sizeLine:=by rw [List.length_map]; exact di (m:=64) (Nat.le_of_lt (h64 ns nd fun k hk=>(mem k).mp hk))
    exact ⟨.ref h1.objs.size,_,I2.laid (t':=tk) (o:=.lst (ns.map V.int)) k2 (Nat.le_refl _) ⟨hz,out,e,kX i1,ho⟩,rfl,q _ ns I2.fresh (ph pw nd) mem⟩) h2 rfl))
theorem iJ (ns : List Int) : (ns.map V.int).all eQ = true:=by rw [List.all_eq_true]; intro v hv; obtain ⟨i,_,rfl⟩:=List.mem_map.mp hv; rfl
theorem jD (x : Int) (ns : List Int) : inV (.int x) (ns.map V.int) = decide (x ∈ ns):=by
  unfold inV
  rw [List.any_map,Bool.eq_iff_iff,decide_eq_true_iff,List.any_eq_true]
  constructor
  · rintro ⟨y,hy,e⟩
    have : y = x:=by simpa [eqV] using e
    exact this ▸ hy
  · intro h
    exact ⟨x,h,by simp [eqV]⟩
theorem ig {ns : List Int} {i : Nat} {x : V} (h : (ns.map V.int)[i]? = some x) : ∃ z,ns[i]? = some z∧x = .int z:=by
  rw [List.getElem?_map] at h
  cases e : ns[i]? with
  | none=>rw [e] at h; cases h
  | some z=>rw [e] at h; exact ⟨z,rfl,(Option.some.inj h).symm⟩
theorem fg {n m : Nat} (h : n ≤ m) (hm : m + 1 ≤ 1000000:=by decide) : n < sizeLine:=di (n:=n + 1) (m:=m + 1) (Nat.succ_le_succ h) hm
def del (H : Hp) (g : Addr) : Hp:=fun b=>if b = g then none else H b
theorem aU {H : Hp} {g b : Addr} (h : b ≠ g) : del H g b = H b:=if_neg h
theorem bY {H : Hp} {g : Addr} {o : HO} : del (upd H g o) g = del H g:=by
  funext b
  by_cases e : b = g
  · unfold del; rw [if_pos e,if_pos e]
  · rw [aU e,aU e,aq e]
theorem bG (H : Hp) (g : Addr) : Same (del H g) H:=fun b o e=>by
  by_cases q : b = g
  · unfold del at e; rw [if_pos q] at e; cases e
  · rw [aU q] at e; exact e
theorem bI {H H' : Hp} (s : Same H H') (g : Addr) : Same (del H g) (del H' g):=fun b o e=>by
  by_cases q : b = g
  · unfold del at e; rw [if_pos q] at e; cases e
  · rw [aU q] at e; rw [aU q]; exact s b o e
def mY (H H2 : Hp) (g : Addr) : Hp:=fq H (del H2 g)
structure Bld {α : Type} (R : Rel α) (H H2 : Hp) (g : Addr) (xs : List α) : Prop where
  g0 : H g = none
  s : Same H H2
  ex : ∃ vs,H2 g = some (.lst vs)∧Paired (R (mY H H2 g)) xs vs
section
variable {α : Type} {R : Rel α} {H H1 H2 H3 : Hp} {g : Addr} {xs : List α}
theorem Bld.start (s : Same H H1) (h : H1 g = none) : Bld R H (upd H1 g (.lst [])) g []:=⟨s.free h,s.trans (ah h _),[],ae,.nil⟩
theorem Bld.go (m : MonoR R) (b : Bld R H H2 g xs) (s : Same H2 H3) : Bld R H H3 g xs:=by
  obtain ⟨g0,s0,vs,h,p⟩:=b
  exact ⟨g0,s0.trans s,vs,s _ _ h,bi m (fv (Same.refl _) (bI s g)) p⟩
theorem Bld.push (m : MonoR R) (b : Bld R H H2 g xs) (s : Same H2 H3) {x : α} {v : V} (r : R (fq H2 H3) x v) : ∃ vs,H3 g = some (.lst vs)∧vs.length = xs.length∧Bld R H (upd H3 g (.lst (vs ++ [v]))) g (xs ++ [x]):=by
  have b3:=b.go m s
  obtain ⟨g0,s0,vs,h,p⟩:=b3
  refine ⟨vs,h,p.length.symm,g0,s0.put g0 _,vs ++ [v],ae,?_⟩
  have e : mY H (upd H3 g (.lst (vs ++ [v]))) g = mY H H3 g:=by unfold mY; rw [bY]
  rw [e]
  refine Paired.app p (.cons (m.up (fun c o q=>?_) r) .nil)
  have hc2 : H2 c = none:=by
    cases z : H2 c with
    | none=>rfl
    | some u=>rw [iM z] at q; cases q
  rw [db hc2] at q
  have hcg : c ≠ g:=fun z=>by subst z; rw [b.ex.choose_spec.1] at hc2; cases hc2
  unfold mY
  rw [db (b.s.free hc2),aU hcg]; exact q
theorem Bld.done (m : MonoR R) (b : Bld R H H2 g xs) : jG R (fq H H2) xs (.ref g):=by
  obtain ⟨g0,s0,vs,h,p⟩:=b
  exact ⟨g,vs,rfl,by rw [db g0]; exact h,bi m (fv (Same.refl _) (bG _ _)) p⟩
theorem Bld.sq (b : Bld R H H2 g xs) : ∃ vs,H2 g = some (.lst vs)∧vs.length = xs.length:=by
  obtain ⟨vs,h,p⟩:=b.ex
  exact ⟨vs,h,p.length.symm⟩
end
theorem pu {H H1 H2 : Hp} (s : Same H1 H2) : Same (fq H H1) (fq H H2):=fv (Same.refl _) s
theorem gO {vs : List V} {z : Int} {v : V} (h0 : 0 ≤ z) (h : vs[z.toNat]? = some v) : atI vs z = some v:=by
  have:=ar h
  rwa [Int.toNat_of_nonneg h0] at this
section
variable {X : Cx} {K : PySem.W.Frag} (hK : X.K = K)
include hK
theorem ixL : IxR X (tz K):=by subst hK; exact pW
theorem ixT : IxR X (sN K):=by subst hK; exact rf
theorem oQ : OpR X (compareOp .NotIn) (rIn K true):=by subst hK; exact iY
theorem cD : dW X (.builtin "len") (fun xs H Q=>∃ p ys,xs = [.ref p]∧(SqL K H p ys ∨ SqT K H p ys)∧Q (.int ys.length) H):=by subst hK; exact iX
theorem rH : dW X (.type "list") (fun xs H Q=>∃ p ys,xs = [.ref p]∧(SqL K H p ys ∨ SqT K H p ys)∧∀ l,H l = none→Q (.ref l) (upd H l (.lst ys))):=by subst hK; exact jj
theorem ib {T : String} : dW X (.builtin "isinstance") (fun xs H Q=>∃ x S b,xs = [x,.ty T]∧kindV H x S∧PySem.W.kitOne K (.type S) (.type T) = some b∧Q (.bl b) H):=by subst hK; exact nL
theorem pA {x y : Str} {p1 p2 pos : Pos} {k : Nat} (hc : X.calm = true) (hN : X.N.Nodup) (h0 : X.N[0]? = some x) (h1 : X.N[1]? = some y) (hx : X.env.scope.names.lookup x = some .local) (hy : X.env.scope.names.lookup y = some .local) :
    PTg X 2 (.Tuple [.Name x p1,.Name y p2] k pos) (nu K 2):=by subst hK; exact nA hc hN h0 h1 hx hy
end
theorem bL {K : PySem.W.Frag} {a : Addr} {xs : List V} {tt : TTg} {tc : TT} {te : TE} {cap : List Nat} {σ : St} {H : Hp} {D : Addr→List V→Hp→Prop} (Pv : Nat→List V→Hp→Prop) (h0 : Pv 0 [] H) (hz : xs.length ≤ sizeLine) (hl : ∀ i ys H,i ≤ xs.length→Pv i ys H→SqL K H a xs∧ys.length ≤ i)
    (hs : ∀ i x ys H,xs[i]? = some x→Pv i ys H→tt x H fun ws=>tc (ws.map some ++ cv σ cap) H fun b H4=>if b = true then te (ws.map some ++ cv σ cap) H4 fun y H5=>Pv (i + 1) (ys ++ [y]) H5 else Pv (i + 1) ys H4)
    (hd : ∀ ys H,Pv xs.length ys H→∀ p,H p = none→D p ys H) :
    ∃ W : Nat→Nat→List V→Hp→Prop,(∃ m,W 0 m [] H)∧∀ i m ys H2,W i m ys H2 →
    ((Itl K a).stop i H2∧ys.length ≤ sizeLine∧∀ p,H2 p = none→D p ys H2) ∨
    ((Itl K a).go i H2∧∃ N : List V→Hp→Prop,(∀ ys' H',N ys' H'→ys'.length ≤ sizeLine∧∃ m',m' < m∧W (i + 1) m' ys' H') ∧
      ∀ x H3,(Itl K a).yld i H2 x H3→tt x H3 fun ws=>tc (ws.map some ++ cv σ cap) H3 fun b H4 =>
        if b = true then te (ws.map some ++ cv σ cap) H4 fun y H5=>N (ys ++ [y]) H5 else N ys H4):=by
  refine ⟨fun i m ys H=>m = xs.length - i∧i ≤ xs.length∧Pv i ys H,⟨xs.length,by simp,Nat.zero_le _,h0⟩,?_⟩
  rintro i m ys H2 ⟨rfl,hi,p⟩
  obtain ⟨q,hy⟩:=hl i ys H2 hi p
  by_cases hlt : i < xs.length
  · refine .inr ⟨⟨xs,xs[i],q,by simp [hlt]⟩,Pv (i + 1),fun ys' H' r=>?_,fun x H3 y=>?_⟩
    · obtain ⟨_,h2⟩:=hl (i + 1) ys' H' hlt r
      exact ⟨by omega,xs.length - (i + 1),by omega,rfl,hlt,r⟩
    · obtain ⟨e,y⟩:=y
      subst e
      exact hs i x ys _ (y xs q) p
  · have e : i = xs.length:=by omega
    subst e
    exact .inl ⟨⟨xs,q,Nat.le_refl _⟩,by omega,hd ys H2 p⟩
theorem jz {lo : Int} {n : Nat} {tt : TTg} {tc : TT} {te : TE} {cap : List Nat} {σ : St} {H : Hp} {D : Addr→List V→Hp→Prop} (Pv : Nat→List V→Hp→Prop) (h0 : Pv 0 [] H) (hz : n ≤ sizeLine) (hl : ∀ i ys H,i ≤ n→Pv i ys H→ys.length ≤ i)
    (hs : ∀ i ys H,i < n→Pv i ys H→tt (.int (lo + i)) H fun ws=>tc (ws.map some ++ cv σ cap) H fun b H4=>if b = true then te (ws.map some ++ cv σ cap) H4 fun y H5=>Pv (i + 1) (ys ++ [y]) H5 else Pv (i + 1) ys H4)
    (hd : ∀ ys H,Pv n ys H→∀ p,H p = none→D p ys H) :
    ∃ W : Nat→Nat→List V→Hp→Prop,(∃ m,W 0 m [] H)∧∀ i m ys H2,W i m ys H2 →
    ((Itr lo n).stop i H2∧ys.length ≤ sizeLine∧∀ p,H2 p = none→D p ys H2) ∨
    ((Itr lo n).go i H2∧∃ N : List V→Hp→Prop,(∀ ys' H',N ys' H'→ys'.length ≤ sizeLine∧∃ m',m' < m∧W (i + 1) m' ys' H') ∧
      ∀ x H3,(Itr lo n).yld i H2 x H3→tt x H3 fun ws=>tc (ws.map some ++ cv σ cap) H3 fun b H4 =>
        if b = true then te (ws.map some ++ cv σ cap) H4 fun y H5=>N (ys ++ [y]) H5 else N ys H4):=by
  refine ⟨fun i m ys H=>m = n - i∧i ≤ n∧Pv i ys H,⟨n,by simp,Nat.zero_le _,h0⟩,?_⟩
  rintro i m ys H2 ⟨rfl,hi,p⟩
  have hy:=hl i ys H2 hi p
  by_cases hlt : i < n
  · refine .inr ⟨hlt,Pv (i + 1),fun ys' H' r=>?_,fun x H3 y=>?_⟩
    · have h2:=hl (i + 1) ys' H' hlt r
      exact ⟨by omega,n - (i + 1),by omega,rfl,hlt,r⟩
    · obtain ⟨e,y⟩:=y
      subst e; subst y
      exact hs i ys _ hlt p
  · have e : i = n:=by omega
    subst e
    exact .inl ⟨Nat.le_refl _,by omega,hd ys H2 p⟩
theorem Inv.turnedL {X : Cx} {pins : List (Addr × Obj)} {σ : St} {H : Hp} {s : Shared} {h' : Heap} {t' : Nat} {ch : List Addr} (I : Inv X pins σ H s) (hf : ∀ b ∈ ch,FpOk X pins H b) (k : ∀ b o,b ∉ ch→s.heap.get? b = some o→h'.get? b = some o) :
    Inv X pins σ H { s with heap:=h',toks:=t' }:=by
  have nit : ∀ b u,H b = some u→b ∉ ch:=fun b u e z=>by rw [(hf b z).1] at e; cases e
  refine I.step (g':=s.gens) (d':=s.drawn) (ch:=ch) (fun b hb=>?_) (fun b o _ _ hc e _=>k b o hc e) (fun b o _ _ hc e _=>⟨o.slots,k b o hc e⟩) (fun _ _ _ _ n=>n)
    (fun b o hc e=>⟨o,k b o hc e⟩) (fun _ _ e=>e) (fun _ _ _ e=>e) (fun b ps e=>⟨#[],by rw [e]; simp⟩) (fun m hm=>?_) (fun b u e=>?_) I.bare
  · obtain ⟨_,h1,_,h3,h4,h5⟩:=hf b hb
    exact ⟨h3,h1,h4,h5⟩
  · obtain ⟨o,es,ep,ho,r⟩:=hm
    exact ⟨o,es,ep,k _ o (fun z=>(hf _ z).2.1 rfl) ho,r⟩
  · refine (I.hok b u e).stay (fun c v hc q=>k c v ?_ q) (fun _ q=>q) fun _ _ q=>q
    rcases hc with z | z
    · rw [z]; exact nit b u e
    · exact nit c _ z
theorem Inv.adopt {X : Cx} {pins : List (Addr × Obj)} {σ : St} {H : Hp} {s : Shared} {T : Addr} {o : HO} (I : Inv X pins σ H s) (hf : FpOk X pins H T) (new : ObjOk X.prog X.w (upd H T o) s.heap T o) : Inv X pins σ (upd H T o) s:=by
  obtain ⟨h0,h1,h2,h3,h4,h5⟩:=hf
  refine I.step (h':=s.heap) (g':=s.gens) (d':=s.drawn) (t':=s.toks) (ch:=[T]) (fun b hb=>?_) (fun b u _ _ _ e _=>e) (fun b u _ _ _ e _=>⟨u.slots,e⟩) (fun b u hc e n=>?_)
    (fun b u _ e=>⟨u,e⟩) (fun b xs e=>?_) (fun b u v e=>?_) (fun b ps e=>⟨#[],?_⟩) (fun m hm=>hm) (I.hok.adopt h0 new) I.bare
  · have e : b = T:=by simpa using hb
    subst e
    exact ⟨h3,h1,h4,h5⟩
  · rw [aq (fun z=>hc (by simp [z]))]; exact n
  · rw [aq (ay e h0)]; exact e
  · rw [aq (ay e h0)]; exact e
  · rw [aq (ay e h0),e]; simp
def Ite (K : PySem.W.Frag) (a : Addr) : It :=
  ⟨fun i H=>∃ xs x,SqL K H a xs∧xs[i]? = some x,fun i H v H'=>∃ T x,v = .ref T∧H T = none∧(∀ xs,SqL K H a xs→xs[i]? = some x)∧H' = upd H T (.tup [.int (i : Nat),x]),fun i H=>∃ xs,SqL K H a xs∧xs.length ≤ i⟩
theorem lW {P : Program} {w : World} {K : PySem.W.Frag} {elts : List Expr} {k : Nat} {pos : Pos} (a e it : Addr) (hne : e ≠ it) : Turn P w K (.Tuple elts k pos) (Ite K a) [e,it] e (fun i h=>(∃ old,IsEnum h e it (i : Nat) old)∧h.IsListIter it a i) where
  mem:=by simp
  obj := fun i h st b hb=>by
    obtain ⟨⟨old,s1⟩,o,e1,c,d⟩:=st
    rcases List.mem_cons.mp hb with z | z
    · subst z
      exact ⟨_,s1,fun v z=>by cases z⟩
    · have z : b = it:=by simpa using z
      subst z
      exact ⟨o,e1,fun v z=>by rw [d] at z; cases z⟩
  keep:=fun i h h' st k=>⟨by obtain ⟨⟨old,s1⟩,_⟩:=st; exact ⟨old,k e (by simp) _ s1⟩,st.2.at fun o q=>k it (by simp) o q⟩
  item:=by
    intro X hP hw hK hc i pins s σ H E I hf st hg
    subst hP hw hK
    obtain ⟨xs,x,hq,hx⟩:=hg
    obtain ⟨its,rv,p,hz⟩:=I.list hq
    obtain ⟨u,hu,ru⟩:=rv.get hx
    obtain ⟨⟨old,s1⟩,s2⟩:=st
    have le : e < s.heap.objs.size:=Heap.lt_size s1
    refine wpAny_pyNext_enum_item s1 s2 p.isList (x:=u) (by simpa using hu) hne fun h' ho hi' ht hsz kp=>?_
    refine ⟨_,rfl,wpAny_letOwnedTupleGo_enum ho fun h2 he2 sb=>?_⟩
    have I1 : Inv X pins σ H { s with heap:=h2,toks:=s.toks + 1 }:=I.turnedL (t':=s.toks + 1) (ch:=[e,it]) hf fun b o hb q=>by
      have hbe : b ≠ e:=fun z=>hb (by simp [z])
      have hbi : b ≠ it:=fun z=>hb (by simp [z])
      exact (sb.2 b hbe).trans (kp b o hbe hbi q)
    have hT : h2.get? s.heap.objs.size = some { cls:=.type "tuple",data:=.seq #[Value.int (i : Nat) s.toks,u] }:=(sb.2 _ (Nat.ne_of_gt le)).trans ht
    have hfr : H s.heap.objs.size = none:=I.hok.fresh (Nat.le_refl _)
    have vs2 : Vals [V.int (i : Nat),x] [Value.int (i : Nat) s.toks,u]:=.cons ⟨s.toks,rfl⟩ (.cons ru .nil)
    have I2:=I1.adopt (o:=.tup [.int (i : Nat),x]) (I.fpOk (Nat.le_refl _) hfr) ⟨(by show 2 ≤ sizeLine; decide),[Value.int (i : Nat) s.toks,u],vs2,⟨_,hT,rfl,_,rfl⟩⟩
    have en : IsEnum h2 e it ((i + 1 : Nat) : Int) u:=by
      have e1 : ((i + 1 : Nat) : Int) = ((i : Nat) : Int) + 1:=by omega
      rw [e1]; exact he2
    refine ⟨.ref s.heap.objs.size,_,I2,rfl,⟨_,x,rfl,hfr,fun ys hy=>by rw [I.list_inj hy hq]; exact hx,rfl⟩,⟨⟨u,en⟩,hi'.at fun o q=>(sb.2 it (Ne.symm hne)).trans q⟩,fun b hb=>?_⟩
    rw [aq (fun z=>?_)]
    · exact (hf b hb).1
    · subst z
      rcases List.mem_cons.mp hb with z | z
      · exact absurd z (Nat.ne_of_gt le)
      · have z : s.heap.objs.size = it:=by simpa using z
        obtain ⟨o,q,_⟩:=s2
        exact absurd z (Nat.ne_of_gt (Heap.lt_size q))
  done:=by
    intro X hP hw hK hc i pins s σ H E I hf st hg
    subst hP hw hK
    obtain ⟨xs,hq,hx⟩:=hg
    obtain ⟨its,rv,p,hz⟩:=I.list hq
    obtain ⟨⟨old,s1⟩,s2⟩:=st
    have hl:=rv.length
    refine wpAny_pyNext_enum_end (I.ok.hd hc) s1 s2 p.isList (by simp; omega) fun h' eb=>⟨rfl,?_⟩
    exact I.turnedL (t':=s.toks) (ch:=[it]) (fun b hb=>hf b (List.mem_cons_of_mem _ hb)) fun b o hb q=>eb b o (fun z=>hb (by simp [z])) q
  self:=fun _ _ _ _ _ st h=>wpAny_pyIter_enum st.1.choose_spec h
def tu (K : PySem.W.Frag) (ta : TA) : TI:=fun σ H R=>ta σ H fun vs H1=>∃ a,vs = [.ref a]∧(∃ xs,SqL K H1 a xs)∧R (Ite K a) H1
theorem pC {X : Cx} {K : PySem.W.Frag} {elts : List Expr} {k : Nat} {tpos : Pos} {l : Expr} {ta : TA} {p pos : Pos} (hK : X.K = K) (hg : Gl X "enumerate") (hm : X.mg "enumerate" = none) (ha : PA X [l] ta) (hs : starEach [l] X.env = [(false,eval l X.env)]:=by rfl) :
    PI X (.Tuple elts k tpos) (.Call (.Name "enumerate" p) [l] [] pos) (tu K ta):=by
  subst hK
  intro pins s σ H R I h
  refine Call_ (cx I hg hm PyProof.Rows.boot_enumerate (PyProof.Rows.callWith_type1 (thn (ha pos pins s σ H _ I h) fun us s1 hm0=>?_) hs rfl))
  obtain ⟨vs,H1,I1,r1,q1⟩:=hm0
  obtain ⟨a,rfl,⟨xs,hq⟩,q⟩:=q1
  obtain ⟨u,rfl,ru⟩:=dC r1
  cases ru
  obtain ⟨its,rv,p,hz⟩:=I1.list hq
  refine call_enumerate_list p.isList fun h' he hi hsz kp=>?_
  refine wpAny_pyIter_enum he ?_
  refine ⟨s1.heap.objs.size + 1,[s1.heap.objs.size + 1,s1.heap.objs.size],_,_,H1,rfl,I1.kept (t':=s1.toks) kp,lW a _ _ (Nat.succ_ne_self _),⟨⟨_,he⟩,hi⟩,fun b hb=>?_,q⟩
  have hb' : s1.heap.objs.size ≤ b:=by
    rcases List.mem_cons.mp hb with z | z
    · rw [z]; exact Nat.le_succ _
    · have z : b = s1.heap.objs.size:=by simpa using z
      rw [z]; exact Nat.le_refl _
  exact I1.fpOk hb' (I1.hok.fresh hb')
theorem n4 {K : PySem.W.Frag} {a : Addr} {xs : List V} {g : TG} {tb : TS} {D : Ends} {σ : St} {H : Hp} (Pv : Nat→St→Hp→Prop) (h0 : Pv 0 σ H) (hl : ∀ i σ H,i ≤ xs.length→Pv i σ H→SqL K H a xs)
    (hs : ∀ i x σ H T,xs[i]? = some x→Pv i σ H→H T = none→g (.ref T) σ (upd H T (.tup [.int (i : Nat),x])) fun σ2 H2=>tb { D with nx:=Pv (i + 1),ct:=Pv (i + 1),bk:=D.nx } σ2 H2) (hd : ∀ σ H,Pv xs.length σ H→D.nx σ H) :
    ∃ W : Nat→Nat→St→Hp→Prop,(∃ m,W 0 m σ H)∧∀ i m σ H,W i m σ H →
      ((Ite K a).stop i H∧D.nx σ H) ∨ ((Ite K a).go i H∧∃ N : St→Hp→Prop,(∀ σ' H',N σ' H'→∃ m',m' < m∧W (i + 1) m' σ' H')∧∀ x H',(Ite K a).yld i H x H'→g x σ H' fun σ2 H2=>tb { D with nx:=N,ct:=N,bk:=D.nx } σ2 H2):=by
  refine ⟨fun i m σ H=>m = xs.length - i∧i ≤ xs.length∧Pv i σ H,⟨xs.length,by simp,Nat.zero_le _,h0⟩,?_⟩
  rintro i m σ H ⟨rfl,hi,p⟩
  have q:=hl i σ H hi p
  by_cases hlt : i < xs.length
  · refine .inr ⟨⟨xs,xs[i],q,by simp [hlt]⟩,Pv (i + 1),fun σ' H' p'=>⟨xs.length - (i + 1),by omega,rfl,hlt,p'⟩,fun x H' y=>?_⟩
    obtain ⟨T,z,rfl,hT,y,rfl⟩:=y
    exact hs i z σ _ T (y xs q) p hT
  · have e : i = xs.length:=by omega
    subst e
    exact .inl ⟨⟨xs,q,Nat.le_refl _⟩,hd σ H p⟩
end L2
namespace L2
open PySem
section
variable {H H' : Hp} {r : Addr} {as : List Addr} {Ls : List (List Int)}
end
end L2
namespace L2
open PySem PySem.Spec PyProof.Rows
section
variable {X : Cx}
theorem gb {K : PySem.W.Frag} {e : Expr} {ta : TA} {p1 p2 pos1 pos2 : Pos} (hK : X.K = K) (hc : X.calm = true) (hg : Gl X "sorted") (hm : X.mg "sorted" = none) (hg2 : Gl X "set") (hm2 : X.mg "set" = none) (he : PA X [e] ta)
    (h1 : starEach [e] X.env = [(false,eval e X.env)]:=by rfl) (h2 : starEach [.Call (.Name "set" p2) [e] [] pos2] X.env = [(false,eval (.Call (.Name "set" p2) [e] [] pos2) X.env)]:=by rfl) :
    PE X (.Call (.Name "sorted" p1) [.Call (.Name "set" p2) [e] [] pos2] [] pos1) (qI K ta):=by subst hK; exact hX hc hg hm hg2 hm2 he h1 h2
end
section
variable {X : Cx}
end
def Itz (K : PySem.W.Frag) (a b : Addr) : It :=
  ⟨fun i H=>∃ xs ys x y,SqL K H a xs∧SqL K H b ys∧xs[i]? = some x∧ys[i]? = some y,
   fun i H v H'=>∃ T x y,v = .ref T∧H T = none∧(∀ xs,SqL K H a xs→xs[i]? = some x)∧(∀ ys,SqL K H b ys→ys[i]? = some y)∧H' = upd H T (.tup [x,y]),
   fun i H=>∃ xs ys,SqL K H a xs∧SqL K H b ys∧(xs.length ≤ i ∨ ys.length ≤ i)⟩
structure ZTurn (a b z TI TO i1 i2 : Addr) (i : Nat) (h : Heap) : Prop where
  zz : IsZip h z TI TO .none
  ti : IsPair h TI (.ref i1) (.ref i2)
  to : ∃ p q,IsPair h TO p q
  s1 : h.IsListIter i1 a i
  s2 : h.IsListIter i2 b i
theorem nj {P : Program} {w : World} {K : PySem.W.Frag} {elts : List Expr} {k : Nat} {pos : Pos} (a b z TI TO i1 i2 : Addr) (ap : ZipApart z TI TO i1 i2 a b) : Turn P w K (.Tuple elts k pos) (Itz K a b) [z,TI,TO,i1,i2] z (ZTurn a b z TI TO i1 i2) where
  mem:=by simp
  obj:=fun i h st c hc=>by
    obtain ⟨zz,ti,⟨p,q,to⟩,⟨o1,e1,c1,d1⟩,⟨o2,e2,c2,d2⟩⟩:=st
    simp only [List.mem_cons,List.not_mem_nil,or_false] at hc
    rcases hc with rfl | rfl | rfl | rfl | rfl
    · exact ⟨_,zz,fun v z=>by cases z⟩
    · exact ⟨_,ti,fun v z=>by cases z⟩
    · exact ⟨_,to,fun v z=>by cases z⟩
    · exact ⟨o1,e1,fun v z=>by rw [d1] at z; cases z⟩
    · exact ⟨o2,e2,fun v z=>by rw [d2] at z; cases z⟩
  keep:=fun i h h' st k=>by
    obtain ⟨zz,ti,⟨p,q,to⟩,s1,s2⟩:=st
    exact ⟨k z (by simp) _ zz,k TI (by simp) _ ti,⟨p,q,k TO (by simp) _ to⟩,s1.at fun o q=>k i1 (by simp) o q,s2.at fun o q=>k i2 (by simp) o q⟩
  item:=by
    intro X hP hw hK hc i pins s σ H E I hf st hg
    subst hP hw hK
    obtain ⟨xs,ys,x,y,hq,hq2,hx,hy⟩:=hg
    obtain ⟨its,rv,p,hz⟩:=I.list hq
    obtain ⟨its2,rv2,p2,hz2⟩:=I.list hq2
    obtain ⟨u,hu,ru⟩:=rv.get hx
    obtain ⟨u2,hu2,ru2⟩:=rv2.get hy
    obtain ⟨zz,ti,⟨pp,qq,to⟩,s1,s2⟩:=st
    have lz : z < s.heap.objs.size:=Heap.lt_size zz
    refine wpAny_pyNext_zip_item ap zz ti to s1 s2 p.isList p2.isList (x:=u) (y:=u2) (by simpa using hu) (by simpa using hu2) fun h' zo to' s1' s2' ht hsz kp=>?_
    refine ⟨_,rfl,wpAny_letOwnedTupleGo_zip zo fun h2 zz2 sb=>?_⟩
    have I1 : Inv X pins σ H { s with heap:=h2 }:=I.turnedL (t':=s.toks) (ch:=[z,TI,TO,i1,i2]) hf fun c o hc q=>by
      simp only [List.mem_cons,List.not_mem_nil,or_false,not_or] at hc
      exact (sb.2 c hc.1).trans (kp c o hc.1 hc.2.2.1 hc.2.2.2.1 hc.2.2.2.2 q)
    have hT : h2.get? s.heap.objs.size = some { cls:=.type "tuple",data:=.seq #[u,u2] }:=(sb.2 _ (Nat.ne_of_gt lz)).trans ht
    have hfr : H s.heap.objs.size = none:=I.hok.fresh (Nat.le_refl _)
    have I2:=I1.adopt (o:=.tup [x,y]) (I.fpOk (Nat.le_refl _) hfr) ⟨(by show 2 ≤ sizeLine; decide),[u,u2],.cons ru (.cons ru2 .nil),⟨_,hT,rfl,_,rfl⟩⟩
    have hti : IsPair h2 TI (.ref i1) (.ref i2):=(sb.2 TI ap.TIz).trans (kp TI _ ap.TIz ap.TITO ap.TIi1 ap.TIi2 ti)
    refine ⟨.ref s.heap.objs.size,_,I2,rfl,⟨_,x,y,rfl,hfr,(fun zs hzs=>by rw [I.list_inj hzs hq]; exact hx),(fun zs hzs=>by rw [I.list_inj hzs hq2]; exact hy),rfl⟩,
      ⟨zz2,hti,⟨u,u2,(sb.2 TO ap.TOz).trans to'⟩,s1'.at fun o q=>(sb.2 i1 ap.i1z).trans q,s2'.at fun o q=>(sb.2 i2 ap.i2z).trans q⟩,fun c hc=>?_⟩
    rw [aq (fun e=>?_)]
    · exact (hf c hc).1
    · subst e
      obtain ⟨o1,e1,_⟩:=s1
      obtain ⟨o2,e2,_⟩:=s2
      simp only [List.mem_cons,List.not_mem_nil,or_false] at hc
      rcases hc with h | h | h | h | h
      · exact absurd h (Nat.ne_of_gt lz)
      · exact absurd h (Nat.ne_of_gt (Heap.lt_size ti))
      · exact absurd h (Nat.ne_of_gt (Heap.lt_size to))
      · exact absurd h (Nat.ne_of_gt (Heap.lt_size e1))
      · exact absurd h (Nat.ne_of_gt (Heap.lt_size e2))
  done:=by
    intro X hP hw hK hc i pins s σ H E I hf st hg
    subst hP hw hK
    obtain ⟨xs,ys,hq,hq2,hx⟩:=hg
    obtain ⟨its,rv,p,hz⟩:=I.list hq
    obtain ⟨its2,rv2,p2,hz2⟩:=I.list hq2
    have hl:=rv.length
    have hl2:=rv2.length
    obtain ⟨zz,ti,⟨pp,qq,to⟩,s1,s2⟩:=st
    refine wpAny_pyNext_zip_end (I.ok.hd hc) ap zz ti to s1 s2 p.isList p2.isList ?_ fun h' kp=>⟨rfl,?_⟩
    · rcases hx with h | h
      · exact .inl (by simp; (clear hc hf hz hz2 hl2; omega))
      · exact .inr (by simp; (clear hc hf hz hz2 hl; omega))
    · exact I.turnedL (t':=s.toks) (ch:=[z,TI,TO,i1,i2]) hf fun c o hc q=>by
        simp only [List.mem_cons,List.not_mem_nil,or_false,not_or] at hc
        exact kp c o hc.1 hc.2.2.1 hc.2.2.2.1 hc.2.2.2.2 q
  self:=fun _ _ _ _ _ st h=>wpAny_pyIter_zip st.zz h
theorem ml (n a b : Nat) (la : a < n) (lb : b < n) : ZipApart (n + 4) (n + 2) (n + 3) n (n + 1) a b:=by
  constructor
  all_goals (intro h; have h' : (_ : Nat) = _:=h; omega)
def tM (K : PySem.W.Frag) (ta : TA) : TI:=fun σ H R=>ta σ H fun vs H1=>∃ a b,vs = [.ref a,.ref b]∧(∃ xs,SqL K H1 a xs)∧(∃ ys,SqL K H1 b ys)∧R (Itz K a b) H1
theorem jk {X : Cx} {K : PySem.W.Frag} {elts : List Expr} {k : Nat} {tpos : Pos} {l l2 : Expr} {ta : TA} {p pos : Pos} (hK : X.K = K) (hg : Gl X "zip") (hm : X.mg "zip" = none) (ha : PA X [l,l2] ta) (hs : starEach [l,l2] X.env = (false,eval l X.env) :: starEach [l2] X.env:=by rfl)
    (hs2 : (backTo pos (starEach [l2] X.env)).any (·.1) = false:=by rfl) :
    PI X (.Tuple elts k tpos) (.Call (.Name "zip" p) [l,l2] [] pos) (tM K ta):=by
  subst hK
  intro pins s σ H R I h
  refine Call_ (cx I hg hm PyProof.Rows.boot_zip (PyProof.Rows.callWith_type1 (thn (ha pos pins s σ H _ I h) fun us s1 hm0=>?_) hs hs2))
  obtain ⟨vs,H1,I1,r1,q1⟩:=hm0
  obtain ⟨a,b,rfl,⟨xs,hq⟩,⟨ys,hq2⟩,q⟩:=q1
  cases r1 with
  | cons ra rr =>
    cases ra
    obtain ⟨u,rfl,ru⟩:=dC rr
    cases ru
    obtain ⟨its,rv,p,hz⟩:=I1.list hq
    obtain ⟨its2,rv2,p2,hz2⟩:=I1.list hq2
    have la : a < s1.heap.objs.size:=by obtain ⟨o,e,_⟩:=p.isList; exact Heap.lt_size e
    have lb : b < s1.heap.objs.size:=by obtain ⟨o,e,_⟩:=p2.isList; exact Heap.lt_size e
    refine call_zip_2 p.isList p2.isList fun h' zz ti to i1 i2 hsz kp=>?_
    refine wpAny_pyIter_zip zz ?_
    refine ⟨s1.heap.objs.size + 4,[s1.heap.objs.size + 4,s1.heap.objs.size + 2,s1.heap.objs.size + 3,s1.heap.objs.size,s1.heap.objs.size + 1],_,_,H1,rfl,I1.kept (t':=s1.toks) kp,nj a b _ _ _ _ _ (ml _ a b la lb),⟨zz,ti,⟨_,_,to⟩,i1,i2⟩,fun c hc=>?_,q⟩
    have hc' : s1.heap.objs.size ≤ c:=by
      simp only [List.mem_cons,List.not_mem_nil,or_false] at hc
      rcases hc with rfl | rfl | rfl | rfl | rfl
      · exact Nat.le_add_right _ _
      · exact Nat.le_add_right _ _
      · exact Nat.le_add_right _ _
      · exact Nat.le_refl _
      · exact Nat.le_add_right _ _
    exact I1.fpOk hc' (I1.hok.fresh hc')
theorem fQ {K : PySem.W.Frag} {a b : Addr} {xs ys : List V} {g : TG} {tb : TS} {D : Ends} {σ : St} {H : Hp} (hlen : xs.length = ys.length) (Pv : Nat→St→Hp→Prop) (h0 : Pv 0 σ H) (hl : ∀ i σ H,i ≤ xs.length→Pv i σ H→SqL K H a xs∧SqL K H b ys)
    (hs : ∀ i x y σ H T,xs[i]? = some x→ys[i]? = some y→Pv i σ H→H T = none→g (.ref T) σ (upd H T (.tup [x,y])) fun σ2 H2=>tb { D with nx:=Pv (i + 1),ct:=Pv (i + 1),bk:=D.nx } σ2 H2) (hd : ∀ σ H,Pv xs.length σ H→D.nx σ H) :
    ∃ W : Nat→Nat→St→Hp→Prop,(∃ m,W 0 m σ H)∧∀ i m σ H,W i m σ H →
      ((Itz K a b).stop i H∧D.nx σ H) ∨ ((Itz K a b).go i H∧∃ N : St→Hp→Prop,(∀ σ' H',N σ' H'→∃ m',m' < m∧W (i + 1) m' σ' H')∧∀ x H',(Itz K a b).yld i H x H'→g x σ H' fun σ2 H2=>tb { D with nx:=N,ct:=N,bk:=D.nx } σ2 H2):=by
  refine ⟨fun i m σ H=>m = xs.length - i∧i ≤ xs.length∧Pv i σ H,⟨xs.length,by simp,Nat.zero_le _,h0⟩,?_⟩
  rintro i m σ H ⟨rfl,hi,p⟩
  obtain ⟨q,q2⟩:=hl i σ H hi p
  by_cases hlt : i < xs.length
  · refine .inr ⟨⟨xs,ys,xs[i],ys[i]'(by omega),q,q2,by simp [hlt],by simp⟩,Pv (i + 1),fun σ' H' p'=>⟨xs.length - (i + 1),by (clear hlen hl hs hd hi; omega),rfl,hlt,p'⟩,fun x H' y=>?_⟩
    obtain ⟨T,u,v,rfl,hT,e1,e2,rfl⟩:=y
    exact hs i u v σ _ T (e1 xs q) (e2 ys q2) p hT
  · have e : i = xs.length:=by (clear hlen hl hs hd; omega)
    subst e
    exact .inl ⟨⟨xs,ys,q,q2,.inl (Nat.le_refl _)⟩,hd σ H p⟩
section
variable {X : Cx}
end
section
variable {P : Program} {w : World} {A : Around} {E : Value→Shared→Prop} {s : Shared}
end
end L2
namespace L2
open PySem PySem.Spec PySem.W PyProof.Rows PySem.Builtin PySem.Builtin.ObjectAttr PySem.Builtin.Getset_descriptor
section
variable {prog : Program} {w : World} {A : Around} {E : Value→Shared→Prop} {s : Shared} {K : Frag} {x C : Addr}
end
end L2
namespace L2
open PySem PySem.Spec PyProof.Rows
section
variable {X : Cx} {pins : List (Addr × Obj)} {σ : St} {H : Hp} {s : Shared}
end
section
variable {X : Cx}
end
section
variable {P : Program} {w : World} {K : PySem.W.Frag} {mg : Str→Option Value} {base : Heap}
end
section
variable {X : Cx} {pins : List (Addr × Obj)} {σ : St} {H : Hp} {s : Shared}
end
section
variable {X : Cx} {CX : CXT} {k : Nat} {f : Addr} {fd : FuncData} {ps : List Str} {sp : Sp} {E : XK} {x : Str} {p pos : Pos} {e : Expr} {es : List Expr} {t : TA} {pins : List (Addr × Obj)} {σ : St} {H : Hp} {s : Shared} {Q : VK} {EE : Value→Shared→Prop}
end
section
variable {X : Cx} {x y g n : Str} {i j m k : Nat} {ps : List Str} {sp : Sp} {p py pos epos np hpos tpos : Pos} {e : Expr} {es : List Expr} {t : TA} {th : TS} {G : Addr} {b0 : Stmt} {suite : List Stmt}
end
section
variable {X : Cx}
end
section
variable {X : Cx}
end
section
variable {X : Cx}
end
section
variable {X : Cx}
end
section
variable {X : Cx} {pins : List (Addr × Obj)} {σ : St} {H : Hp} {s : Shared}
end
end L2
namespace L2
open PySem PyProof.Rows
section
variable {prog : Program} {w : World} {A : Around} {E : Value→Shared→Prop} {s : Shared}
end
section
variable {prog : Program} {w : World} {A : Around} {E : Value→Shared→Prop} {s : Shared}
end
section
variable {prog : Program} {w : World} {A : Around} {E : Value→Shared→Prop} {s : Shared}
end
section
variable {a₀ : Array Keyed} {pd : Array (Nat × Nat × Nat)} {st : SortSt}
variable {prog : Program} {w : World} {A : Around} {E : Value→Shared→Prop} {s : Shared}
end
section
variable {prog : Program} {w : World} {A : Around} {E : Value→Shared→Prop} {s : Shared} {a₀ : Array Keyed} {pd : Array (Nat × Nat × Nat)} {st : SortSt}
end
section
variable {prog : Program} {w : World} {A : Around} {E : Value→Shared→Prop} {s : Shared} {a₀ : Array Keyed} {st : SortSt}
end
end L2
namespace L2
open PySem PySem.Spec PyProof.Rows
section
variable {prog : Program} {w : World} {A : Around} {E : Value→Shared→Prop} {s : Shared}
end
section
variable {X : Cx}
end
section
variable {P : Program} {w : World} {K : PySem.W.Frag} {mg : Str→Option Value} {base : Heap}
end
end L2
namespace Law
open PySem L2
end Law
namespace L2
open PySem PySem.Spec PyProof.Rows
theorem qi {α : Type} [DecidableEq α] (x y : α) : (x == y) = decide (x = y):=by rw [Bool.eq_iff_iff]; simp
structure EqD {α : Type} [DecidableEq α] (n : Nat) (R : Rel α) : Prop where
  go : ∀ (X : Cx) (pins : List (Addr × Obj)) (σ : St) (H : Hp) (s : Shared) (A : Around) (x y : α) (v w : V) (u1 u2 : Value),
    Inv X pins σ H s→A.units + n < cLine→R H x v→R H y w→RelV v u1→RelV w u2→SeqAt.EqAt A s u1 u2 (decide (x = y))
  inj : ∀ (H : Hp) (x y : α) (v : V),R H x v→R H y v→x = y
structure RcD {α : Type} [DecidableEq α] (n : Nat) (R : Rel α) : Prop where
  go : ∀ (X : Cx) (pins : List (Addr × Obj)) (σ : St) (H : Hp) (s : Shared) (A : Around) (x y : α) (v w : V) (u1 u2 : Value),
    Inv X pins σ H s→A.units + n < cLine→R H x v→R H y w→RelV v u1→RelV w u2→SeqAt.RcAt A s u1 u2 (decide (x = y))∧SeqAt.RcNeAt A s u1 u2 (!decide (x = y))
  inj : ∀ (H : Hp) (x y : α) (v : V),R H x v→R H y v→x = y
theorem mQ : EqD 0 (r6 cg):=by
  refine ⟨fun X pins σ H s A x y v w u1 u2 I hu h1 h2 r1 r2=>?_,fun H x y v h1 h2=>?_⟩
  · cases x with
    | none =>
      have e1 : v = .non:=h1
      subst e1
      cases y with
      | none =>
        have e2 : w = .non:=h2
        subst e2
        have:=gA (A:=A) (s:=s) r1 r2 rfl rfl
        simpa [eqV,qi] using this
      | some y =>
        have e2 : w = .int y:=h2
        subst e2
        have:=gA (A:=A) (s:=s) r1 r2 rfl rfl
        simpa [eqV,qi] using this
    | some x =>
      have e1 : v = .int x:=h1
      subst e1
      cases y with
      | none =>
        have e2 : w = .non:=h2
        subst e2
        have:=gA (A:=A) (s:=s) r1 r2 rfl rfl
        simpa [eqV,qi] using this
      | some y =>
        have e2 : w = .int y:=h2
        subst e2
        have:=gA (A:=A) (s:=s) r1 r2 rfl rfl
        simpa [eqV,qi] using this
  · cases x with
    | none =>
      have e1 : v = .non:=h1
      cases y with
      | none=>rfl
      | some y=>have e2 : v = .int y:=h2; rw [e1] at e2; cases e2
    | some x =>
      have e1 : v = .int x:=h1
      cases y with
      | none=>have e2 : v = .non:=h2; rw [e1] at e2; cases e2
      | some y=>have e2 : v = .int y:=h2; rw [e1] at e2; injection e2 with e; rw [e]
theorem gi {α : Type} {R : Rel α} {H : Hp} (hj : ∀ (x y : α) (v : V),R H x v→R H y v→x = y) : ∀ {xs ys : List α} {vs : List V},Paired (R H) xs vs→Paired (R H) ys vs→xs = ys
  | _,_,_,.nil,.nil=>rfl
  | _,_,_,.cons r t,.cons r' t'=>by rw [hj _ _ _ r r',gi hj t t']
theorem mG {α : Type} {R : Rel α} {H : Hp} {xs ys : List α} {vs ws : List V} {us1 us2 : List Value} (p1 : Paired (R H) xs vs) (p2 : Paired (R H) ys ws) (r1 : Vals vs us1) (r2 : Vals ws us2) :
    us1.length = xs.length∧us2.length = ys.length∧∀ (j : Nat) (a b : Value),us1[j]? = some a→us2[j]? = some b→∃ x y v w,xs[j]? = some x∧ys[j]? = some y∧R H x v∧R H y w∧RelV v a∧RelV w b:=by
  have l1:=p1.length
  have l2:=p2.length
  have l3:=r1.length
  have l4:=r2.length
  refine ⟨by omega,by (clear l1 l3; omega),fun j a b ha hb=>?_⟩
  have hja:=(List.getElem?_eq_some_iff.mp ha).1
  have hjb:=(List.getElem?_eq_some_iff.mp hb).1
  have e1 : xs[j]? = some (xs[j]'(by (clear l2 l4 hjb; omega))):=by simp
  have e2 : ys[j]? = some (ys[j]'(by omega)):=by simp
  obtain ⟨v,hv,rv⟩:=Paired.at p1 e1
  obtain ⟨w,hw,rw'⟩:=Paired.at p2 e2
  obtain ⟨a',ha',ra⟩:=r1.get hv
  obtain ⟨b',hb',rb⟩:=r2.get hw
  rw [ha] at ha'; cases ha'
  rw [hb] at hb'; cases hb'
  exact ⟨_,_,v,w,e1,e2,rv,rw',ra,rb⟩
theorem rE {α : Type} [DecidableEq α] : ∀ (xs ys : List α),xs.length = ys.length→((List.range xs.length).all fun j=>decide (xs[j]? = ys[j]?)) = decide (xs = ys):=fun xs ys hl=>by
  rw [Bool.eq_iff_iff,List.all_eq_true,decide_eq_true_eq]
  constructor
  · intro h
    apply List.ext_getElem?
    intro j
    by_cases c : j < xs.length
    · exact of_decide_eq_true (h j (List.mem_range.mpr c))
    · rw [List.getElem?_eq_none (by (clear hl h; omega)),List.getElem?_eq_none (by omega)]
  · rintro rfl j _; simp
theorem qe {α : Type} [DecidableEq α] {n : Nat} {R : Rel α} (h : EqD n R) : RcD (n + 1) (jG R):=by
  refine ⟨fun X pins σ H s A xs ys v w u1 u2 I hu h1 h2 r1 r2=>?_,fun H xs ys v h1 h2=>?_⟩
  · obtain ⟨a,vs,e1,ha,p1⟩:=h1
    obtain ⟨b,ws,e2,hb,p2⟩:=h2
    subst e1; subst e2
    cases r1; cases r2
    obtain ⟨its,n1,rv1,o1,z1⟩:=I.lst ha
    obtain ⟨its2,n2,rv2,o2,z2⟩:=I.lst hb
    obtain ⟨el1,el2,f⟩:=mG p1 p2 rv1 rv2
    have hl1 : s.heap.IsList a its.toArray:=⟨_,o1,rfl,n1,rfl⟩
    have hl2 : s.heap.IsList b its2.toArray:=⟨_,o2,rfl,n2,rfl⟩
    by_cases hl : xs.length = ys.length
    · have he : ∀ j (h1 : j < its.toArray.size) (h2 : j < its2.toArray.size),SeqAt.EqAt A.in1 s its.toArray[j] its2.toArray[j] ((fun j=>decide (xs[j]? = ys[j]?)) j):=fun j h1 h2=>by
        obtain ⟨x,y,v,w,e1,e2,q1,q2,q3,q4⟩:=f j (its.toArray[j]) (its2.toArray[j]) (by simp) (by simp)
        have:=h.go X pins σ H s A.in1 x y v w _ _ I (by show A.units + 1 + n < cLine; omega) q1 q2 q3 q4
        show SeqAt.EqAt A.in1 s _ _ (decide (xs[j]? = ys[j]?))
        rw [e1,e2]
        have e9 : decide (some x = some y) = decide (x = y):=by simp
        rw [e9]; exact this
      have A1:=SeqAt.RcAt.lists hl1 hl2 (by simp; (clear hu z1 z2 f he; omega)) (by omega) he
      have A2:=SeqAt.RcNeAt.lists hl1 hl2 (by simp; (clear hu z1 z2 f he; omega)) (by omega) he
      have es : its.toArray.size = xs.length:=by simp; omega
      rw [es,rE xs ys hl] at A1 A2
      exact ⟨A1,A2⟩
    · have hne : (its.toArray.size != its2.toArray.size) = true:=by
        simp only [List.size_toArray,bne_iff_ne]; (clear hu z1 z2 f; omega)
      have e9 : decide (xs = ys) = false:=decide_eq_false fun z=>hl (by rw [z])
      rw [e9]
      exact ⟨SeqAt.RcAt.lists_lengths hl1 hl2 hne (by omega),SeqAt.RcNeAt.lists_lengths hl1 hl2 hne (by omega)⟩
  · obtain ⟨a,vs,e1,ha,p1⟩:=h1
    obtain ⟨b,ws,e2,hb,p2⟩:=h2
    rw [e1] at e2; cases e2
    rw [ha] at hb; cases hb
    exact gi (h.inj H) p1 p2
section
variable {X : Cx}
theorem rR {α : Type} [DecidableEq α] {n : Nat} {R : Rel α} (ok : RcD n R) (hu : X.A.units + n < cLine) : OpR X (compareOp .NotEq) (fun v w H Q=>∃ x y,R H x v∧R H y w∧Q (.bl (!decide (x = y))) H):=by
  intro pins s σ H v w u1 u2 Q I r1 r2 h
  obtain ⟨x,y,h1,h2,q⟩:=h
  exact (ok.go X pins σ H s _ x y v w u1 u2 I hu h1 h2 r1 r2).2 _ _ _ _ ⟨.bl (!decide (x = y)),H,I,rfl,q⟩
end
structure ClsAt (K : PySem.W.Frag) (mg : Str→Option Value) (x : Str) (C : Addr) (fs : List Str) : Prop where
  cl : Cls K C
  mgC : mg x = some (.ref C)
  na : ∀ f ∈ fs,NoAttr K C f
structure MeAt (K : PySem.W.Frag) (C : Addr) (m qual : Str) (st : Stmt) (ps : List Str) : Prop where
  ex : ∃ f fd,Fun K m qual st f fd∧Meth K C m f∧Binds K fd ps []
structure MkAt (K : PySem.W.Frag) (C : Addr) (qual : Str) (st : Stmt) (ps : List Str) : Prop where
  ex : ∃ f fd,Fun K "__init__" qual st f fd∧Mk K C f∧Binds K fd ps []
structure DnM (P : Program) (w : World) (K : PySem.W.Frag) (mg : Str→Option Value) (base : Heap) (C : Addr) (m : Str) (n : Nat) (ps : List Str) (sp : Sp) : Prop where
  ex : ∃ f fd,FnOk P w K mg base CX0 n f fd ps sp∧Meth K C m f∧Binds K fd ps []
structure DnK (P : Program) (w : World) (K : PySem.W.Frag) (mg : Str→Option Value) (base : Heap) (C : Addr) (n : Nat) (ps : List Str) (sp : Sp) : Prop where
  ex : ∃ f fd,FnOk P w K mg base CX0 n f fd ps sp∧Mk K C f∧Binds K fd ps []
section
variable {P : Program} {w : World} {K : PySem.W.Frag} {mg : Str→Option Value} {base : Heap}
theorem MeAt.ok {C : Addr} {m qual : Str} {st : Stmt} {N ps : List Str} {k : Nat} {sp : Sp} (F : MeAt K C m qual st ps) (S : FnScope N ps (af st)) (len : ∀ vs H Q E,sp vs H Q E→vs.length = ps.length)
    (hbody : ∀ (f : Addr) (cdv : Value) (A : Around) (outer : List Env) (s : Shared) (H : Hp) (vs : List V) (Q : VK) (E : XK),Room k (A.deeper (envOfC qual (af st) s.heap.objs.size f cdv))→sp vs H Q E →
      ∃ t,PSs (eH CX0 P w K mg base N qual (af st) f cdv A outer s H E).nox (aX st) t∧t { nx:=fun _ H'=>Q .non H',rt:=Q } (start N vs) H) : DnM P w K mg base C m (k + 1) ps sp:=by
  obtain ⟨f,fd,F,hm,hb⟩:=F.ex
  exact ⟨f,fd,F.ok S len fun cdv A outer s H vs Q E=>hbody f cdv A outer s H vs Q E,hm,hb⟩
theorem MkAt.ok {C : Addr} {qual : Str} {st : Stmt} {N ps : List Str} {k : Nat} {sp : Sp} (F : MkAt K C qual st ps) (S : FnScope N ps (af st)) (len : ∀ vs H Q E,sp vs H Q E→vs.length = ps.length)
    (hbody : ∀ (f : Addr) (cdv : Value) (A : Around) (outer : List Env) (s : Shared) (H : Hp) (vs : List V) (Q : VK) (E : XK),Room k (A.deeper (envOfC qual (af st) s.heap.objs.size f cdv))→sp vs H Q E →
      ∃ t,PSs (eH CX0 P w K mg base N qual (af st) f cdv A outer s H E).nox (aX st) t∧t { nx:=fun _ H'=>Q .non H',rt:=Q } (start N vs) H) : DnK P w K mg base C (k + 1) ps sp:=by
  obtain ⟨f,fd,F,hm,hb⟩:=F.ex
  exact ⟨f,fd,F.ok S len fun cdv A outer s H vs Q E=>hbody f cdv A outer s H vs Q E,hm,hb⟩
end
section
variable {X : Cx}
theorem kA {C : Addr} {m : Str} {n k : Nat} {ps : List Str} {sp : Sp} {o e : Expr} {es : List Expr} {ta : TE} {t : TA} {apos pos : Pos} {pl : Sem Bool} (cl : Cls X.K C) (D : DnM X.prog X.w X.K X.mg X.base C m n ps sp) (hr : Room k X.A) (he : PE X o ta) (ha : PA X (e :: es) t) (hk : n ≤ k:=by decide)
    (hst : starEach (e :: es) X.env = (false,eval e X.env) :: starEach es X.env:=by rfl) (hpl : (backTo pos (starEach es X.env)).any (·.1) = false:=by rfl)
    (ht : eval (.Call (.Attribute o m apos) (e :: es) [] pos) X.env = (do
      let ov ← eval o X.env
      standAt apos.atName
      let (f,first) ← holding [ov] (getMethod ov m pl)
      callWith pos f first (backTo pos (starEach (e :: es) X.env)) (backToKw pos (keywordEach [] X.env))):=by rfl) :
    PE X (.Call (.Attribute o m apos) (e :: es) [] pos) (kY C m sp [] E0 ta t):=by
  obtain ⟨f,fd,F,hm,hb⟩:=D.ex
  exact pN he cl hm F (hr.mono hk) hb .nil lu ha hst hpl ht
theorem qC {C : Addr} {m : Str} {n k : Nat} {ps : List Str} {sp : Sp} {o : Expr} {ta : TE} {apos pos : Pos} {pl : Sem Bool} (cl : Cls X.K C) (D : DnM X.prog X.w X.K X.mg X.base C m n ps sp) (hr : Room k X.A) (he : PE X o ta) (hk : n ≤ k:=by decide)
    (ht : eval (.Call (.Attribute o m apos) [] [] pos) X.env = (do
      let ov ← eval o X.env
      standAt apos.atName
      let (f,first) ← holding [ov] (getMethod ov m pl)
      callWith pos f first (backTo pos (starEach [] X.env)) (backToKw pos (keywordEach [] X.env))):=by rfl) :
    PE X (.Call (.Attribute o m apos) [] [] pos) (kY C m sp [] E0 ta mI):=by
  obtain ⟨f,fd,F,hm,hb⟩:=D.ex
  exact nc he cl hm F (hr.mono hk) hb .nil lu ht
theorem oW {C : Addr} {x : Str} {fs : List Str} {n k : Nat} {ps : List Str} {sp : Sp} {e : Expr} {es : List Expr} {t : TA} {p pos : Pos} (CL : ClsAt X.K X.mg x C fs) (D : DnK X.prog X.w X.K X.mg X.base C n ps sp) (hr : Room k X.A) (ha : PA X (e :: es) t) (hk : n + 1 ≤ k:=by decide) (hg : Gl X x:=by rfl)
    (hdb : (x == ("__debug__" : Str)) = false:=by decide) (he : starEach (e :: es) X.env = (false,eval e X.env) :: starEach es X.env:=by rfl) (hpl : (backTo pos (starEach es X.env)).any (·.1) = false:=by rfl) :
    PE X (.Call (.Name x p) (e :: es) [] pos) (qO C sp [] E0 t):=by
  obtain ⟨f,fd,F,hm,hb⟩:=D.ex
  exact qB hm F (hr.mono hk) hg CL.mgC hb .nil lu ha hdb he hpl
theorem aK {K : PySem.W.Frag} {e : Expr} {f : Str} {pos : Pos} {ta : TE} (hK : X.K = K) (he : PE X e ta) (hb : attributeBase e f X.env (eval e X.env) = eval e X.env) : PE X (.Attribute e f pos) (sD K ta f):=by
  subst hK; exact q9 he hb
theorem dh {K : PySem.W.Frag} {o value : Expr} {f : Str} {pos pos' : Pos} {ta tv : TE} (hK : X.K = K) (ha : PE X o ta) (hv : PE X value tv) (hs : swapsWith value (some (.Attribute o f pos')) pos.line X.env = pure false) : PS X (.Assign [.Attribute o f pos'] value pos) (tE K ta tv f):=by
  subst hK; exact rT ha hv hs
end
section
variable {H H' : Hp} {a b c : Addr}
end
section
variable {K : PySem.W.Frag} {i j : Nat} {σ : St} {H : Hp} {Q : VK} {a b C dx : Addr} {xs ys : List V} {z c : Int} {v u : V} {f : Str} {fs : List (Str × V)}
end
end L2
namespace L2
end L2
namespace L2
open PySem PySem.W PySem.Spec PyProof.Rows
section
variable {k : Nat→Int} {n : Nat} {cmp : Nat→Nat→(Bool→Shared→Prop)→Shared→Prop} {s : Shared}
end
end L2
namespace L2
open PySem PySem.Spec PyProof.Rows
section
variable {prog : Program} {w : World} {A : Around} {E : Value→Shared→Prop} {s : Shared}
end
section
variable {X : Cx}
end
section
variable {X : Cx} {elt tg iter : Expr} {ifs : List Expr} {scope : Scope} {pos : Pos} {wi : TI} {tt : TTg} {tc : TT} {te : TE}
end
end L2
namespace L2
open PySem
section
variable {P : List Value→Prop}
theorem ng {n : Nat} (h : ∀ a (us : List Value),us.length = n→P (a :: us)) (us : List Value) (e : us.length = n + 1) : P us:=by
  cases us with
  | nil=>exact absurd e (Nat.succ_ne_zero n).symm
  | cons a us=>exact h a us (Nat.succ.inj e)
theorem tW (h : P []) (us : List Value) (e : us.length = 0) : P us:=by
  rw [List.length_eq_zero_iff.mp e]; exact h
theorem arg1 (h : ∀ a,P [a]) : ∀ us : List Value,us.length = 1→P us:=ng fun a=>tW (h a)
theorem arg2 (h : ∀ a b,P [a,b]) : ∀ us : List Value,us.length = 2→P us:=ng fun a=>arg1 (P:=fun us=>P (a :: us)) (h a)
theorem arg3 (h : ∀ a b c,P [a,b,c]) : ∀ us : List Value,us.length = 3→P us:=ng fun a=>arg2 (P:=fun us=>P (a :: us)) (h a)
theorem arg4 (h : ∀ a b c d,P [a,b,c,d]) : ∀ us : List Value,us.length = 4→P us:=ng fun a=>arg3 (P:=fun us=>P (a :: us)) (h a)
theorem arg5 (h : ∀ a b c d e,P [a,b,c,d,e]) : ∀ us : List Value,us.length = 5→P us:=ng fun a=>arg4 (P:=fun us=>P (a :: us)) (h a)
end
end L2
namespace L2
open PySem PySem.Spec PyProof.Rows
section
variable {X : Cx}
end
section
variable {X : Cx}
end
abbrev K0 : PySem.W.Frag:=[]
theorem SqL.k0 {K : PySem.W.Frag} {H : Hp} {a : Addr} {xs : List V} (h : SqL K0 H a xs) : SqL K H a xs:=by
  rcases h with h | ⟨o,_,_,hk,_⟩
  · exact .inl h
  · cases hk
section
variable {X : Cx}
theorem Itl.le (a : Addr) {K : PySem.W.Frag} : (∀ i H,(Itl K0 a).go i H→(Itl K a).go i H)∧(∀ i H x H',(Itl K a).yld i H x H'→(Itl K0 a).yld i H x H')∧∀ i H,(Itl K0 a).stop i H→(Itl K a).stop i H :=
  ⟨fun i H ⟨xs,x,h1,h2⟩=>⟨xs,x,h1.k0,h2⟩,fun i H x H' ⟨e,h⟩=>⟨e,fun xs hx=>h xs hx.k0⟩,fun i H ⟨xs,h1,h2⟩=>⟨xs,h1.k0,h2⟩⟩
theorem Turn.le {P : Program} {w : World} {K : PySem.W.Frag} {tg : Expr} {J J' : It} {fp : List Addr} {it : Addr} {tn : Nat→Heap→Prop} (t : Turn P w K tg J fp it tn) (h : (∀ i H,J'.go i H→J.go i H)∧(∀ i H x H',J.yld i H x H'→J'.yld i H x H')∧∀ i H,J'.stop i H→J.stop i H) : Turn P w K tg J' fp it tn where
  mem:=t.mem
  obj:=t.obj
  keep:=t.keep
  item:=fun X e1 e2 e3 e4 i pins s σ H E I hf ht hg=>by
    refine wpAny_mono (t.item X e1 e2 e3 e4 i pins s σ H E I hf ht (h.1 i H hg)) (fun r s1 hm0=>?_) fun _ _ z=>z
    obtain ⟨u,e,q⟩:=hm0
    refine ⟨u,e,?_⟩
    refine wpAny_mono q (fun _ s2 hm0=>?_) fun _ _ z=>z
    obtain ⟨x,H',I',r',y,z⟩:=hm0
    exact ⟨x,H',I',r',h.2.1 i H x H' y,z⟩
  done:=fun X e1 e2 e3 e4 i pins s σ H E I hf ht hg=>t.done X e1 e2 e3 e4 i pins s σ H E I hf ht (h.2.2 i H hg)
  self:=t.self
theorem PIE.le {pins : List (Addr × Obj)} {σ : St} {tg : Expr} {R R' : It→Hp→Prop} {v : Value} {s : Shared} (h : PIE X pins σ tg R' v s) (f : ∀ J H,R' J H→∃ J',((∀ i H,J'.go i H→J.go i H)∧(∀ i H x H',J.yld i H x H'→J'.yld i H x H')∧∀ i H,J'.stop i H→J.stop i H)∧R J' H) : PIE X pins σ tg R v s:=by
  obtain ⟨it,fp,tn,J,H',e,I,t,z,g,r⟩:=h
  obtain ⟨J',l,r'⟩:=f J H' r
  exact ⟨it,fp,tn,J',H',e,I,t.le l,z,g,r'⟩
theorem PE.wish {e : Expr} {t : TE} (h : PE X e t) (Q0 : V→Hp→Prop) : PE X e (fun σ H Q=>t σ H Q0∧∀ x H1,Q0 x H1→Q x H1):=fun pins s σ H Q I ⟨h1,h2⟩=>wpAny_mono (h pins s σ H Q0 I h1) (fun _ _ ⟨x,H1,I1,r1,q1⟩=>⟨x,H1,I1,r1,h2 x H1 q1⟩) fun _ _ z=>z
theorem nn {tg l : Expr} {tl : TE} (hl : PE X l tl) : PI X tg l (qK K0 tl):=fun pins s σ H R I h =>
  wpAny_mono (cf (hl.wish (fun x H1=>∃ a,x = .ref a∧(∃ xs,SqL K0 H1 a xs)∧R (Itl K0 a) H1)) pins s σ H (fun J H'=>∃ a,J = Itl X.K a∧R (Itl K0 a) H') I ⟨h,fun x H1 ⟨a,e,⟨xs,hx⟩,r⟩=>⟨a,e,⟨xs,hx.k0⟩,a,rfl,r⟩⟩)
    (fun _ _ q=>wpAny_mono q (fun _ _ p=>p.le fun J H' ⟨a,e,r⟩=>⟨Itl K0 a,by subst e; exact Itl.le a,r⟩) fun _ _ z=>z) fun _ _ z=>z
end
end L2
namespace L2
open PySem
section
variable {X : Cx} {pins : List (Addr × Obj)} {σ : St} {H : Hp} {s : Shared} {a : Addr} {kvs : List (Key × V)} {k : Key} {u : Value} {A : Around} {E : Value→Shared→Prop}
end
section
variable {X : Cx} {o e f : Expr} {apos cpos : Pos} {td ty tx : TE}
end
end L2
namespace L2
open PySem PySem.Spec PyProof.Rows
section
variable {X : Cx}
end
section
variable {X : Cx}
end
section
variable {X : Cx} {o i : Expr} {pos : Pos} {td ty : TE}
end
section
variable {X : Cx} {elt tg iter : Expr} {ifs : List Expr} {scope : Scope} {pos : Pos} {N : List Str} {k : Nat} {cap : List Nat} {wi : TI} {tt : TTg} {tc : TT} {te : TE}
end
section
variable {X : Cx} {elt tg iter : Expr} {ifs : List Expr} {scope : Scope} {pos : Pos} {wi : TI} {tt : TTg} {tc : TT} {te : TE}
end
section
variable {X : Cx} {elt tg iter : Expr} {ifs : List Expr} {scope : Scope} {pos : Pos} {wi : TI} {tt : TTg} {tc : TT} {te : TE}
theorem kM {sc : Scope} {env : Env} {x : Str} (h : sc.names.lookup x = some .cell ∨ sc.names.lookup x = some .free) : (relabel sc env).names.lookup x = some .cell ∨ (relabel sc env).names.lookup x = some .free:=by
  rcases h with h | h
  · left
    have go : ∀ (names : List (Str × NameKind)),names.lookup x = some .cell→(names.map fun (n,k)=>if (k == NameKind.free && env.scope.kind == .function && env.kindOf n == some .cell) then (n,NameKind.cell) else (n,k)).lookup x = some .cell:=by
      intro names
      induction names with
      | nil=>intro h; simp at h
      | cons z r ih =>
        obtain ⟨n,k⟩:=z
        intro h
        show List.lookup x ((if (k == NameKind.free && env.scope.kind == .function && env.kindOf n == some .cell) = true then (n,NameKind.cell) else (n,k)) :: _) = _
        cases hx : x == n with
        | true =>
          simp only [List.lookup_cons,hx] at h
          cases h
          split <;> simp [List.lookup_cons,hx]
        | false =>
          simp only [List.lookup_cons,hx] at h
          split <;> (simp only [List.lookup_cons,hx]; exact ih h)
    exact go _ h
  · exact c6 h
theorem CompOk.relabel {scope psc : Scope} {N PN : List Str} {k : Nat} {cap : List Nat} {env : Env} (h : CompOk scope psc N PN k cap) : CompOk scope (relabel psc env) N PN k cap :=
  ⟨h.kind,h.len,h.cell,h.loc,fun y hy hf=>kM (h.free y hy hf),h.cap,h.free2⟩
theorem p8 {psc : Scope} {env0 : Env} (PN N : List Str) (k : Nat) (cap : List Nat) (hi : PI X tg iter wi) (hg : ∀ cl C s H ex pn,PTg (bh X scope N cl C s H ex pn) k tg tt) (ht : ∀ cl C s H ex pn,PTs (bh X scope N cl C s H ex pn) ifs tc)
    (he : ∀ cl C s H ex pn,PE (bh X scope N cl C s H ex pn) elt te) (hc : X.calm = true:=by rfl) (h2 : X.N = PN:=by rfl) (h1 : X.env.scope = PySem.relabel psc env0:=by rfl) (S : eS scope psc N PN k cap = true:=by decide +kernel)
    (hs : ∀ x,foldedSetIterable iter X.env x = pure x:=by intro _; rfl) :
    PE X (.ListComp elt [⟨tg,iter,ifs,0⟩] scope pos) (io wi tt tc te cap):=lx hc (by rw [h2,h1]; exact (eY S).relabel) hi hg ht he hs
end
theorem i5 : typeLookup (.type "list") "keys" = pure none:=am_miss_of_fast (by decide +kernel)
theorem jf {prog : Program} {w : World} {A : Around} {E : Value→Shared→Prop} {s : Shared} {a : Addr} {o : Obj} {xs : Array Value} {k : Nat} {Q : Option Value→Shared→Prop}
    (hx : s.heap.get? a = some o) (hc : o.cls = .type "list") (hdat : o.data = .seq xs k) (hd : o.dict = none) (hA : A.handled = none)
    (h : ∀ h' tk,(∀ b ob,s.heap.get? b = some ob→h'.get? b = some ob)→Q none { s with heap:=h',toks:=tk }) :
    wpAny (model prog w) A (getAttr? (.ref a) "keys") Q E s:=by
  obtain ⟨c,dct,dat,sl⟩:=o
  simp only at hc hdat hd
  subst hc hdat hd
  obtain ⟨hp,g,d,tk,os⟩:=s
  have hT : ∀ tk',(⟨hp,g,d,tk',os⟩ : Shared).TypeIs (.ref a) "list":=fun _=>⟨_,hx,rfl⟩
  have f1:=sub_AttributeError
  have f3:=F.slot_list_getattribute.lookup
  have f4:=F.slot_list_getattribute.bind (.ref a)
  have f5:=am_list_getattr_none
  unfold getAttr? getAttrBy? getAttrBy
  repeat (any_goals (first | assumption | exact hT _ | ((with_reducible show wpAny _ _ (call (Value.builtin "list.__getattribute__") _ _) _ _ _); refine call_meets F.slot_list_getattribute (hT _) am_entry_list_getattribute (F.args_list_getattribute_2 _ _) (meets_getattribute_miss_list a xs k sl "keys" _ i5 (by decide +kernel) (by size_fits)) ⟨hx,hA,fun h' tk' e hx'=>?_⟩) | wp_step))
  obtain ⟨t',u',he⟩:=hx'.there
  show wpAny _ _ (getattributeRaised _ _ _ _ _ _ _) _ _ _
  unfold getattributeRaised
  repeat (any_goals (first | assumption | wp_step))
  exact h _ _ hx'.keeps
theorem bS : entryFor table "dict.update.loop" = some Builtin.«dict.update.loop»:=entryFor_of_tree (by kernel_rfl)
theorem aT : plainId "dict.update.loop" = true:=by decide +kernel
def d5 : List (Key × V)→List (Key × V)→List (Key × V):=List.foldl fun c p=>gU c p.1 p.2
def qc (P : Program) (w : World) (h : Heap) (d it : Addr) (items : List Value) (kys : List (Key × V)) : Prop :=
  ∀ (j : Nat) (ky : Key × V),kys[j]? = some ky→∃ (t : Addr) (ku vu : Value),items[j]? = some (.ref t)∧h.IsTuple t #[ku,vu]∧(bf P w).is ky.1 ku = true∧RelV ky.2 vu∧t ≠ d∧t ≠ it
theorem nh {P : Program} {w : World} {A : Around} {d it l : Addr} {items : List Value} {kys : List (Key × V)} (hh : A.handled = none) (hlen : items.length = kys.length) (hz : kys.length ≤ sizeLine) (hdi : d ≠ it) (hld : l ≠ d) (hli : l ≠ it) :
    ∀ (n i : Nat) (s : Shared) (cur : List (Key × V)) (vs : List (Key × Value)) (tk : Tok) (R : Result→Shared→Prop),kys.length - i = n→i ≤ kys.length→s.heap.IsListIter it l i→s.heap.IsList l items.toArray→qc P w s.heap d it items kys→KV cur vs→s.heap.DictOf (bf P w) d vs→cur.length ≤ i →
      (∀ h' t' vs',KV (d5 cur (kys.drop i)) vs'→h'.DictOf (bf P w) d vs'→(d5 cur (kys.drop i)).length ≤ kys.length→(∀ b o,b ≠ d→b ≠ it→s.heap.get? b = some o→h'.get? b = some o)→R (.ok (.ret .none)) { s with heap:=h',toks:=t' }) →
      codeAny (model P w) A (.builtin "dict.update.loop" ⟨[.ref d,.ref it,.int (i : Int) tk,.none],[]⟩) R s:=by
  intro n
  induction n with
  | zero =>
    intro i s cur vs tk R hn hi hit hl hp hkv hd hc hR
    have e : i = kys.length:=by omega
    subst e
    refine codeAny_builtin bS ?_
    rw [Around.under_plainId aT _]
    show wpAny _ A.in1 (pyNext (.ref it) >>= _) _ _ s
    refine wpAny_bind (wpAny_pyNext_list_end hh hit hl (by simp; omega) fun h' eb=>?_)
    show wpAny _ A.in1 (Builtin.Dict.addKeywords d [] >>= _) _ _ _
    refine wpAny_bind (wpAny_pure ?_)
    rw [List.drop_length] at hR
    exact wpAny_pure (hR h' s.toks vs hkv (hd.extBut eb hdi) hc fun b o _ h2 h3=>eb b o h2 h3)
  | succ n ih =>
    intro i s cur vs tk R hn hi hit hl hp hkv hd hc hR
    obtain ⟨ky,hky⟩ : ∃ ky,kys[i]? = some ky:=⟨kys[i]'(by omega),by simp⟩
    obtain ⟨t,ku,vu,h1,h2,h3,h4,h5,h6⟩:=hp i ky hky
    refine codeAny_builtin bS ?_
    rw [Around.under_plainId aT _]
    show wpAny _ A.in1 (pyNext (.ref it) >>= _) _ _ s
    refine wpAny_bind (wpAny_pyNext_list_item hit hl (x:=.ref t) (by simpa using h1) fun h' st' sb=>?_)
    have h2' : h'.IsTuple t #[ku,vu]:=by
      obtain ⟨o,e1,e2,n1,e3⟩:=h2
      exact ⟨o,(sb.2 t h6).trans e1,e2,n1,e3⟩
    obtain ⟨o,e1,e2,n1,e3⟩:=id h2'
    have hd' : h'.DictOf (bf P w) d vs:=by
      obtain ⟨q,es,ep,hq,r⟩:=hd
      exact ⟨q,es,ep,(sb.2 d hdi).trans hq,r⟩
    show wpAny _ A.in1 (holding [Value.ref t] _ >>= _) _ _ _
    refine wpAny_bind (wpAny_holding (wpAny_bind (wpAny_tryCatch ?_)))
    unfold Builtin.Dict.pairItems
    refine wpAny_bind (wpAny_typeOf (T := "tuple") ⟨o,e1,e2⟩ ?_)
    rw [if_pos (by decide +kernel)]
    refine wpAny_bind (wpAny_seqItems (s:={ s with heap:=h' }) e1 e3 (wpAny_pure ?_))
    show wpAny _ A.in1 (holding [ku,vu] (dictSet d ku vu)) _ _ _
    refine wpAny_holding (wpAny_dictSet_pairs (s:={ s with heap:=h' }) (hsz:=by rw [← hkv.length]; omega) h3 hd' fun h'' hd'' sb'=>?_)
    have eR : rawInt ((i : Int) + 1) = .int ((i + 1 : Nat) : Int) 0:=rfl
    refine wpAny_pure ⟨plainId_quiet aT _,?_⟩
    rw [eR]
    have hl1:=ju cur ky.1 ky.2
    have ed : kys.drop i = ky :: kys.drop (i + 1):=by
      obtain ⟨hlt,e⟩:=List.getElem?_eq_some_iff.mp hky
      rw [List.drop_eq_getElem_cons hlt,e]
    refine ih (i + 1) _ (gU cur ky.1 ky.2) _ _ R (by omega) (by omega) ?_ ?_ (fun j ky' hj=>?_) (hkv.put ky.1 h4) hd'' (by omega) fun h3' t' vs' k1 k2 k3 k4=>?_
    · obtain ⟨q,q1,q2,q3⟩:=st'
      exact ⟨q,(sb'.2 it (Ne.symm hdi)).trans q1,q2,q3⟩
    · obtain ⟨q,q1,q2,q3⟩:=hl
      exact ⟨q,(sb'.2 l hld).trans ((sb.2 l hli).trans q1),q2,q3⟩
    · obtain ⟨t2,ku2,vu2,g1,⟨q,q1,q2,q3⟩,g3,g4,g5,g6⟩:=hp j ky' hj
      exact ⟨t2,ku2,vu2,g1,⟨q,(sb'.2 t2 g5).trans ((sb.2 t2 g6).trans q1),q2,q3⟩,g3,g4,g5,g6⟩
    · have ep : d5 (gU cur ky.1 ky.2) (kys.drop (i + 1)) = d5 cur (kys.drop i):=by rw [ed]; rfl
      rw [ep] at k1 k3
      exact hR h3' t' vs' k1 k2 k3 fun b o b1 b2 hb=>k4 b o b1 b2 ((sb'.2 b b1).trans ((sb.2 b b2).trans hb))
theorem bK {X : Cx} {K : PySem.W.Frag} (hK : X.K = K) (hc : X.calm = true) : dW X (.type "dict") (fun xs H Q=>∃ (a : Addr) (ts : List (Addr × Key × V)),xs = [.ref a]∧SqL K H a (ts.map fun t=>V.ref t.1)∧(∀ t ∈ ts,SqT K H t.1 [kV t.2.1,t.2.2])∧∀ p,H p = none→Q (.ref p) (upd H p (.dK (d5 [] (ts.map fun t=>t.2))))):=by
  intro pins s σ H xs us Q I r h
  subst hK
  obtain ⟨a,ts,rfl,ha,ht,q⟩:=h
  obtain ⟨u,rfl,ru⟩:=dC r
  cases ru
  obtain ⟨its,rv,pl,hz⟩:=I.list ha
  have hl : its.length = (ts.map fun t=>t.2).length:=by rw [List.length_map,← rv.length,List.length_map]
  have hz' : (ts.map fun t=>t.2).length ≤ sizeLine:=by rw [List.length_map] at hz ⊢; exact hz
  have hal : a < s.heap.objs.size:=by
    obtain ⟨o,h1,_⟩:=pl.isList
    exact Heap.lt_size h1
  have hh : X.A.handled = none:=I.ok.hd hc
  refine callType_codes (Q₁:=fun obj s₁=>obj = .ref s.heap.objs.size∧s₁ = { s with heap:=s.heap.push { cls:=.type "dict",data:=.dict #[] } }) PySem.F.kt_called_dict (PySem.F.kt_typeCall_dict_1 _) PySem.F.entry_dict_init (kt_code_dict_new _ ⟨rfl,rfl⟩) ?_
  rintro obj s₁ ⟨rfl,rfl⟩
  have hnew : (s.heap.push { cls:=.type "dict",data:=.dict #[] }).DictOf (bf X.prog X.w) s.heap.objs.size []:=Heap.DictOf.new s.heap
  refine ⟨hnew.typeIs,PySem.F.args_dict_init_2 _ _,?_⟩
  unfold Builtin.«dict.__init__»
  refine wpAny_bind ?_
  unfold Builtin.Dict.selfAndRest
  refine wpAny_bind (wpAny_notOrdered_dict hnew.typeIs ?_)
  show wpAny _ _ (pure (s.heap.objs.size,[Value.ref a])) _ _ _
  refine wpAny_pure ?_
  show wpAny _ _ (Builtin.Dict.updateFrom "dict.__init__" s.heap.objs.size (.ref a) [] .none) _ _ _
  unfold Builtin.Dict.updateFrom
  obtain ⟨o,n,e1,e2,e3,e4⟩:=pl
  refine wpAny_bind (wpAny_typeOf (T := "list") ⟨o,Heap.get?_push_of_some _ e1,e2⟩ ?_)
  rw [if_pos (by decide)]
  refine wpAny_bind (jf (s:={ s with heap:=s.heap.push { cls:=.type "dict",data:=.dict #[] } }) (Heap.get?_push_of_some _ e1) e2 e4 e3 hh fun h' tk kp=>?_)
  rw [if_pos (show (none : Option Value).isNone = true from rfl)]
  refine wpAny_bind (wpAny_rule ?_)
  have hl' : h'.IsList a its.toArray:=⟨o,kp _ _ (Heap.get?_push_of_some _ e1),e2,n,e4⟩
  refine wpAny_bind (wpAny_pyIter_list hl' ?_)
  have hdl : s.heap.objs.size < h'.objs.size:=Heap.lt_size (kp _ _ (Heap.get?_push_size _ rfl))
  have kq : ∀ b ob,s.heap.get? b = some ob→(h'.push { cls:=.type "list_iterator",data:=.fields #[.ref a,.int 0 0] }).get? b = some ob:=fun b ob e=>Heap.get?_push_of_some _ (kp _ _ (Heap.get?_push_of_some _ e))
  refine wpAny_pure ⟨plainId_quiet aT _,?_⟩
  refine nh (kys:=ts.map fun t=>t.2) (l:=a) (A:=X.A.in1) hh hl hz' (Nat.ne_of_lt hdl) (Nat.ne_of_lt hal) (Nat.ne_of_lt (Nat.lt_trans hal hdl)) _ 0 _ [] [] 0 _ rfl (Nat.zero_le _) ⟨_,Heap.get?_push_size _ rfl,rfl,rfl⟩ ?_ ?_ .nil ?_ (Nat.zero_le _) ?_
  · exact ⟨o,kq _ _ e1,e2,n,e4⟩
  · intro j ky hj
    rw [List.getElem?_map] at hj
    cases et : ts[j]? with
    | none=>rw [et] at hj; cases hj
    | some t =>
      rw [et] at hj; cases hj
      obtain ⟨u,hu,ru⟩:=rv.get (i:=j) (x:=V.ref t.1) (by rw [List.getElem?_map,et]; rfl)
      cases ru
      obtain ⟨its2,rv2,tp,_⟩:=I.tuple (ht t (List.mem_of_getElem? et))
      obtain ⟨k1,k2,rfl,r1,r2⟩:=qP rv2
      obtain ⟨o2,g1,g2,n2,g3⟩:=tp
      have hlt:=Heap.lt_size g1
      exact ⟨t.1,k1,k2,hu,⟨o2,kq _ _ g1,g2,n2,g3⟩,k7 r1,r2,Nat.ne_of_lt hlt,Nat.ne_of_lt (Nat.lt_trans hlt hdl)⟩
  · exact Heap.DictOf.push (by
      obtain ⟨q,es,ep,hq,r⟩:=hnew
      exact ⟨q,es,ep,kp _ _ hq,r⟩) _
  · intro h3 t3 vs' k1 k2 k3 k4
    rw [List.drop_zero] at k1 k3
    refine ⟨rfl,.ref s.heap.objs.size,_,?_,rfl,q _ (I.hok.fresh (Nat.le_refl _))⟩
    refine I.laid (a:=s.heap.objs.size) (fun b ob e=>?_) (Nat.le_refl _) (rA (Nat.le_trans k3 hz') (beq_eq_false_iff_ne.mpr (Ne.symm (Nat.ne_of_lt I.big))) k1 k2)
    have hlt:=Heap.lt_size e
    exact k4 b ob (Nat.ne_of_lt hlt) (Nat.ne_of_lt (Nat.lt_trans hlt hdl)) (kq _ _ e)
section
variable {X : Cx}
end
section
variable {P : Program} {w : World} {A : Around} {E : Value→Shared→Prop} {s : Shared}
theorem o4 : isSubtype (.type "zip") (.type "zip") = pure true:=by rw [isSubtype_type]; kernel_rfl
theorem n0 : isSubtype (.type "StopIteration") (.type "StopIteration") = pure true:=by rw [isSubtype_type]; kernel_rfl
end
section
variable {X : Cx} {K : PySem.W.Frag}
end
section
variable {M : Model} {A : Around} {E : Value→Shared→Prop} {s : Shared} {B : Heap} {env : Env} {outer : List Env} {l : List Env} {L e : Addr} {cls a0 fl : Value}
end
section
variable {X : Cx} {pins : List (Addr × Obj)} {σ : St} {H : Hp} {s : Shared}
end
section
variable {X : Cx} {elt tg iter : Expr} {ifs : List Expr} {scope : Scope} {pos : Pos} {N : List Str} {k : Nat} {cap : List Nat} {wi : TI} {tt : TTg} {tc : TT} {te : TE}
end
section
variable {X : Cx} {elt tg iter : Expr} {ifs : List Expr} {scope : Scope} {pos : Pos} {N : List Str} {k : Nat} {cap : List Nat} {wi : TI} {tt : TTg} {tc : TT} {te : TE}
end
section
variable {X : Cx} {elt tg iter : Expr} {ifs : List Expr} {scope : Scope} {pos : Pos} {wi : TI} {tt : TTg} {tc : TT} {te : TE}
end
section
variable {P : Program} {w : World} {K : PySem.W.Frag} {mg : Str→Option Value} {base : Heap}
end
section
variable {X : Cx} {E : XK}
end
section
variable {X : Cx} {k n : Nat} {f C : Addr} {fd : FuncData} {ps fs : List Str} {sp : Sp} {x m : Str} {p pos apos : Pos} {e o : Expr} {es : List Expr} {ta : TE} {t : TA}
end
section
variable {X : Cx}
end
end L2
namespace L2
open PySem PySem.W PySem.Calls PyProof.Rows
def eI (tb : String→Option Builtin) (p : Program) (w : World) (n₀ : Nat) (ann : Option Value) : Nat→SharedT→Thread→Option SharedT
  | 0,_,_=>none
  | n + 1,s,t=>match through t with
    | true=>some s
    | false=>match stepOk n₀ ann t with
      | false=>none
      | true=>match stepT (denote tb) p w s t with
        | some (s',t')=>eI tb p w n₀ ann n s' t'
        | none=>none
theorem iL {tb : String→Option Builtin} {p : Program} {w : World} {n₀ : Nat} {ann : Option Value} : ∀ {n : Nat} {s s' : SharedT} {t : Thread},eI tb p w n₀ ann n s t = some s'→topRun tb p w n₀ ann n s.abs t = some s'.abs
  | 0,_,_,_,h=>by cases h
  | n + 1,s,s',t,h=>by
    unfold eI at h
    unfold topRun
    cases he : through t with
    | true=>rw [he] at h; cases h; rfl
    | false =>
      rw [he] at h
      cases hk : stepOk n₀ ann t with
      | false=>rw [hk] at h; cases h
      | true =>
        rw [hk] at h
        cases hs : stepT (denote tb) p w s t with
        | none=>rw [hs] at h; cases h
        | some r=>obtain ⟨s₂,t₂⟩:=r; rw [hs] at h; rw [stepT_spec hs]; exact iL h
noncomputable def eW (p : Program) (w : World) (n₀ : Nat) (ann : Option Value) : Nat→SharedT→Thread→Option SharedT
  | 0,_,_=>none
  | n + 1,s,t=>match through t with
    | true=>some s
    | false=>match PySem.W.Fast.tw6613529449190102663 n₀ ann t with
      | false=>none
      | true=>match PySem.W.Fast.tw10156331382660048174 (PySem.W.Fast.tw11892475500146522536 PySem.W.Fast.tw14364793385576792824) p w s t with
        | some (s',t')=>eW p w n₀ ann n s' t'
        | none=>none
theorem gG {p : Program} {w : World} {n₀ : Nat} {ann : Option Value} : ∀ (n : Nat) (s : SharedT) (t : Thread),eW p w n₀ ann n s t = eI treeTable p w n₀ ann n s t
  | 0,_,_=>rfl
  | n + 1,s,t=>by
    unfold eW eI
    rw [← PySem.W.Fast.te6613529449190102663,← PySem.W.Fast.te10156331382660048174,← PySem.W.Fast.te11892475500146522536,← PySem.W.Fast.te14364793385576792824]
    cases through t with
    | true=>rfl
    | false =>
      dsimp only
      cases stepOk n₀ ann t with
      | false=>rfl
      | true =>
        dsimp only
        cases stepT (denote treeTable) p w s t with
        | none=>rfl
        | some r=>exact gG n r.1 r.2
def nN : List Obj→Nat→BT→BT
  | [],_,t=>t
  | o :: l,n,t=>nN l (n + 1) (t.ins n o)
noncomputable def iI (P : Params) : BT:=nN (boot_heap P).objs.toList 0 .nil
noncomputable def i4 {α : Type} (p q : Program) (loose : List Str) (Xt : Shared→Bool) (g0 : Bool) (Yf : Shared→α) (H : Heap) (s : Shared) :=
  ((staticsOk (importedModules p.main.body) H s.heap && namesBound p s.heap && gensDone s && laidKept H s.heap),PySem.W.Fast.tw4187177175401517315 q loose (importedModules p.main.body) Xt g0 s,Yf s)
theorem mj {p q : Program} {loose : List Str} {Xt : Shared→Bool} {α : Type} {Yf : Shared→α} {Ya : World→α} {N : Nat} {g0 : Bool} {H₀ : Params→Heap} {gs₀ : Array GenState} {d₀ : Drawn} {k₀ : Nat} {m₀ : Nat} {ann : Option Value} {M : Nat} {T₀ : Params→BT} {n₀ : Nat} {life : Life}
    (open_ : ∀ w : World,(fencedOpening treeTable p w N).map (fun s=>(s.heap,s.gens,s.drawn,s.toks)) = some (H₀ w.params,gs₀,d₀,k₀))
    (size : ∀ w : World,((H₀ w.params).isNs mainGlobals && gs₀.size == 0,(H₀ w.params).objs.size,(H₀ w.params).nsMap mainGlobals "__annotations__") = (true,m₀,ann))
    (tree : ∀ P : Params,absHeap (T₀ P) n₀ life = H₀ P)
    (run : ∀ (w : World) (os : OsState),(eW p w m₀ ann M ⟨T₀ w.params,n₀,life,gs₀,d₀,k₀,os⟩ (topStub p)).map (fun r=>i4 p q loose Xt g0 Yf (H₀ w.params) r.abs) = some (true,openGood q loose,Ya w))
    (le : Nat.ble M N = true) : LeftO p q loose Xt Yf Ya N g0:=fun w=>by
  obtain ⟨⟨h,gs,d,k,os⟩,e,e'⟩:=Option.map_eq_some_iff.mp (open_ w)
  obtain ⟨rfl,rfl,rfl,rfl⟩ : h = H₀ w.params∧gs = gs₀∧d = d₀∧k = k₀:=by simpa using e'
  obtain ⟨z1,z2,z3⟩ : _∧_∧_:=by simpa only [Prod.mk.injEq] using size w
  obtain ⟨r,hr,hl⟩:=Option.map_eq_some_iff.mp (run w os)
  obtain ⟨l1,l2,l3⟩ : _∧_∧_:=by simpa only [i4,← PySem.W.Fast.te4187177175401517315,Prod.mk.injEq] using hl
  rw [gG] at hr
  have r2:=iL hr
  have ea : SharedT.abs ⟨T₀ w.params,n₀,life,gs,d,k,os⟩ = ⟨H₀ w.params,gs,d,k,os⟩:=by
    unfold SharedT.abs
    rw [tree]
  rw [ea] at r2
  have r3:=topRun_mono (N - M) _ _ _ _ r2
  rw [show M + (N - M) = N by have:=Nat.le_of_ble_eq_true le; omega] at r3
  have t : topFrom treeTable p w N ⟨H₀ w.params,gs,d,k,os⟩ = some r.abs:=by
    unfold topFrom
    dsimp only
    rw [z1,z2,z3,r3]
    show (match staticsOk (importedModules p.main.body) (H₀ w.params) r.abs.heap && namesBound p r.abs.heap && gensDone r.abs && laidKept (H₀ w.params) r.abs.heap with | true=>_ | false=>_) = _
    rw [l1]
  unfold openEnds
  rw [e]
  show (topFrom treeTable p w N _).map _ = _
  rw [t]
  exact congrArg some (Prod.ext l2 l3)
def jm (as : List Addr) (h : Heap) : Frag:=as.filterMap fun a=>(h.get? a).map fun o=>(a,o)
def tj (s : Stmt) : Pos:=match s with
  | .FunctionDef _ _ _ _ _ _ _ _ _ p=>p
  | _=>⟨0,0,0,0⟩
def pY (K : Frag) : Value→Option (Option (List Value))
  | .none=>some none
  | .ref T=>match K.lookup T with
    | some ⟨_,_,.seq vs _,_⟩=>some (some vs.toList)
    | _=>none
  | _=>none
abbrev Sig:=(Str × Str × Addr × List (Str × Addr) × Option (Option (List Value)) × Addr) × (Bool × Bool) × Arguments × FuncBody × Scope
def fr (K : Frag) (v : Option (Option Value)) (qual : Str) : Option Sig:=match v with
  | some (some (.ref f))=>match K.lookup f with
    | some ⟨_,_,.func fd,_⟩=>some ((fd.name,fd.qualname,fd.globals,fd.closure,pY K fd.defaults,fd.builtins),(codeIn K fd.code qual,isFn K (.ref f)),fd.params,fd.body,fd.scope)
    | _=>none
  | _=>none
def nQ (x qual : Str) (st : Stmt) (df : Option (List Value)) : Sig:=((x,qual,mainGlobals,[],some df,builtinsNs),(true,true),bZ st,.stmts (aX st),af st)
theorem lE {K : Frag} {f : Addr} {oc : Value} {od : Option Addr} {fd : FuncData} {sl : Array (Option Value)} (l : K.lookup f = some ⟨oc,od,.func fd,sl⟩) : keepIn K (.ref f) = true:=by
  unfold keepIn
  simp only [l]
theorem iq {K : Frag} {v : Option (Option Value)} {x qual : Str} {st : Stmt} {df : Option (List Value)} (e : fr K v qual = some (nQ x qual st df)) :
    ∃ (f : Addr) (oc : Value) (od : Option Addr) (dV kV doc pm : Value) (an : Option Addr) (cdv ct : Value) (sl : Array (Option Value)),v = some (some (.ref f))∧K.lookup f = some ⟨oc,od,.func (fnOf x qual (bZ st) (aX st) (af st) dV kV doc pm an cdv ct),sl⟩ ∧
      codeIn K cdv qual = true∧isFn K (.ref f) = true∧pY K dV = some df:=by
  unfold fr at e
  split at e
  · rename_i f
    split at e
    · rename_i oc od fd sl hl
      obtain ⟨nm,qn,ps,bd,sc,gl,cl,dV,kV,doc,pm,an,cd,ct,bl⟩:=fd
      injection e with e
      injection e with e1 e2
      injection e1 with a1 e1
      injection e1 with a2 e1
      injection e1 with a3 e1
      injection e1 with a4 e1
      injection e1 with a5 a6
      injection e2 with e3 e4
      injection e3 with b1 b2
      injection e4 with c1 e4
      injection e4 with c2 c3
      dsimp only at a1 a2 a3 a4 a5 a6 b1 b2 c1 c2 c3
      subst a1 a2 a3 a4 a6 c1 c2 c3
      exact ⟨f,oc,od,dV,kV,doc,pm,an,cd,ct,sl,rfl,hl,b1,b2,a5⟩
    · cases e
  · cases e
theorem iD {K : Frag} {v : Value} (e : pY K v = some none) : v = .none:=by
  unfold pY at e
  split at e
  · rfl
  · split at e <;> cases e
  · cases e
theorem d8 {K : Frag} {v : Option (Option Value)} {x qual : Str} {st : Stmt} (e : fr K v qual = some (nQ x qual st none)) : ∃ f fd,v = some (some (.ref f))∧Fun K x qual st f fd∧isFn K (.ref f) = true:=by
  obtain ⟨f,oc,od,dV,kV,doc,pm,an,cdv,ct,sl,hv,l,c,i,d⟩:=iq e
  obtain rfl:=iD d
  exact ⟨f,_,hv,oO l c (lE l),i⟩
inductive Ky where
  | df (x : Str)
  | me (c m qual : Str)
def Ky.val (K : Frag) : Ky→Option (Option Value)
  | .df x=>nsIn K mainGlobals x
  | .me c m _=>match nsIn K mainGlobals c with
    | some (some v)=>findIn K v m
    | _=>none
def Ky.qual : Ky→Str
  | .df x=>x
  | .me _ _ q=>q
def Ky.nm : Ky→Str
  | .df x=>x
  | .me _ m _=>m
def jd (K : Frag) (c : Str × List Str) : Option (Bool × Option (Option Value) × List (Option (Option Value))):=match nsIn K mainGlobals c.1 with
  | some (some (.ref C))=>some (plainGet K C Str.empty && hasDictIn K C && plainOver K C && makesIn K C && keepIn K (.ref C),findIn K (.ref C) "__setattr__",c.2.map fun f=>findIn K (.ref C) f)
  | _=>none
def qA (K : Frag) (x : Str) : Option Int:=match nsIn K mainGlobals x with
  | some (some (.int v _))=>some v
  | _=>none
def pf (K : Frag) (x : Str) : Option Str:=match nsIn K mainGlobals x with
  | some (some (.str v _))=>some v
  | _=>none
structure Asked (β : Type) where
  ks : List (Ky × Stmt × Option (List Value))
  cs : List (Str × List Str):=[]
  is : List (Str × Int):=[]
  ss : List (Str × Str):=[]
  bs : List Str:=[]
  xc : Frag→Bool:=fun _=>true
  ext : Frag→β
  extW : World→β
section
variable {β : Type} (A : Asked β)
def Asked.look (K : Frag):=(A.ks.map fun k=>fr K (k.1.val K) k.1.qual,A.cs.map (jd K),A.is.map fun x=>qA K x.1,A.ss.map fun x=>pf K x.1,A.bs.map fun x=>nsIn K mainGlobals x,A.xc K,A.ext K)
def Asked.want (w : World):=(A.ks.map fun k=>some (nQ k.1.nm k.1.qual k.2.1 k.2.2),A.cs.map fun c=>some (true,some (some (Value.builtin "object.__setattr__")),c.2.map fun _=>some (none : Option Value)),A.is.map fun x=>some x.2,A.ss.map fun x=>some x.2,A.bs.map fun _=>some (none : Option Value),true,A.extW w)
def Asked.Ok (w : World) (K : Frag) : Prop:=A.look K = A.want w
end
theorem jo {α γ : Type} {l : List α} {f g : α→γ} (e : l.map f = l.map g) {i : Nat} {a : α} (h : l[i]? = some a) : f a = g a:=by
  have z:=congrArg (fun l=>l[i]?) e
  simp only [List.getElem?_map,h,Option.map_some] at z
  injection z
section
variable {β : Type} {A : Asked β} {w : World} {K : Frag} {h : Heap} {mg : Str→Option Value}
theorem Asked.Ok.fn (e : A.Ok w K) {i : Nat} {k : Ky} {st : Stmt} {df : Option (List Value)} (hi : A.ks[i]? = some (k,st,df)) : fr K (k.val K) k.qual = some (nQ k.nm k.qual st df):=jo (f:=fun k : Ky × Stmt × Option (List Value)=>fr K (k.1.val K) k.1.qual) (g:=fun k=>some (nQ k.1.nm k.1.qual k.2.1 k.2.2)) (congrArg Prod.fst e) hi
theorem Asked.Ok.defAt (e : A.Ok w K) (X : K.In h) (G : h.Ns mainGlobals mg) (i : Nat) {x : Str} {st : Stmt} {ps : List Str} (hi : A.ks[i]? = some (.df x,st,none))
    (hb : ∀ (kV doc pm : Value) (an : Option Addr) (cdv ct : Value) (us : List Value),us.length = ps.length→bindArgs (fnOf x x (bZ st) (aX st) (af st) .none kV doc pm an cdv ct) ⟨us,[]⟩ = pure (ps.zip us)) : DefAt K mg x st ps:=by
  obtain ⟨f,fd,hv,F,_⟩:=d8 (e.fn hi)
  exact ⟨f,fd,F,mg_of X G hv,F.binds hb⟩
theorem Asked.Ok.law (e : A.Ok w K) (X : K.In h) (G : h.Ns mainGlobals mg) (i : Nat) {x : Str} {st : Stmt} {fa : Addr} (hi : A.ks[i]? = some (.df x,st,none)) (hm : mg x = some (.ref fa)) :
    ∃ kV doc pm an cdv ct,Fun K x x st fa (fnOf x x (bZ st) (aX st) (af st) .none kV doc pm an cdv ct):=by
  obtain ⟨f,oc,od,dV,kV,doc,pm,an,cdv,ct,sl,hv,l,c,_,d⟩:=iq (e.fn hi)
  obtain rfl:=iD d
  have z:=hm.symm.trans (mg_of X G hv)
  injection z with z
  injection z with z
  subst z
  exact ⟨kV,doc,pm,an,cdv,ct,oO l c (lE l)⟩
theorem Asked.Ok.cls (e : A.Ok w K) (X : K.In h) (G : h.Ns mainGlobals mg) (i : Nat) {x : Str} {fs : List Str} (hi : A.cs[i]? = some (x,fs)) : ∃ C,nsIn K mainGlobals x = some (some (.ref C))∧makesIn K C = true∧keepIn K (.ref C) = true∧ClsAt K mg x C fs:=by
  have z:=jo (f:=jd K) (g:=fun c=>some (true,some (some (Value.builtin "object.__setattr__")),c.2.map fun _=>some (none : Option Value))) (congrArg (fun p=>p.2.1) e) hi
  unfold jd at z
  split at z
  · rename_i C hC
    injection z with z
    injection z with z1 z2
    injection z2 with z2 z3
    simp only [Bool.and_eq_true] at z1
    obtain ⟨⟨⟨⟨g1,g2⟩,g3⟩,g4⟩,g5⟩:=z1
    refine ⟨C,hC,g4,g5,⟨g1,g2,g3,z2⟩,mg_of X G hC,fun f hf=>?_⟩
    obtain ⟨j,hj⟩:=List.mem_iff_getElem?.mp hf
    exact jo (f:=fun f=>findIn K (.ref C) f) (g:=fun _=>some (none : Option Value)) z3 hj
  · cases z
theorem Asked.Ok.meAt (e : A.Ok w K) (i : Nat) {c m qual : Str} {C : Addr} {st : Stmt} {ps : List Str} (hC : nsIn K mainGlobals c = some (some (.ref C))) (hi : A.ks[i]? = some (.me c m qual,st,none))
    (hb : ∀ (kV doc pm : Value) (an : Option Addr) (cdv ct : Value) (us : List Value),us.length = ps.length→bindArgs (fnOf m qual (bZ st) (aX st) (af st) .none kV doc pm an cdv ct) ⟨us,[]⟩ = pure (ps.zip us)) : MeAt K C m qual st ps:=by
  obtain ⟨f,fd,hv,F,i⟩:=d8 (e.fn hi)
  have hv : (match nsIn K mainGlobals c with | some (some v)=>findIn K v m | _=>none) = some (some (.ref f)):=hv
  rw [hC] at hv
  exact ⟨f,fd,F,⟨hv,i,F.kp⟩,F.binds hb⟩
theorem Asked.Ok.mkAt (e : A.Ok w K) (i : Nat) {c qual : Str} {C : Addr} {st : Stmt} {ps : List Str} (hC : nsIn K mainGlobals c = some (some (.ref C))) (hm : makesIn K C = true) (hk : keepIn K (.ref C) = true) (hi : A.ks[i]? = some (.me c "__init__" qual,st,none))
    (hb : ∀ (kV doc pm : Value) (an : Option Addr) (cdv ct : Value) (us : List Value),us.length = ps.length→bindArgs (fnOf "__init__" qual (bZ st) (aX st) (af st) .none kV doc pm an cdv ct) ⟨us,[]⟩ = pure (ps.zip us)) : MkAt K C qual st ps:=by
  obtain ⟨f,fd,hv,F,i⟩:=d8 (e.fn hi)
  have hv : (match nsIn K mainGlobals c with | some (some v)=>findIn K v "__init__" | _=>none) = some (some (.ref f)):=hv
  rw [hC] at hv
  exact ⟨f,fd,F,⟨hm,hv,i,hk⟩,F.binds hb⟩
theorem Asked.Ok.noneAt (e : A.Ok w K) (X : K.In h) (G : h.Ns mainGlobals mg) (i : Nat) {x : Str} (hi : A.bs[i]? = some x) : mg x = Option.none :=
  mg_none_of X G (jo (f:=fun x=>nsIn K mainGlobals x) (g:=fun _=>some (none : Option Value)) (congrArg (fun p=>p.2.2.2.2.1) e) hi)
theorem Asked.Ok.more (e : A.Ok w K) : A.ext K = A.extW w:=congrArg (fun p=>p.2.2.2.2.2.2) e
end
section
variable {w : World} {K : Frag} {h : Heap} {mg : Str→Option Value} {x : Str}
end
end L2
namespace L2
open PySem PySem.Spec PyProof.Rows
section
variable {X : Cx} {pos : Pos}
end
section
variable {X : Cx} {pins : List (Addr × Obj)} {σ : St} {H : Hp} {s : Shared}
end
section
variable {X : Cx}
end
end L2
namespace L2
open PySem
abbrev Wy:=Int × Int
abbrev Lf:=List (List Wy)
def aV (W : Lf) (x : Int) : List Wy:=(W[x.toNat]?).getD []
def Wk (W : Lf) : Int→List Wy→Int→Prop
  | x,[],y=>x = y
  | x,w :: s,y=>w ∈ aV W x∧Wk W w.1 s y
def sm (s : List Wy) : Int:=(s.map (·.2)).sum
theorem bq : sm [] = 0:=rfl
theorem br (w : Wy) (s : List Wy) : sm (w :: s) = w.2 + sm s:=by simp [sm]
theorem cu (a b : List Wy) : sm (a ++ b) = sm a + sm b:=by
  induction a with
  | nil=>rw [List.nil_append,bq,Int.zero_add]
  | cons w a ih=>rw [List.cons_append,br,br,ih,Int.add_assoc]
theorem Wk.app {W : Lf} : ∀ {x y z : Int} {a b : List Wy},Wk W x a y→Wk W y b z→Wk W x (a ++ b) z
  | _,_,_,[],_,h1,h2=>by cases h1; exact h2
  | _,_,_,_ :: _,_,h1,h2=>⟨h1.1,Wk.app h1.2 h2⟩
theorem Wk.split {W : Lf} : ∀ {x z : Int} {a b : List Wy},Wk W x (a ++ b) z→∃ y,Wk W x a y∧Wk W y b z
  | x,_,[],_,h=>⟨x,rfl,h⟩
  | _,_,w :: a,b,h=>by
    obtain ⟨y,h1,h2⟩:=Wk.split (a:=a) (b:=b) h.2
    exact ⟨y,⟨h.1,h1⟩,h2⟩
theorem Wk.last {W : Lf} {x y : Int} {a : List Wy} {w : Wy} (h : Wk W x (a ++ [w]) y) : y = w.1:=by
  obtain ⟨z,_,h2⟩:=h.split
  exact h2.2.symm
def OkS (g : Int) (s : List Wy) : Prop:=∀ i,i ≤ s.length→0 ≤ g + sm (s.take i)
theorem dQ {α : Type} (f : α→Int) : ∀ {l : List α},¬ (l.map f).Nodup→∃ a u b v c,l = a ++ u :: (b ++ v :: c)∧f u = f v
  | [],h=>absurd List.nodup_nil h
  | u :: l,h=>by
    by_cases e : f u ∈ l.map f
    · obtain ⟨v,hv,ev⟩:=List.mem_map.mp e
      obtain ⟨b,c,rfl⟩:=List.append_of_mem hv
      exact ⟨[],u,b,v,c,rfl,ev.symm⟩
    · have : ¬ (l.map f).Nodup:=fun z=>h (by rw [List.map_cons]; exact List.nodup_cons.mpr ⟨e,z⟩)
      obtain ⟨a,u',b,v,c,rfl,ev⟩:=dQ f this
      exact ⟨u :: a,u',b,v,c,rfl,ev⟩
theorem iT {W : Lf} : ∀ (n : Nat) {x : Int} {s : List Wy},s.length ≤ n→s ≠ []→Wk W x s x→0 ≤ sm s→∃ y r,r ≠ []∧Wk W y r y∧0 ≤ sm r∧(r.map (·.1)).Nodup∧∀ w ∈ r,w ∈ s
  | 0,_,s,hl,hn,_,_=>absurd (List.eq_nil_of_length_eq_zero (by omega)) hn
  | n + 1,x,s,hl,hn,hw,hs=>by
    by_cases nd : (s.map (·.1)).Nodup
    · exact ⟨x,s,hn,hw,hs,nd,fun _ h=>h⟩
    obtain ⟨a,u,b,v,c,rfl,e⟩:=dQ (fun w : Wy=>w.1) nd
    have e : u.1 = v.1:=e
    have hlen : a.length + b.length + c.length + 2 ≤ n + 1:=by simp at hl; omega
    have e1 : a ++ u :: (b ++ v :: c) = (a ++ [u]) ++ ((b ++ [v]) ++ c):=by simp
    rw [e1] at hw hs
    obtain ⟨y,w1,w2⟩:=hw.split
    obtain ⟨z,w3,w4⟩:=w2.split
    have ey:=w1.last
    have ez:=w3.last
    have hyz : y = z:=by omega
    subst hyz
    have hs : 0 ≤ sm (a ++ [u]) + (sm (b ++ [v]) + sm c):=by rw [← cu,← cu]; exact hs
    by_cases c1 : 0 ≤ sm (b ++ [v])
    · obtain ⟨y',r,r1,r2,r3,r4,r5⟩:=iT n (by simp; omega) (by simp) w3 c1
      refine ⟨y',r,r1,r2,r3,r4,fun w hw=>?_⟩
      have:=r5 w hw
      simp at this ⊢; rcases this with h | h <;> simp [h]
    · obtain ⟨y',r,r1,r2,r3,r4,r5⟩:=iT n (s:=(a ++ [u]) ++ c) (by simp; omega) (by simp) (w1.app w4) (by rw [cu]; omega)
      refine ⟨y',r,r1,r2,r3,r4,fun w hw=>?_⟩
      have:=r5 w hw
      simp at this ⊢; rcases this with h | h | h <;> simp [h]
theorem jt (f : Nat→Int) : ∀ n,∃ k,k ≤ n∧∀ i,i ≤ n→f k ≤ f i
  | 0=>⟨0,Nat.le_refl _,fun i hi=>by have : i = 0:=(by omega); rw [this]; exact Int.le_refl _⟩
  | n + 1 => by
    obtain ⟨k,h1,h2⟩:=jt f n
    by_cases c : f k ≤ f (n + 1)
    · exact ⟨k,by omega,fun i hi=>by
        rcases Nat.lt_or_ge i (n + 1) with h | h
        · exact h2 i (by omega)
        · have : i = n + 1:=(by omega)
          rw [this]; exact c⟩
    · refine ⟨n + 1,Nat.le_refl _,fun i hi=>?_⟩
      rcases Nat.lt_or_ge i (n + 1) with h | h
      · have:=h2 i (by omega); omega
      · have : i = n + 1:=(by omega)
        rw [this]; exact Int.le_refl _
theorem mH {W : Lf} {x : Int} {s : List Wy} (hn : s ≠ []) (hw : Wk W x s x) (hs : 0 ≤ sm s) : ∃ z a b,s = a ++ b∧b ++ a ≠ []∧Wk W z (b ++ a) z∧OkS 0 (b ++ a):=by
  obtain ⟨k,h1,h2⟩:=jt (fun i=>sm (s.take i)) s.length
  have hsp : s = s.take k ++ s.drop k:=(List.take_append_drop k s).symm
  have hw':=hw
  rw [hsp] at hw'
  obtain ⟨z,w1,w2⟩:=hw'.split
  refine ⟨z,s.take k,s.drop k,hsp,fun e=>hn (by rw [hsp,(List.append_eq_nil_iff.mp e).1,(List.append_eq_nil_iff.mp e).2]; rfl),w2.app w1,fun i hi=>?_⟩
  have tot : sm (s.take k) + sm (s.drop k) = sm s:=by rw [← cu,List.take_append_drop]
  rw [List.take_append]
  rw [cu]
  rcases Nat.lt_or_ge i (s.drop k).length with h | h
  · have e0 : i - (s.drop k).length = 0:=by omega
    rw [e0,List.take_zero,bq]
    have e1 : sm (s.take (k + i)) = sm (s.take k) + sm ((s.drop k).take i):=by rw [← cu,← List.take_add]
    have:=h2 (k + i) (by rw [List.length_drop] at h; omega)
    have this : sm (s.take k) ≤ sm (s.take (k + i)):=this
    omega
  · rw [List.take_of_length_le h,List.take_take]
    have h3:=h2 (min (i - (s.drop k).length) k) (by omega)
    have h3 : sm (s.take k) ≤ sm (s.take (min (i - (s.drop k).length) k)):=h3
    omega
abbrev Tb:=Int→Option Int
def leO : Option Int→Option Int→Prop
  | _,none=>True
  | none,some _=>False
  | some a,some b=>a ≤ b
theorem leO.refl : ∀ a,leO a a
  | none=>trivial
  | some a=>Int.le_refl a
theorem leO.trans : ∀ {a b c : Option Int},leO a b→leO b c→leO a c
  | _,_,none,_,_=>by unfold leO; trivial
  | _,none,some _,_,h=>h.elim
  | none,some _,some _,h,_=>h.elim
  | some _,some _,some _,h1,h2=>Int.le_trans (a:=_) h1 h2
theorem leO.total : ∀ a b : Option Int,leO a b ∨ leO b a
  | _,none=>.inl (by unfold leO; trivial)
  | none,some _=>.inr trivial
  | some a,some b=>Int.le_total a b
theorem leO.anti : ∀ {a b : Option Int},leO a b→leO b a→a = b
  | none,none,_,_=>rfl
  | none,some _,h,_=>h.elim
  | some _,none,_,h=>h.elim
  | some a,some b,h1,h2=>by have h1 : a ≤ b:=h1; have h2 : b ≤ a:=h2; rw [show a = b by omega]
def ao (T : Tb) (w : Wy) : Option Int:=(T w.1).map fun v=>max (v - w.2) 0
theorem fm {T T' : Tb} {w : Wy} (h : leO (T w.1) (T' w.1)) : leO (ao T w) (ao T' w):=by
  unfold ao
  cases e' : T' w.1 with
  | none=>exact (by unfold leO; trivial)
  | some b =>
    cases e : T w.1 with
    | none=>rw [e,e'] at h; exact h.elim
    | some a =>
      rw [e,e'] at h
      have h : a ≤ b:=h
      show max (a - w.2) 0 ≤ max (b - w.2) 0
      omega
def cst : List Wy→Int
  | []=>0
  | w :: s=>max (cst s - w.2) 0
theorem fK : ∀ s,0 ≤ cst s
  | []=>Int.le_refl _
  | w :: s=>by show 0 ≤ max (cst s - w.2) 0; omega
theorem dn {x y : List Wy} (h : cst x ≤ cst y) : ∀ a : List Wy,cst (a ++ x) ≤ cst (a ++ y)
  | []=>h
  | w :: a=>by
    have:=dn h a
    show max (cst (a ++ x) - w.2) 0 ≤ max (cst (a ++ y) - w.2) 0
    omega
theorem om (c : List Wy) : ∀ b : List Wy,cst c - sm b ≤ cst (b ++ c)
  | []=>by rw [bq,List.nil_append]; omega
  | w :: b=>by
    have:=om c b
    rw [br]
    show _ ≤ max (cst (b ++ c) - w.2) 0
    omega
def InW (W : Lf) (n : Nat) : Prop:=∀ x,∀ w ∈ aV W x,0 ≤ w.1∧w.1 < (n : Int)
theorem Wk.inside {W : Lf} {n : Nat} (h : InW W n) : ∀ {x y : Int} {s : List Wy},Wk W x s y→∀ w ∈ s,0 ≤ w.1∧w.1 < (n : Int)
  | _,_,[],_,_,hw=>by cases hw
  | _,_,u :: s,hk,w,hw=>by
    rcases List.mem_cons.mp hw with e | e
    · rw [e]; exact h _ _ hk.1
    · exact Wk.inside h hk.2 w e
theorem dw {n : Nat} {l : List Int} (h : l.Nodup) (hb : ∀ x ∈ l,0 ≤ x∧x < (n : Int)) : l.length ≤ n:=by
  have:=cW l ((List.range n).map fun i=>((i : Nat) : Int)) h fun x hx=>List.mem_map.mpr ⟨x.toNat,List.mem_range.mpr (by have:=hb x hx; omega),by have:=hb x hx; omega⟩
  simpa using this
theorem dc {W : Lf} {n : Nat} {Z : Int→Prop} (hin : InW W n) (hZ : ∀ x s,s ≠ []→Wk W x s x→0 ≤ sm s→∃ w ∈ s,Z w.1) : ∀ (m : Nat) {x z : Int} {s : List Wy},s.length ≤ m→0 ≤ x→x < (n : Int)→Wk W x s z→Z z→∃ s' z',Wk W x s' z'∧Z z'∧cst s' ≤ cst s∧s'.length < n
  | 0,x,z,s,hl,x0,x1,hw,hz=>⟨s,z,hw,hz,Int.le_refl _,by omega⟩
  | m + 1,x,z,s,hl,x0,x1,hw,hz=>by
    rcases Nat.lt_or_ge s.length n with hs | hs
    · exact ⟨s,z,hw,hz,Int.le_refl _,hs⟩
    have nd : ¬ (((x,(0 : Int)) :: s).map (fun w : Wy=>w.1)).Nodup:=fun h=>by
      have:=dw h fun y hy=>by
        obtain ⟨w,h1,h2⟩:=List.mem_map.mp hy
        rcases List.mem_cons.mp h1 with e | e
        · rw [← h2,e]; exact ⟨x0,x1⟩
        · rw [← h2]; exact hw.inside hin w e
      simp at this; omega
    obtain ⟨a0,u,b,v,c,e,ev⟩:=dQ (fun w : Wy=>w.1) nd
    have ev : u.1 = v.1:=ev
    obtain ⟨a,hsa,hwa⟩ : ∃ a,s = a ++ ((b ++ [v]) ++ c)∧∀ y,Wk W x a y→y = u.1:=by
      cases a0 with
      | nil =>
        simp only [List.nil_append,List.cons.injEq] at e
        refine ⟨[],by rw [e.2]; simp,fun y hy=>?_⟩
        have hy : x = y:=hy
        rw [← hy,← e.1]
      | cons t a1 =>
        simp only [List.cons_append,List.cons.injEq] at e
        refine ⟨a1 ++ [u],by rw [e.2]; simp,fun y hy=>hy.last⟩
    subst hsa
    obtain ⟨y,w1,w2⟩:=hw.split
    obtain ⟨y2,w3,w4⟩:=w2.split
    have e1:=hwa y w1
    have e2:=w3.last
    have e3 : y = y2:=by omega
    subst e3
    have hlen : a.length + b.length + 1 + c.length ≤ m + 1:=by simp at hl; omega
    by_cases cs : 0 ≤ sm (b ++ [v])
    · obtain ⟨w,hwm,hwz⟩:=hZ y _ (by simp) w3 cs
      by_cases cy : Z y
      · obtain ⟨s',z',h1,h2,h3,h4⟩:=dc hin hZ m (s:=a) (by omega) x0 x1 w1 cy
        refine ⟨s',z',h1,h2,Int.le_trans h3 ?_,h4⟩
        have:=dn (x:=[]) (y:=(b ++ [v]) ++ c) (fK _) a
        rwa [List.append_nil] at this
      · obtain ⟨b1,b2,eb⟩:=List.append_of_mem hwm
        have hb2 : b2 ≠ []:=fun z0=>by
          rw [z0] at eb
          rw [eb] at w3
          exact cy (by rw [w3.last]; exact hwz)
        have eb' : b ++ [v] = (b1 ++ [w]) ++ b2:=by rw [eb]; simp
        have w3':=w3
        rw [eb'] at w3'
        obtain ⟨t,t1,t2⟩:=w3'.split
        have et:=t1.last
        have hl2 : b1.length + 1 + b2.length = b.length + 1:=by have:=congrArg List.length eb'; simp at this; omega
        have hb2l : 0 < b2.length:=List.length_pos_iff.mpr hb2
        obtain ⟨s',z',h1,h2,h3,h4⟩:=dc hin hZ m (s:=a ++ (b1 ++ [w])) (by simp; omega) x0 x1 (w1.app t1) (by rw [et]; exact hwz)
        refine ⟨s',z',h1,h2,Int.le_trans h3 ?_,h4⟩
        refine dn ?_ a
        rw [eb',List.append_assoc]
        have:=dn (x:=[]) (y:=b2 ++ c) (fK _) (b1 ++ [w])
        rwa [List.append_nil] at this
    · obtain ⟨s',z',h1,h2,h3,h4⟩:=dc hin hZ m (s:=a ++ c) (by simp; omega) x0 x1 (w1.app w4) hz
      refine ⟨s',z',h1,h2,Int.le_trans h3 (dn ?_ a),h4⟩
      have:=om c (b ++ [v])
      omega
structure Swp (W : Lf) (p : Int) (T T' : Tb) : Prop where
  other : ∀ q,q ≠ p→T' q = T q
  le : leO (T' p) (T p)
  by_ : ∀ w ∈ aV W p,leO (T' p) (ao T w)
  from_ : T' p = T p ∨ ∃ w ∈ aV W p,T' p = ao T w
theorem Swp.down {W : Lf} {p : Int} {T T' : Tb} (h : Swp W p T T') (q : Int) : leO (T' q) (T q):=by
  by_cases e : q = p
  · rw [e]; exact h.le
  · rw [h.other q e]; exact leO.refl _
structure Tk (W : Lf) (Z : Int→Prop) (T : Tb) : Prop where
  pos : ∀ x v,T x = some v→0 ≤ v
  zero : ∀ x,Z x→T x = some 0
  real : ∀ x v,T x = some v→∃ s z,Wk W x s z∧Z z∧cst s ≤ v
  way : ∀ x v,T x = some v→Z x ∨ ∃ w ∈ aV W x,leO (ao T w) (some v)
theorem eA {T : Tb} {w : Wy} {v : Int} (h : ao T w = some v) : 0 ≤ v∧∃ u,T w.1 = some u∧u - w.2 ≤ v:=by
  unfold ao at h
  cases e : T w.1 with
  | none=>rw [e] at h; cases h
  | some u =>
    rw [e] at h
    have h : max (u - w.2) 0 = v:=Option.some.inj h
    exact ⟨by omega,u,rfl,by omega⟩
theorem Tk.swp {W : Lf} {Z : Int→Prop} {p : Int} {T T' : Tb} (k : Tk W Z T) (h : Swp W p T T') : Tk W Z T':=by
  have key : ∀ x v,T' x = some v→T x = some v ∨ x = p∧∃ w ∈ aV W p,ao T w = some v:=fun x v hv=>by
    by_cases e : x = p
    · subst e
      rcases h.from_ with f | ⟨w,hw,f⟩
      · exact .inl (by rw [← f]; exact hv)
      · exact .inr ⟨rfl,w,hw,by rw [← f]; exact hv⟩
    · exact .inl (by rw [← h.other x e]; exact hv)
  refine ⟨fun x v hv=>?_,fun x hx=>?_,fun x v hv=>?_,fun x v hv=>?_⟩
  · rcases key x v hv with f | ⟨_,w,_,f⟩
    · exact k.pos x v f
    · exact (eA f).1
  · have h1:=k.zero x hx
    have h2:=h.down x
    rw [h1] at h2
    cases e : T' x with
    | none=>rw [e] at h2; exact h2.elim
    | some v =>
      rw [e] at h2
      have h2 : v ≤ 0:=h2
      have : 0 ≤ v:=by
        rcases key x v e with f | ⟨_,w,_,f⟩
        · exact k.pos x v f
        · exact (eA f).1
      rw [show v = 0 by omega]
  · rcases key x v hv with f | ⟨rfl,w,hw,f⟩
    · exact k.real x v f
    · obtain ⟨v0,u,hu,hle⟩:=eA f
      obtain ⟨s,z,h1,h2,h3⟩:=k.real _ u hu
      refine ⟨w :: s,z,⟨hw,h1⟩,h2,?_⟩
      show max (cst s - w.2) 0 ≤ v
      omega
  · rcases key x v hv with f | ⟨rfl,w,hw,f⟩
    · rcases k.way x v f with g | ⟨w,hw,g⟩
      · exact .inl g
      · exact .inr ⟨w,hw,(fm (h.down _)).trans g⟩
    · exact .inr ⟨w,hw,(fm (h.down _)).trans (by rw [f]; exact leO.refl _)⟩
def Rnd (W : Lf) (Z : Int→Prop) (n k : Nat) (T : Tb) : Prop:=∀ x s z,0 ≤ x→x < (n : Int)→Wk W x s z→Z z→s.length ≤ k→leO (T x) (some (cst s))
def Mid (W : Lf) (Z : Int→Prop) (n k : Nat) (i : Nat) (T : Tb) : Prop:=Rnd W Z n k T∧∀ x s z,0 ≤ x→x < (i : Int)→Wk W x s z→Z z→s.length ≤ k + 1→leO (T x) (some (cst s))
theorem Rnd.start {W : Lf} {Z : Int→Prop} {n : Nat} {T : Tb} (h : ∀ x,Z x→T x = some 0) : Rnd W Z n 0 T:=fun x s z _ _ hw hz hl=>by
  have e:=List.eq_nil_of_length_eq_zero (Nat.le_zero.mp hl)
  subst e
  cases hw
  rw [h x hz]; exact leO.refl _
theorem Rnd.mid {W : Lf} {Z : Int→Prop} {n k : Nat} {T : Tb} (h : Rnd W Z n k T) : Mid W Z n k 0 T:=⟨h,fun x s z h0 h1=>absurd h1 (by omega)⟩
theorem Mid.swp {W : Lf} {Z : Int→Prop} {n k i : Nat} {T T' : Tb} (hin : InW W n) (k0 : Tk W Z T') (h : Mid W Z n k i T) (s : Swp W (i : Int) T T') : Mid W Z n k (i + 1) T':=by
  refine ⟨fun x t z x0 x1 hw hz hl=>(s.down x).trans (h.1 x t z x0 x1 hw hz hl),fun x t z h0 h1 hw hz hl=>?_⟩
  by_cases e : x = (i : Int)
  · subst e
    cases t with
    | nil =>
      cases hw
      rw [k0.zero _ hz]; exact leO.refl _
    | cons w t =>
      refine (s.by_ w hw.1).trans ?_
      have hi:=hin _ w hw.1
      have:=h.1 w.1 t z hi.1 hi.2 hw.2 hz (by simp at hl; omega)
      unfold ao
      cases e : T w.1 with
      | none=>rw [e] at this; exact this.elim
      | some u =>
        rw [e] at this
        have this : u ≤ cst t:=this
        show max (u - w.2) 0 ≤ max (cst t - w.2) 0
        omega
  · exact (s.down x).trans (h.2 x t z h0 (by omega) hw hz hl)
theorem Mid.done {W : Lf} {Z : Int→Prop} {n k : Nat} {T : Tb} (h : Mid W Z n k n T) : Rnd W Z n (k + 1) T:=fun x s z x0 x1 hw hz hl=>h.2 x s z x0 x1 hw hz hl
structure Nds (W : Lf) (n : Nat) (T : Tb) : Prop where
  pos : ∀ x v,T x = some v→0 ≤ v
  low : ∀ x,0 ≤ x→x < (n : Int)→∀ w ∈ aV W x,leO (T x) (ao T w)
  way : ∀ x v,0 ≤ x→x < (n : Int)→T x = some v→∃ w ∈ aV W x,leO (ao T w) (some v)
  ring : ∀ x s,s ≠ []→Wk W x s x→0 ≤ sm s→∃ w ∈ s,T w.1 = some 0
theorem fw {W : Lf} {n : Nat} {T : Tb} (hin : InW W n) (hpos : ∀ x v,T x = some v→0 ≤ v) (hlow : ∀ x,0 ≤ x→x < (n : Int)→∀ w ∈ aV W x,leO (T x) (ao T w)) {z : Int} (hz : T z = some 0) : ∀ {x : Int} {s : List Wy} {g : Int},0 ≤ x→x < (n : Int)→Wk W x s z→OkS g s→leO (T x) (some g)
  | x,[],g,x0,x1,hw,ho=>by
    cases hw
    rw [hz]
    have:=ho 0 (Nat.zero_le _)
    rw [List.take_zero,bq] at this
    show (0 : Int) ≤ g
    omega
  | x,w :: s,g,x0,x1,hw,ho=>by
    have hi:=hin x w hw.1
    have ho' : OkS (g + w.2) s:=fun i hi=>by
      have:=ho (i + 1) (by simp; omega)
      rw [List.take_succ_cons,br] at this
      omega
    have ih:=fw hin hpos hlow hz hi.1 hi.2 hw.2 ho'
    refine (hlow x x0 x1 w hw.1).trans ?_
    have g0 : 0 ≤ g:=by have:=ho 0 (Nat.zero_le _); rw [List.take_zero,bq] at this; omega
    unfold ao
    cases e : T w.1 with
    | none=>rw [e] at ih; exact ih.elim
    | some u =>
      rw [e] at ih
      have ih : u ≤ g + w.2:=ih
      show max (u - w.2) 0 ≤ g
      omega
theorem ow {W : Lf} {n : Nat} {Z : Int→Prop} {T : Tb} (hin : InW W n) (hZ : ∀ x s,s ≠ []→Wk W x s x→0 ≤ sm s→∃ w ∈ s,Z w.1) (hB : ∀ z,Z z→0 ≤ z∧z < (n : Int)∧∃ s,s ≠ []∧Wk W z s z∧OkS 0 s) (k : Tk W Z T) (r : Rnd W Z n n T) : Nds W n T:=by
  have low : ∀ x,0 ≤ x→x < (n : Int)→∀ w ∈ aV W x,leO (T x) (ao T w):=fun x x0 x1 w hw=>by
    cases e : ao T w with
    | none=>exact (by unfold leO; trivial)
    | some v =>
      obtain ⟨v0,u,hu,hle⟩:=eA e
      obtain ⟨s,z,h1,h2,h3⟩:=k.real _ u hu
      obtain ⟨s',z',g1,g2,g3,g4⟩:=dc hin hZ (s.length + 1) (s:=w :: s) (by simp) x0 x1 ⟨hw,h1⟩ h2
      have:=r x s' z' x0 x1 g1 g2 (by omega)
      refine this.trans ?_
      show cst s' ≤ v
      have : cst (w :: s) = max (cst s - w.2) 0:=rfl
      omega
  refine ⟨k.pos,low,fun x v x0 x1 hv=>?_,fun x s hs hw hm=>?_⟩
  · rcases k.way x v hv with hz | h
    · obtain ⟨_,_,s,hs,hw,ho⟩:=hB x hz
      have hv0:=k.zero x hz
      rw [hv] at hv0
      cases hv0
      cases s with
      | nil=>exact absurd rfl hs
      | cons w s =>
        have hi:=hin x w hw.1
        have ho' : OkS (0 + w.2) s:=fun i hi=>by
          have:=ho (i + 1) (by simp; omega)
          rw [List.take_succ_cons,br] at this
          omega
        have:=fw hin k.pos low (k.zero x hz) hi.1 hi.2 hw.2 ho'
        refine ⟨w,hw.1,?_⟩
        unfold ao
        cases e : T w.1 with
        | none=>rw [e] at this; exact this.elim
        | some u =>
          rw [e] at this
          have this : u ≤ 0 + w.2:=this
          show max (u - w.2) 0 ≤ 0
          omega
    · exact h
  · obtain ⟨w,hw,hz⟩:=hZ x s hs hw hm
    exact ⟨w,hw,k.zero _ hz⟩
theorem OkS.snoc {g : Int} {s : List Wy} {w : Wy} (h : OkS g s) (hw : 0 ≤ g + (sm s + w.2)) : OkS g (s ++ [w]):=fun i hi=>by
  rcases Nat.lt_or_ge s.length i with c | c
  · rw [List.take_of_length_le (by simp; omega),cu,br,bq]; omega
  · rw [List.take_append_of_le_length c]; exact h i c
def GoodG (W : Lf) (z : Int) (G : Tb) : Prop:=∀ p g,G p = some g→∃ s,Wk W z s p∧OkS 0 s∧sm s = g
theorem oZ {W : Lf} {p : Int} {w : Wy} (h : w ∈ aV W p) : Wk W p [w] w.1:=⟨h,rfl⟩
theorem GoodG.step {W : Lf} {z p g : Int} {w : Wy} {G : Tb} (h : GoodG W z G) (hg : G p = some g) (hw : w ∈ aV W p) (h0 : 0 ≤ g + w.2) : GoodG W z (fun q=>if q = w.1 then some (g + w.2) else G q):=fun q g' e=>by
  have e : (if q = w.1 then some (g + w.2) else G q) = some g':=e
  by_cases c : q = w.1
  · rw [if_pos c] at e
    cases e
    obtain ⟨s,h1,h2,h3⟩:=h p g hg
    exact ⟨s ++ [w],by rw [c]; exact h1.app (oZ hw),h2.snoc (by omega),by rw [cu,br,bq]; omega⟩
  · rw [if_neg c] at e
    exact h q g' e
theorem GoodG.start {W : Lf} {z : Int} {G : Tb} (h : ∀ p g,G p = some g→p = z∧g = 0) : GoodG W z G:=fun p g e=>by
  obtain ⟨rfl,rfl⟩:=h p g e
  exact ⟨[],rfl,fun i hi=>by rw [List.take_nil,bq]; decide,rfl⟩
def Rg (W : Lf) (z : Int) (r : List Wy) : Prop:=r ≠ []∧Wk W z r z∧OkS 0 r
theorem GoodG.back {W : Lf} {z p g : Int} {w : Wy} {G : Tb} (h : GoodG W z G) (hg : G p = some g) (hw : w ∈ aV W p) (ez : w.1 = z) (h0 : 0 ≤ g + w.2) : ∃ r,Rg W z r:=by
  obtain ⟨s,h1,h2,h3⟩:=h p g hg
  have:=h1.app (oZ hw)
  rw [ez] at this
  exact ⟨s ++ [w],by simp,this,h2.snoc (by omega)⟩
def geO (a : Option Int) (v : Int) : Prop:=∃ g,a = some g∧v ≤ g
def UpG (G G' : Tb) : Prop:=∀ p v,geO (G p) v→geO (G' p) v
theorem UpG.refl (G : Tb) : UpG G G:=fun _ _ h=>h
theorem UpG.trans {A B C : Tb} (h1 : UpG A B) (h2 : UpG B C) : UpG A C:=fun p v h=>h2 p v (h1 p v h)
theorem UpG.put {G : Tb} {q v : Int} (h : ∀ g,G q = some g→g ≤ v) : UpG G (fun p=>if p = q then some v else G p):=fun p u hu=>by
  by_cases c : p = q
  · obtain ⟨g,e,hg⟩:=hu
    rw [c] at e
    have:=h g e
    exact ⟨v,if_pos c,by omega⟩
  · obtain ⟨g,e,hg⟩:=hu
    exact ⟨g,(if_neg c).trans e,hg⟩
def plc (z : Int) (r : List Wy) (j : Nat) : Int:=if j = 0 then z else ((r[j - 1]?).map (·.1)).getD z
theorem eE {z : Int} {r : List Wy} {j : Nat} {w : Wy} (h : r[j]? = some w) : plc z r (j + 1) = w.1:=by
  unfold plc
  rw [if_neg (by omega),Nat.add_sub_cancel,h]; rfl
theorem qT {W : Lf} : ∀ {z y : Int} {r : List Wy} {j : Nat} {w : Wy},Wk W z r y→r[j]? = some w→w ∈ aV W (plc z r j)
  | _,_,[],_,_,_,h=>by cases h
  | z,y,u :: r,0,w,hk,h=>by cases h; exact hk.1
  | z,y,u :: r,j + 1,w,hk,h=>by
    have h : r[j]? = some w:=h
    have ih:=qT hk.2 h
    have e : plc z (u :: r) (j + 1) = plc u.1 r j:=by
      cases j with
      | zero=>rw [eE (w:=u) rfl]; rfl
      | succ j =>
        obtain ⟨w',hw'⟩ : ∃ w',r[j]? = some w':=⟨r[j]'(by have:=(List.getElem?_eq_some_iff.mp h).1; omega),by simp⟩
        rw [eE (w:=w') (by simpa using hw'),eE hw']
    rw [e]; exact ih
theorem lr {r : List Wy} {j : Nat} {w : Wy} (h : r[j]? = some w) : sm (r.take (j + 1)) = sm (r.take j) + w.2:=by
  rw [List.take_add_one,h,cu]
  show _ + sm [w] = _
  rw [br,bq]; omega
def Cmp (W : Lf) (z : Int) (t : Nat) (G : Tb) : Prop:=∀ r,Rg W z r→t < r.length∧∀ j,j ≤ t→geO (G (plc z r j)) (sm (r.take j))
def CmpM (W : Lf) (z : Int) (t i : Nat) (G : Tb) : Prop:=Cmp W z t G∧∀ r,Rg W z r→0 ≤ plc z r t→plc z r t < (i : Int)→t + 1 < r.length∧geO (G (plc z r (t + 1))) (sm (r.take (t + 1)))
theorem Cmp.start {W : Lf} {z : Int} {G : Tb} (h : G z = some 0) : Cmp W z 0 G:=fun r hr=>⟨List.length_pos_iff.mpr hr.1,fun j hj=>by
  have : j = 0:=by omega
  subst this
  exact ⟨0,h,by rw [List.take_zero,bq]; decide⟩⟩
theorem Cmp.mid {W : Lf} {z : Int} {t : Nat} {G : Tb} (h : Cmp W z t G) : CmpM W z t 0 G:=⟨h,fun r _ h0 h1=>absurd h1 (by omega)⟩
theorem CmpM.up {W : Lf} {z : Int} {t i : Nat} {G G' : Tb} (h : CmpM W z t i G) (u : UpG G G') : CmpM W z t i G':=⟨fun r hr=>⟨(h.1 r hr).1,fun j hj=>u _ _ ((h.1 r hr).2 j hj)⟩,fun r hr h0 h1=>⟨(h.2 r hr h0 h1).1,u _ _ (h.2 r hr h0 h1).2⟩⟩
theorem CmpM.skip {W : Lf} {z : Int} {t i : Nat} {G : Tb} (h : CmpM W z t i G) (hn : G (i : Int) = none) : CmpM W z t (i + 1) G:=⟨h.1,fun r hr h0 h1=>by
  by_cases e : plc z r t = (i : Int)
  · obtain ⟨g,e1,_⟩:=(h.1 r hr).2 t (Nat.le_refl _)
    rw [e,hn] at e1; cases e1
  · exact h.2 r hr h0 (by omega)⟩
theorem CmpM.swp {W : Lf} {z : Int} {t i : Nat} {G G' : Tb} (h : CmpM W z t i G) (u : UpG G G') (hw : ∀ w ∈ aV W (i : Int),∀ g,G (i : Int) = some g→0 ≤ g + w.2→geO (G' w.1) (g + w.2)) (hb : ∀ w ∈ aV W (i : Int),w.1 = z→∀ g,G' (i : Int) = some g→¬ 0 ≤ g + w.2) : CmpM W z t (i + 1) G':=by
  have hu:=h.up u
  refine ⟨hu.1,fun r hr h0 h1=>?_⟩
  by_cases e : plc z r t = (i : Int)
  · obtain ⟨ht,hj⟩:=h.1 r hr
    obtain ⟨w,hwr⟩ : ∃ w,r[t]? = some w:=⟨r[t],by simp⟩
    have hwo:=qT hr.2.1 hwr
    rw [e] at hwo
    obtain ⟨g,e1,hg⟩:=hj t (Nat.le_refl _)
    rw [e] at e1
    have ok:=hr.2.2 (t + 1) (by omega)
    rw [lr hwr] at ok
    have hlt : t + 1 < r.length:=by
      refine Nat.lt_of_not_le fun c=>?_
      have el : r.length = t + 1:=by omega
      obtain ⟨g',e2,hg'⟩:=u (i : Int) g ⟨g,e1,Int.le_refl _⟩
      have esp : r = r.take t ++ [w]:=by
        have:=(List.take_append_drop t r).symm
        rw [List.drop_eq_getElem_cons (by omega),List.drop_of_length_le (by omega)] at this
        have hw2 : r[t]'(by omega) = w:=by have:=List.getElem?_eq_some_iff.mp hwr; exact this.2
        rw [hw2] at this
        exact this
      have hk:=hr.2.1
      rw [esp] at hk
      have ez:=hk.last
      exact hb w hwo ez.symm g' e2 (by omega)
    refine ⟨hlt,?_⟩
    rw [eE hwr,lr hwr]
    obtain ⟨g',e2,hg'⟩:=hw w hwo g e1 (by omega)
    exact ⟨g',e2,by omega⟩
  · exact hu.2 r hr h0 (by omega)
theorem CmpM.done {W : Lf} {z : Int} {n t : Nat} {G : Tb} (hin : InW W n) (hz : 0 ≤ z∧z < (n : Int)) (h : CmpM W z t n G) : Cmp W z (t + 1) G:=fun r hr=>by
  have hp : 0 ≤ plc z r t∧plc z r t < (n : Int):=by
    unfold plc
    by_cases c : t = 0
    · rw [if_pos c]; exact hz
    · rw [if_neg c]
      cases e : r[t - 1]? with
      | none=>exact hz
      | some w=>exact hr.2.1.inside hin w (List.mem_of_getElem? e)
  obtain ⟨h1,h2⟩:=h.2 r hr hp.1 hp.2
  exact ⟨h1,fun j hj=>by
    rcases Nat.lt_or_ge j (t + 1) with c | c
    · exact (h.1 r hr).2 j (by omega)
    · have : j = t + 1:=by omega
      rw [this]; exact h2⟩
theorem Cmp.none {W : Lf} {z : Int} {n : Nat} {G : Tb} (h : Cmp W z n G) {r : List Wy} (hr : Rg W z r) (hl : r.length ≤ n) : False:=by have:=(h r hr).1; omega
theorem gJ {W : Lf} {n : Nat} {Z : Int→Prop} (hin : InW W n) (hc : ∀ z,0 ≤ z→z < (n : Int)→(∃ r,Rg W z r∧r.length ≤ n)→Z z) : ∀ x s,s ≠ []→Wk W x s x→0 ≤ sm s→∃ w ∈ s,Z w.1:=fun x s hs hw hm=>by
  obtain ⟨y,r,r1,r2,r3,r4,r5⟩:=iT s.length (Nat.le_refl _) hs hw hm
  obtain ⟨z,a,b,e,ne,w2,ok⟩:=mH r1 r2 r3
  have hlen : (b ++ a).length ≤ n:=by
    have h1 : (r.map (·.1)).length ≤ n:=dw r4 fun p hp=>by
      obtain ⟨w,h1,h2⟩:=List.mem_map.mp hp
      rw [← h2]; exact r2.inside hin w h1
    rw [List.length_map,e] at h1
    simp at h1 ⊢; omega
  obtain ⟨i,l,el⟩ : ∃ i l,b ++ a = i ++ [l]:=⟨(b ++ a).dropLast,(b ++ a).getLast ne,(List.dropLast_concat_getLast ne).symm⟩
  have ez : z = l.1:=by
    have:=w2
    rw [el] at this
    exact this.last
  have hlm : l ∈ b ++ a:=by rw [el]; simp
  have hin':=w2.inside hin l hlm
  refine ⟨l,r5 l (by rw [e]; simp at hlm ⊢; exact hlm.symm),?_⟩
  rw [← ez]
  exact hc z (by rw [ez]; exact hin'.1) (by rw [ez]; exact hin'.2) ⟨b ++ a,⟨ne,w2,ok⟩,hlen⟩
def WkR (R : Int→Wy→Prop) : Int→List Wy→Int→Prop
  | x,[],y=>x = y
  | x,w :: s,y=>R x w∧WkR R w.1 s y
section
variable {R : Int→Wy→Prop}
theorem WkR.split : ∀ {x z : Int} {a b : List Wy},WkR R x (a ++ b) z→∃ y,WkR R x a y∧WkR R y b z
  | x,_,[],_,h=>⟨x,rfl,h⟩
  | _,_,w :: a,b,h=>by
    obtain ⟨y,h1,h2⟩:=WkR.split (a:=a) (b:=b) h.2
    exact ⟨y,⟨h.1,h1⟩,h2⟩
theorem WkR.last {x y : Int} {a : List Wy} {w : Wy} (h : WkR R x (a ++ [w]) y) : y = w.1:=by
  obtain ⟨z,_,h2⟩:=h.split
  exact h2.2.symm
theorem WkR.wk {W : Lf} (hR : ∀ x w,R x w→w ∈ aV W x) : ∀ {x y : Int} {s : List Wy},WkR R x s y→Wk W x s y
  | _,_,[],h=>h
  | _,_,_ :: _,h=>⟨hR _ _ h.1,WkR.wk hR h.2⟩
theorem WkR.inside {n : Nat} (hR : ∀ x w,R x w→0 ≤ w.1∧w.1 < (n : Int)) : ∀ {x y : Int} {s : List Wy},WkR R x s y→∀ w ∈ s,0 ≤ w.1∧w.1 < (n : Int)
  | _,_,[],_,_,hw=>by cases hw
  | _,_,u :: s,h,w,hw=>by
    rcases List.mem_cons.mp hw with e | e
    · rw [e]; exact hR _ _ h.1
    · exact WkR.inside hR h.2 w e
theorem lv {n : Nat} {B : Int→Prop} (hB : ∀ x,B x→0 ≤ x∧x < (n : Int)) (go : ∀ x,B x→∃ w,R x w∧B w.1) (hR : ∀ x w,R x w→B w.1) {x : Int} (hx : B x) : ∃ y s,s ≠ []∧WkR R y s y∧B y:=by
  have long : ∀ (m : Nat) x,B x→∃ s y,s.length = m∧WkR R x s y:=fun m=>by
    induction m with
    | zero=>exact fun x _=>⟨[],x,rfl,rfl⟩
    | succ m ih =>
      intro x hx
      obtain ⟨w,h1,h2⟩:=go x hx
      obtain ⟨s,y,h3,h4⟩:=ih w.1 h2
      exact ⟨w :: s,y,by simp [h3],h1,h4⟩
  obtain ⟨s,z,hl,hw⟩:=long n x hx
  have nd : ¬ (((x,(0 : Int)) :: s).map (fun w : Wy=>w.1)).Nodup:=fun h=>by
    have:=dw h fun y hy=>by
      obtain ⟨w,h1,h2⟩:=List.mem_map.mp hy
      rcases List.mem_cons.mp h1 with e | e
      · rw [← h2,e]; exact hB x hx
      · rw [← h2]; exact hw.inside (fun x w h=>hB _ (hR x w h)) w e
    simp at this; omega
  obtain ⟨a0,u,b,v,c,e,ev⟩:=dQ (fun w : Wy=>w.1) nd
  have ev : u.1 = v.1:=ev
  obtain ⟨a,hsa,hwa⟩ : ∃ a,s = a ++ ((b ++ [v]) ++ c)∧∀ y,WkR R x a y→y = u.1:=by
    cases a0 with
    | nil =>
      simp only [List.nil_append,List.cons.injEq] at e
      refine ⟨[],by rw [e.2]; simp,fun y hy=>?_⟩
      have hy : x = y:=hy
      rw [← hy,← e.1]
    | cons t a1 =>
      simp only [List.cons_append,List.cons.injEq] at e
      exact ⟨a1 ++ [u],by rw [e.2]; simp,fun y hy=>hy.last⟩
  subst hsa
  obtain ⟨y,w1,w2⟩:=hw.split
  obtain ⟨y2,w3,w4⟩:=w2.split
  have e1:=hwa y w1
  have e2:=w3.last
  have e3 : y = y2:=by omega
  subst e3
  refine ⟨y,b ++ [v],by simp,w3,?_⟩
  obtain ⟨t,t1,t2⟩:=w3.split
  have : B v.1:=hR _ _ t2.1
  rw [e2]; exact this
theorem sd {f : Int→Int} (h : ∀ x w,R x w→f w.1 ≤ f x + w.2) : ∀ {x y : Int} {s : List Wy},WkR R x s y→f y ≤ f x + sm s
  | _,_,[],hw=>by cases hw; rw [bq]; omega
  | x,y,w :: s,hw=>by
    have h1:=h _ _ hw.1
    have h2:=sd h hw.2
    rw [br]; omega
theorem iV {C : Int→Prop} (h : ∀ x w,R x w→C x→C w.1) : ∀ {x y : Int} {s : List Wy},WkR R x s y→C x→C y∧∀ w ∈ s,C w.1
  | _,_,[],hw,c=>by cases hw; exact ⟨c,fun _ z=>by cases z⟩
  | x,y,w :: s,hw,c=>by
    have c1:=h _ _ hw.1 c
    obtain ⟨h1,h2⟩:=iV h hw.2 c1
    exact ⟨h1,fun u hu=>by
      rcases List.mem_cons.mp hu with e | e
      · rw [e]; exact c1
      · exact h2 u e⟩
theorem WkR.and {R2 : Int→Wy→Prop} : ∀ {x y : Int} {s : List Wy},WkR R x s y→(∀ a w b,s = a ++ w :: b→∀ t,WkR R x a t→R t w→R2 t w)→WkR R2 x s y
  | _,_,[],h,_=>h
  | x,y,w :: s,h,g=>⟨g [] w s rfl x rfl h.1,WkR.and h.2 fun a u b e t ht hu=>g (w :: a) u b (by rw [e]; rfl) t ⟨h.1,ht⟩ hu⟩
end
theorem not_le {a b : Option Int} (h : ¬ leO a b) : leO b a:=(leO.total a b).resolve_left h
theorem cB {W W' : Lf} {n : Nat} {T T' : Tb} (hin' : InW W' n) (N : Nds W n T) (N' : Nds W' n T') (h1 : ∀ x,0 ≤ x→x < (n : Int)→∀ w ∈ aV W' x,w ∈ aV W x ∨ ¬ leO (ao T w) (T x)) : ∀ x,0 ≤ x→x < (n : Int)→leO (T x) (T' x):=by
  refine fun x x0 x1=>Classical.byContradiction fun hx=>?_
  have low : ∀ x,0 ≤ x→x < (n : Int)→∀ w ∈ aV W' x,leO (T x) (ao T w):=fun x x0 x1 w hw=>by
    rcases h1 x x0 x1 w hw with h | h
    · exact N.low x x0 x1 w h
    · exact not_le h
  let B : Int→Prop:=fun y=>(0 ≤ y∧y < (n : Int))∧∃ u,T' y = some u∧¬ leO (T y) (some u)
  let R : Int→Wy→Prop:=fun y w=>B y∧B w.1∧w ∈ aV W' y∧(T' w.1).getD 0 ≤ (T' y).getD 0 + w.2
  have hxB : B x:=by
    refine ⟨⟨x0,x1⟩,?_⟩
    cases e : T' x with
    | none=>exact absurd (by rw [e]; unfold leO; trivial) hx
    | some u=>exact ⟨u,rfl,by rw [e] at hx; exact hx⟩
  have go : ∀ y,B y→∃ w,R y w∧B w.1:=fun y hy=>by
    obtain ⟨⟨y0,y1⟩,u,hu,hn⟩:=hy
    have u0:=N'.pos y u hu
    obtain ⟨w,hw,hle⟩:=N'.way y u y0 y1 hu
    have hi:=hin' y w hw
    have hu' : ∃ u',T' w.1 = some u'∧u' ≤ u + w.2:=by
      unfold ao at hle
      cases e : T' w.1 with
      | none=>rw [e] at hle; exact hle.elim
      | some u' =>
        rw [e] at hle
        have hle : max (u' - w.2) 0 ≤ u:=hle
        exact ⟨u',rfl,by omega⟩
    obtain ⟨u',e',hle'⟩:=hu'
    have hBw : B w.1:=⟨hi,u',e',fun z=>hn (by
      refine (low y y0 y1 w hw).trans ?_
      unfold ao
      cases e : T w.1 with
      | none=>rw [e] at z; exact z.elim
      | some t =>
        rw [e] at z
        have z : t ≤ u':=z
        show max (t - w.2) 0 ≤ u
        omega)⟩
    exact ⟨w,⟨⟨⟨y0,y1⟩,u,hu,hn⟩,hBw,hw,by rw [e',hu]; exact hle'⟩,hBw⟩
  obtain ⟨y,s,hs,hw,hyB⟩:=lv (R:=R) (B:=B) (n:=n) (fun x h=>h.1) go (fun x w h=>h.2.1) hxB
  have s0 : 0 ≤ sm s:=by
    have:=sd (R:=R) (f:=fun p=>(T' p).getD 0) (fun x w h=>h.2.2.2) hw
    omega
  have big : ∀ z,B z→∀ t,T z = some t→0 < t:=fun z hz t ht=>by
    obtain ⟨_,u,hu,hn⟩:=hz
    have:=N'.pos z u hu
    rw [ht] at hn
    have hn : ¬ t ≤ u:=hn
    omega
  have sp : ∀ x w,R x w→T x = none→T w.1 = none:=fun x w h e=>by
    have:=low x h.1.1.1 h.1.1.2 w h.2.2.1
    rw [e] at this
    unfold ao at this
    cases e2 : T w.1 with
    | none=>rfl
    | some t=>rw [e2] at this; exact this.elim
  have old : WkR (fun x w=>w ∈ aV W x) y s y:=by
    refine hw.and fun a w b e t ht hR=>?_
    rcases h1 t hR.1.1.1 hR.1.1.2 w hR.2.2.1 with h | h
    · exact h
    exfalso
    have hw2:=hw
    rw [e] at hw2
    obtain ⟨t',k1,k2⟩:=hw2.split
    have k3:=k2.2
    cases ey : T y with
    | none =>
      have:=(iV (C:=fun p=>T p = none) sp ht ey).1
      rw [this] at h
      exact h (by unfold leO; trivial)
    | some ty =>
      have some_at : ∀ p q l,WkR R p l q→WkR R q [] q→T q ≠ none→T p ≠ none:=fun p q l hl _ hq hp=>hq (iV (C:=fun p=>T p = none) sp hl hp).1
      have hy' : T y ≠ none:=by rw [ey]; exact fun z=>by cases z
      have hwn : T w.1 ≠ none:=some_at _ _ _ k3 rfl hy'
      have hR' : ∀ x u,R x u→T u.1 ≠ none→(T x).getD 0 + u.2 ≤ (T u.1).getD 0:=fun x u hr hu=>by
        have hl:=low x hr.1.1.1 hr.1.1.2 u hr.2.2.1
        unfold ao at hl
        cases e2 : T u.1 with
        | none=>exact absurd e2 hu
        | some t2 =>
          rw [e2] at hl
          cases e3 : T x with
          | none=>rw [e3] at hl; exact hl.elim
          | some t3 =>
            rw [e3] at hl
            have hl : t3 ≤ max (t2 - u.2) 0:=hl
            have:=big x hr.1 t3 e3
            show t3 + u.2 ≤ t2
            omega
      have tl : ∀ {p q : Int} {l : List Wy},WkR R p l q→T q ≠ none→(T p).getD 0 + sm l ≤ (T q).getD 0:=fun {p q l} hl hq=>by
        induction l generalizing p with
        | nil=>cases hl; rw [bq]; omega
        | cons u l ih =>
          have g1:=ih hl.2
          have g2:=hR' p u hl.1 (some_at _ _ _ hl.2 rfl hq)
          rw [br]; omega
      have htn : T t ≠ none:=fun z=>hwn (sp t w hR z)
      have g1:=tl ht htn
      have g2:=tl k3 hy'
      have g3 : (T t).getD 0 + w.2 < (T w.1).getD 0:=by
        unfold ao at h
        cases e2 : T w.1 with
        | none=>exact absurd e2 hwn
        | some t2 =>
          rw [e2] at h
          cases e3 : T t with
          | none=>exact absurd e3 htn
          | some t3 =>
            rw [e3] at h
            have h : ¬ max (t2 - w.2) 0 ≤ t3:=h
            have:=big t hR.1 t3 e3
            show t3 + w.2 < t2
            omega
      have es : sm s = sm a + (w.2 + sm b):=by rw [e,cu,br]
      omega
  obtain ⟨w,hwm,hz⟩:=N.ring y s hs (WkR.wk (fun _ _ h=>h) old) s0
  have hBw : B w.1:=(iV (R:=R) (C:=B) (fun x w h _=>h.2.1) hw hyB).2 w hwm
  have:=big w.1 hBw 0 hz
  omega
theorem Nds.single {W : Lf} {n : Nat} {T : Tb} (N : Nds W n T) {x : Int} (x0 : 0 ≤ x) (x1 : x < (n : Int)) {w : Wy} (h : aV W x = [w]) : T x = ao T w:=by
  have l:=N.low x x0 x1 w (by rw [h]; exact List.mem_cons_self)
  cases e : T x with
  | none =>
    rw [e] at l
    cases e2 : ao T w with
    | none=>rfl
    | some v=>rw [e2] at l; exact l.elim
  | some v =>
    obtain ⟨w',hw,g⟩:=N.way x v x0 x1 e
    rw [h] at hw
    have : w' = w:=by simpa using hw
    rw [this] at g
    rw [e] at l
    exact leO.anti l g
theorem Nds.one {W : Lf} {n : Nat} {T T' : Tb} (hin : InW W n) (N : Nds W n T) (N' : Nds W n T') {x : Int} (x0 : 0 ≤ x) (x1 : x < (n : Int)) : T x = T' x :=
  leO.anti (cB hin N N' (fun _ _ _ _ h=>.inl h) x x0 x1) (cB hin N' N (fun _ _ _ _ h=>.inl h) x x0 x1)
theorem lK {W W' : Lf} {n : Nat} {T T' : Tb} (hin' : InW W' n) (N' : Nds W' n T') (hb : ∀ x,0 ≤ x→x < (n : Int)→leO (T x) (T' x)) {x : Int} (x0 : 0 ≤ x) (x1 : x < (n : Int)) {w : Wy} (h : aV W' x = [w]) (hm : ¬ leO (ao T w) (T x)) : ¬ leO (T' x) (T x):=fun z=>by
  have hi:=hin' x w (by rw [h]; exact List.mem_cons_self)
  rw [N'.single x0 x1 h] at z
  exact hm ((fm (hb _ hi.1 hi.2)).trans z)
theorem dO {T : Tb} {x p v : Int} {w : Wy} (h : leO (ao T w) (T x)) (e : T x = some v) (hp : v ≤ p) : ∃ v',T w.1 = some v'∧v' ≤ p + w.2:=by
  rw [e] at h
  unfold ao at h
  cases e2 : T w.1 with
  | none=>rw [e2] at h; exact h.elim
  | some v' =>
    rw [e2] at h
    have h : max (v' - w.2) 0 ≤ v:=h
    exact ⟨v',rfl,by omega⟩
theorem iP {T : Tb} {y : Int} {s : List Wy} (h : WkR (fun x w=>leO (ao T w) (T x)∧T x ≠ none) y s y) : 0 ≤ sm s:=by
  have:=sd (f:=fun p=>(T p).getD 0) (fun x w h=>by
    cases e : T x with
    | none=>exact absurd e h.2
    | some v =>
      obtain ⟨v',e',hv⟩:=dO h.1 e (Int.le_refl v)
      show (T w.1).getD 0 ≤ v + w.2
      rw [e']; exact hv) h
  omega
theorem kD {T : Tb} {x p : Int} {w : Wy} (h : leO (T x) (ao T w)) (p0 : 0 ≤ p) (hn : ¬ leO (T x) (some p)) : ¬ leO (T w.1) (some (p + w.2)):=fun z=>hn (by
  refine h.trans ?_
  unfold ao
  cases e : T w.1 with
  | none=>rw [e] at z; exact z.elim
  | some t =>
    rw [e] at z
    have z : t ≤ p + w.2:=z
    show max (t - w.2) 0 ≤ p
    omega)
theorem kJ {W : Lf} {n : Nat} {T : Tb} (N : Nds W n T) {y : Int} {s : List Wy} (hs : s ≠ []) (hw : Wk W y s y) (h : ∀ w ∈ s,T w.1 ≠ some 0) : sm s < 0:=Int.not_le.mp fun z=>by
  obtain ⟨w,hw,e⟩:=N.ring y s hs hw z
  exact h w hw e
theorem d4 {α : Type} [DecidableEq α] : ∀ (l1 l2 : List α),l1.Nodup→(∀ x ∈ l1,x ∈ l2)→l1.length ≤ l2.length
  | [],_,_,_=>Nat.zero_le _
  | x :: l1,l2,hn,hs=>by
    have hx : x ∈ l2:=hs x List.mem_cons_self
    have hxn:=(List.nodup_cons.mp hn).1
    have:=d4 l1 (l2.erase x) (List.nodup_cons.mp hn).2 fun y hy=>(List.mem_erase_of_ne (fun e=>by subst e; exact hxn hy)).mpr (hs y (List.mem_cons_of_mem _ hy))
    rw [List.length_erase_of_mem hx] at this
    have:=List.length_pos_of_mem hx
    simp; omega
abbrev ak:=Int × List Wy
def amP (ws : List Wy) (p : Int) : Int:=((ws.find? fun w=>w.1 == p).map (·.2)).getD 0
def av (P : List ak) (r : List (Option Int)) : Lf:=List.zipWith (fun row way=>match way with | none=>row.2 | some p=>[(p,amP row.2 p)]) P r
def GPk (P : List ak) : Prop:=∀ row ∈ P,row.2 ≠ []∧(row.2.map (·.1)).Nodup∧∀ w ∈ row.2,0 ≤ w.1∧w.1 < (P.length : Int)
def RlP (P : List ak) (r : List (Option Int)) : Prop:=r.length = P.length∧∀ (i : Nat) row,P[i]? = some row→(row.1 ≠ 1→r[i]? = some none)∧(row.1 = 1→∃ w ∈ row.2,r[i]? = some (some w.1))
theorem em : ∀ {ws : List Wy} {w : Wy},(ws.map (·.1)).Nodup→w ∈ ws→amP ws w.1 = w.2
  | u :: ws,w,nd,hw=>by
    rw [List.map_cons] at nd
    have nd:=List.nodup_cons.mp nd
    unfold amP
    by_cases c : u.1 = w.1
    · have : u = w:=by
        rcases List.mem_cons.mp hw with e | e
        · exact e.symm
        · exact absurd (List.mem_map.mpr ⟨w,e,c.symm⟩) nd.1
      rw [List.find?_cons,this]; simp
    · have hw' : w ∈ ws:=by
        rcases List.mem_cons.mp hw with e | e
        · exact absurd (by rw [e]) c
        · exact e
      rw [List.find?_cons]
      have : (u.1 == w.1) = false:=by simpa using c
      rw [this]
      exact em nd.2 hw'
theorem jX {P : List ak} {r : List (Option Int)} (h : r.length = P.length) : (av P r).length = P.length:=by unfold av; rw [List.length_zipWith]; omega
theorem bO {P : List ak} {r : List (Option Int)} (h : RlP P r) {i : Nat} {row : ak} (hr : P[i]? = some row) (h1 : row.1 ≠ 1) : aV (av P r) (i : Int) = row.2:=by
  have:=(h.2 i row hr).1 h1
  unfold aV av
  rw [Int.toNat_natCast,List.getElem?_zipWith,hr,this]; rfl
theorem aP {P : List ak} {r : List (Option Int)} (g : GPk P) {i : Nat} {row : ak} {w : Wy} (hr : P[i]? = some row) (hw : w ∈ row.2) (e : r[i]? = some (some w.1)) : aV (av P r) (i : Int) = [w]:=by
  unfold aV av
  rw [Int.toNat_natCast,List.getElem?_zipWith,hr,e]
  show [(w.1,amP row.2 w.1)] = [w]
  rw [em (g row (List.mem_of_getElem? hr)).2.1 hw]
theorem kK {P : List ak} {x : Int} (x0 : 0 ≤ x) (x1 : x < (P.length : Int)) : ∃ (i : Nat) (row : ak),x = (i : Int)∧P[i]? = some row:=⟨x.toNat,P[x.toNat]'(by omega),by omega,by simp⟩
theorem b9 {P : List ak} {r : List (Option Int)} (g : GPk P) (h : RlP P r) : InW (av P r) P.length:=fun x w hw=>by
  rcases Nat.lt_or_ge x.toNat P.length with c | c
  · obtain ⟨row,hrow⟩ : ∃ row,P[x.toNat]? = some row:=⟨P[x.toNat],by simp⟩
    have ho : aV (av P r) x = aV (av P r) ((x.toNat : Nat) : Int):=by unfold aV; rw [Int.toNat_natCast]
    rw [ho] at hw
    by_cases c1 : row.1 = 1
    · obtain ⟨u,hu,e⟩:=(h.2 _ row hrow).2 c1
      rw [aP g hrow hu e] at hw
      rw [List.mem_singleton.mp hw]
      exact (g row (List.mem_of_getElem? hrow)).2.2 u hu
    · rw [bO h hrow c1] at hw
      exact (g row (List.mem_of_getElem? hrow)).2.2 w hw
  · unfold aV at hw
    rw [List.getElem?_eq_none (by rw [jX h.1]; exact c)] at hw
    cases hw
def Btr (P : List ak) (r : List (Option Int)) (T : Tb) (r' : List (Option Int)) : Prop:=r'.length = P.length∧∀ (i : Nat) row,P[i]? = some row→(row.1 ≠ 1→r'[i]? = some none)∧(row.1 = 1→∃ own most,own ∈ row.2∧most ∈ row.2∧r[i]? = some (some own.1)∧(∀ w ∈ row.2,leO (ao T w) (ao T most))∧(leO (ao T most) (ao T own)∧r'[i]? = some (some own.1) ∨ ¬ leO (ao T most) (ao T own)∧r'[i]? = some (some most.1)))
theorem Btr.rule {P : List ak} {r r' : List (Option Int)} {T : Tb} (b : Btr P r T r') : RlP P r':=⟨b.1,fun i row hr=>⟨(b.2 i row hr).1,fun h=>by
  obtain ⟨own,most,h1,h2,_,_,h5⟩:=(b.2 i row hr).2 h
  rcases h5 with h | h
  · exact ⟨own,h1,h.2⟩
  · exact ⟨most,h2,h.2⟩⟩⟩
theorem dz {P : List ak} {r : List (Option Int)} {T : Tb} (g : GPk P) (N : Nds (av P r) P.length T) {i : Nat} {row : ak} (hr : P[i]? = some row) {own : Wy} (ho : own ∈ row.2) (e : r[i]? = some (some own.1)) : T (i : Int) = ao T own:=by
  have:=(List.getElem?_eq_some_iff.mp hr).1
  exact N.single (by omega) (by omega) (aP g hr ho e)
theorem Btr.ways {P : List ak} {r r' : List (Option Int)} {T : Tb} (g : GPk P) (h : RlP P r) (N : Nds (av P r) P.length T) (b : Btr P r T r') : ∀ x,0 ≤ x→x < (P.length : Int)→∀ w ∈ aV (av P r') x,w ∈ aV (av P r) x ∨ ¬ leO (ao T w) (T x):=fun x x0 x1 w hw=>by
  obtain ⟨i,row,rfl,hr⟩:=kK x0 x1
  by_cases c : row.1 = 1
  · obtain ⟨own,most,h1,h2,h3,_,h5⟩:=(b.2 i row hr).2 c
    rcases h5 with ⟨_,e⟩ | ⟨hn,e⟩
    · rw [aP g hr h1 e] at hw
      exact .inl (by rw [aP g hr h1 h3]; exact hw)
    · rw [aP g hr h2 e] at hw
      rw [List.mem_singleton.mp hw,dz g N hr h1 h3]
      exact .inr hn
  · rw [bO b.rule hr c] at hw
    exact .inl (by rw [bO h hr c]; exact hw)
theorem Btr.more {P : List ak} {r r' : List (Option Int)} {T T' : Tb} (g : GPk P) (h : RlP P r) (N : Nds (av P r) P.length T) (b : Btr P r T r') (N' : Nds (av P r') P.length T') (ne : r' ≠ r) : (∀ x,0 ≤ x→x < (P.length : Int)→leO (T x) (T' x))∧∃ x,0 ≤ x∧x < (P.length : Int)∧¬ leO (T' x) (T x):=by
  have hin':=b9 g b.rule
  have low:=cB hin' N N' (b.ways g h N)
  refine ⟨low,Classical.byContradiction fun hno=>ne ?_⟩
  refine List.ext_getElem? fun i=>?_
  cases hr : P[i]? with
  | none =>
    have hi : P.length ≤ i:=List.getElem?_eq_none_iff.mp hr
    rw [List.getElem?_eq_none (by rw [b.1]; exact hi),List.getElem?_eq_none (by rw [h.1]; exact hi)]
  | some row =>
    have hi:=(List.getElem?_eq_some_iff.mp hr).1
    by_cases c : row.1 = 1
    · obtain ⟨own,most,h1,h2,h3,_,h5⟩:=(b.2 i row hr).2 c
      rcases h5 with ⟨_,e⟩ | ⟨hn,e⟩
      · rw [e,h3]
      · exact absurd ⟨(i : Int),by omega,by omega,lK (W:=av P r) hin' N' low (by omega) (by omega) (aP g hr h2 e) (by rw [dz g N hr h1 h3]; exact hn)⟩ hno
    · rw [(b.2 i row hr).1 c,(h.2 i row hr).1 c]
theorem Btr.last {P : List ak} {r : List (Option Int)} {T : Tb} (g : GPk P) (N : Nds (av P r) P.length T) (b : Btr P r T r) {i : Nat} {row : ak} (hr : P[i]? = some row) (c : row.1 = 1) {w : Wy} (hw : w ∈ row.2) : leO (ao T w) (T (i : Int)):=by
  obtain ⟨own,most,h1,h2,h3,h4,h5⟩:=(b.2 i row hr).2 c
  rw [dz g N hr h1 h3]
  rcases h5 with ⟨h,_⟩ | ⟨hn,e⟩
  · exact (h4 w hw).trans h
  · rw [h3] at e
    have e1 : own.1 = most.1:=by simpa using e
    have : ao T most = ao T own:=by
      have a1:=em (g row (List.mem_of_getElem? hr)).2.1 h1
      have a2:=em (g row (List.mem_of_getElem? hr)).2.1 h2
      rw [e1] at a1
      unfold ao
      rw [e1,← a1,← a2]
    exact absurd (by rw [this]; exact leO.refl _) hn
end L2
namespace L2
open PySem PySem.Spec PyProof.Rows
abbrev kG (qual : Str) (scope : Scope) (cl : List (Str × Addr)) (L a : Addr) (cd : Value) : Env :=
  { scope:=scope,locals:=L,globals:=mainGlobals,cells:=cl,qual:=qual ++ ".<locals>.",func:=some a,code:=cd,frame:=some L,builtins:=builtinsNs }
abbrev jq (P : Program) (w : World) (K : PySem.W.Frag) (mg : Str→Option Value) (base : Heap) (N : List Str) (qual : Str) (scope : Scope) (cl : List (Str × Addr)) (q : Addr) (cd : Value) (A : Around) (outer : List Env) (s : Shared) (H : Hp) : Cx where
  prog:=P
  w:=w
  K:=K
  mg:=mg
  base:=base
  A:=A.deeper (kG qual scope cl s.heap.objs.size q cd)
  N:=N
  s₀:=s
  H₀:=H
  env:=kG qual scope cl s.heap.objs.size q cd
  outer:=outer
  stack:=kG qual scope cl s.heap.objs.size q cd :: outer
  ex:=[]
  calm:=true
  fn:=fun _=>false
  pn:=[]
  xe:=fun _ _=>False
structure LamCl (scope : Scope) (cl : List (Str × Addr)) (x : Str) (N : List Str) (vs : List V) (s : Shared) (H : Hp) : Prop where
  kind : scope.kind = .function
  co : scope.isCoroutine = false
  gen : scope.isGenerator = false
  nocell : ∀ y ∈ scope.names,y.2 ≠ .cell
  hx : scope.names.lookup x = some .local
  inj : ∀ x y c,cl.lookup x = some c→cl.lookup y = some c→x = y
  has : ∀ y,scope.names.lookup y = some .free→∃ c,cl.lookup y = some c
  cell : ∀ y c,cl.lookup y = some c→H c = none∧∃ v,s.heap.IsCell c v
  N : ∃ ys,N = x :: ys∧ys.length = vs.length∧x ∉ ys∧∀ (i : Nat) y v,ys[i]? = some y→vs[i]? = some v→scope.names.lookup y = some .free∧∃ c u,cl.lookup y = some c∧s.heap.IsCell c (some u)∧RelV v u
theorem qw {P : Program} {w : World} {K : PySem.W.Frag} {mg : Str→Option Value} {base : Heap} {k : Nat} {q : Addr} {qual x : Str} {params : Arguments} {body : Expr} {scope : Scope} {cl : List (Str × Addr)} {pm cdv ctv : Value} {N : List Str} {vs : List V} {A : Around} {outer : List Env} {s : Shared} {H : Hp} {v : V} {u : Value} {Q : VK} {E : XK} {te : TE}
    (ho : s.heap.get? q = some { cls:=.type "function",data:=.func (PySem.W.kla_fn "<lambda>" qual params body scope cl pm cdv ctv) }) (hc : s.heap.CodeRec cdv qual)
    (hbind : bindArgs (PySem.W.kla_fn "<lambda>" qual params body scope cl pm cdv ctv) ⟨[u],[]⟩ = pure [(x,u)]) (C : LamCl scope cl x N vs s H) (hr : Room (k + 1) A) (e0 : Env0 P w K mg base A outer s H) (r : RelV v u)
    (hb : PE (jq P w K mg base N qual scope cl q cdv A outer s H) body te) (hq : te (some v :: vs.map some) H Q) :
    codeAny (model P w) A (.call (.ref q) ⟨[u],[]⟩) (CR CX0 outer P w H s Q E) s:=by
  have lim : s.heap.NoLimit:=e0.mod.nolimit.keeps fun b o e=>(e0.bs b o e).1
  refine PySem.W.kla_callFunE hr.depth ho rfl C.co C.gen rfl hc ?_
  rw [hbind]
  refine wpAny_pure ?_
  refine wpAny_newFunctionEnv C.nocell (fun y hy=>by
    have : y = (x,u):=by simpa using hy
    rw [this]; exact C.hx) (fun h' ns sb=>?_) C.kind
  have keep : ∀ b o,s.heap.get? b = some o→h'.get? b = some o:=fun b o e=>by
    have hb:=Heap.lt_size e
    rw [sb.2 b (Nat.ne_of_lt hb)]
    exact Heap.get?_push_of_some _ e
  refine ⟨lim.keeps keep,PySem.W.kla_codeExpr ?_⟩
  have I : Inv (jq P w K mg base N qual scope cl q cdv A outer s H) [] (some v :: vs.map some) H { s with heap:=h',toks:=s.toks + 1 }:=by
    obtain ⟨ys,eN,yl,xn,yv⟩:=C.N
    have ic : ∀ {c : Addr} {v : Option Value},s.heap.IsCell c v→h'.IsCell c v:=fun {c v} ⟨o,h1,h2⟩=>⟨o,keep _ _ h1,h2⟩
    refine ⟨⟨e0.mod,C.kind,rfl,rfl,Nat.le_refl _,C.inj,fun y hy=>?_,(fun y c h=>by cases h),fun _=>hr.hd,Around.frames_deeper e0.frames,.inr ⟨rfl,rfl⟩,(fun b z=>nomatch z),e0.bs,e0.bsz,(fun b _ _ z=>nomatch z),(fun b z=>nomatch z),e0.funs,e0.frf⟩,
      rfl,e0.bare,Un.kept keep,⟨_,ns,fun i y v' h1 h2 h3=>?_⟩,fun y c h=>?_,e0.hok.fresh (Nat.le_refl _),fun y c h=>(C.cell y c h).1,(fun p hp=>nomatch hp),e0.hok.kept keep,?_⟩
    · have hy : scope.names.lookup y = some .cell ∨ scope.names.lookup y = some .free:=hy
      rcases hy with hy | hy
      · exact absurd rfl (C.nocell _ (PySem.mem_of_lookup hy))
      · exact C.has y hy
    · subst eN
      cases i with
      | zero =>
        have e1 : x = y:=by injection h1
        have e2 : v = v':=by injection h2 with h2; injection h2
        subst e1 e2
        exact ⟨u,r,.inl ⟨C.hx,by show List.lookup x [(x,u)] = _; simp⟩⟩
      | succ i =>
        have h1 : ys[i]? = some y:=h1
        have h2 : (vs.map some)[i]? = some (some v'):=h2
        have h2 : vs[i]? = some v':=by
          rw [List.getElem?_map] at h2
          cases e : vs[i]? with
          | none=>rw [e] at h2; cases h2
          | some a=>rw [e] at h2; cases h2; rfl
        obtain ⟨hf,c,u',h3,h4,h5⟩:=yv i y v' h1 h2
        exact ⟨u',h5,.inr ⟨.inr hf,c,h3,ic h4⟩⟩
    · obtain ⟨_,v,hv⟩:=C.cell y c h
      exact ⟨v,ic hv⟩
    · subst eN
      show (vs.map some).length + 1 = ys.length + 1
      rw [List.length_map,yl]
  refine wpAny_mono (hb [] _ _ H _ I hq) (fun y s' hs=>?_) fun e s' hs=>hs.elim
  obtain ⟨yv,H',J,rv,qv⟩:=hs
  exact ⟨yv,H',J.os,J.bare,J.base,J.hok,rv,qv⟩
def TabOk (H : Hp) (P : Addr) (pos : Pos) (qual : Str) : Prop:=∃ ps : Array Value,H P = some (.tbl ps)∧TriplesOk ps.toList ∧
  (codeAmong pos ps.toList = none ∨ ∃ (c : Addr) (o : Obj) (vs : Array Value) (t : Tok),codeAmong pos ps.toList = some (.ref c)∧H c = some (.frz o (.own c))∧o.data = .fields vs∧vs[1]? = some (.str qual t))
def SameT (P : Addr) (H H' : Hp) : Prop:=∀ b o,b ≠ P→H b = some o→H' b = some o
theorem SameT.trans {P : Addr} {H H1 H2 : Hp} (a : SameT P H H1) (b : SameT P H1 H2) : SameT P H H2:=fun c o n h=>b c o n (a c o n h)
theorem SameT.of {P : Addr} {H H' : Hp} (s : Same H H') : SameT P H H':=fun b o _ h=>s b o h
theorem TabOk.up {H H' : Hp} {P : Addr} {pos : Pos} {qual : Str} (t : TabOk H P pos qual) (s : Same H H') : TabOk H' P pos qual:=by
  obtain ⟨ps,h1,h2,h3⟩:=t
  refine ⟨ps,s _ _ h1,h2,?_⟩
  rcases h3 with h | ⟨c,o,vs,t,h4,h5,h6⟩
  · exact .inl h
  · exact .inr ⟨c,o,vs,t,h4,s _ _ h5,h6⟩
abbrev exO (a : Addr) (o : Obj) : HO:=.frz o (.own a)
abbrev pb (qual : Str) (params : Arguments) (body : Expr) (scope : Scope) (cl : List (Str × Addr)) (pm cdv ctv : Value) : Obj:={ cls:=.type "function",data:=.func (PySem.W.kla_fn "<lambda>" qual params body scope cl pm cdv ctv) }
def fW (H : Hp) (q : Addr) (qual : Str) (params : Arguments) (body : Expr) (scope : Scope) (cl : List (Str × Addr)) : Prop:=∃ (pm ctv : Value) (c : Addr) (o : Obj) (vs : Array Value) (t : Tok),H q = some (exO q (pb qual params body scope cl pm (.ref c) ctv))∧H c = some (exO c o)∧o.data = .fields vs∧vs[1]? = some (.str qual t)
section
variable {X : Cx} {pins : List (Addr × Obj)} {σ : St} {H : Hp} {s : Shared}
theorem Inv.grown {P : Addr} {ps more : Array Value} {h' : Heap} {t' : Nat} {news : List (Addr × Obj)} (I : Inv X pins σ H s) (hP : H P = some (.tbl ps)) (k : ∀ b o,b ≠ P→s.heap.get? b = some o→h'.get? b = some o) (hp : h'.get? P = some (PySem.W.tabObj (ps ++ more))) (hn : ∀ p ∈ news,s.heap.objs.size ≤ p.1∧h'.get? p.1 = some p.2) :
    ∃ H',Inv X pins σ H' { s with heap:=h',toks:=t' }∧SameT P H H'∧H' P = some (.tbl (ps ++ more))∧∀ p ∈ news,H' p.1 = some (exO p.1 p.2):=by
  have oldP : P < s.heap.objs.size:=I.hok.lt hP
  have old : ∀ {b o},H b = some o→b < s.heap.objs.size:=fun e=>I.hok.lt e
  let H' : Hp:=fun b=>if b = P then some (.tbl (ps ++ more)) else if b < s.heap.objs.size then H b else ((news.find? fun p=>decide (p.1 = b)).map fun p=>exO p.1 p.2)
  have e1 : H' P = some (.tbl (ps ++ more)):=if_pos rfl
  have e2 : ∀ {b},b ≠ P→b < s.heap.objs.size→H' b = H b:=fun {b} n l=>by show (if b = P then _ else _) = _; rw [if_neg n,if_pos l]
  have e3 : ∀ {b o},¬ b < s.heap.objs.size→H' b = some o→∃ p ∈ news,p.1 = b∧o = exO p.1 p.2:=fun {b o} l e=>by
    have e : (if b = P then some (.tbl (ps ++ more)) else if b < s.heap.objs.size then H b else ((news.find? fun p=>decide (p.1 = b)).map fun p=>exO p.1 p.2)) = some o:=e
    rw [if_neg (fun z=>l (by rw [z]; exact oldP)),if_neg l] at e
    obtain ⟨p,hp,rfl⟩:=Option.map_eq_some_iff.mp e
    exact ⟨p,List.mem_of_find?_eq_some hp,by have:=List.find?_some hp; simpa using this,rfl⟩
  have sm : SameT P H H':=fun b o n e=>by rw [e2 n (old e)]; exact e
  have nP : ∀ {b o},H b = some o→(∀ q,o ≠ .tbl q)→b ≠ P:=fun {b o} e d z=>by rw [z,hP] at e; injection e with e; exact d _ e.symm
  refine ⟨H',I.un ⟨fun b o e n _ _=>?_,fun b o e n _ _=>?_,fun b o e n _=>?_,fun b o e _=>?_,fun b xs e=>?_,fun b o u e=>?_,fun b qs e=>?_⟩ (fun b o e=>?_),sm,e1,fun p hp'=>?_⟩
  · exact k b o (fun z=>by rw [z,hP] at n; cases n) e
  · exact ⟨o.slots,k b o (fun z=>by rw [z,hP] at n; cases n) e⟩
  · rw [e2 (fun z=>by rw [z,hP] at n; cases n) (Heap.lt_size e)]; exact n
  · by_cases hb : b = P
    · rw [hb]; exact ⟨_,hp⟩
    · exact ⟨o,k b o hb e⟩
  · exact sm _ _ (nP e fun q z=>by cases z) e
  · exact sm _ _ (nP e fun q z=>by cases z) e
  · by_cases hb : b = P
    · subst hb; rw [hP] at e; cases e; exact ⟨more,e1⟩
    · exact ⟨#[],by rw [sm _ _ hb e]; simp⟩
  · by_cases hb : b = P
    · subst hb; rw [e1] at e; cases e; exact hp
    by_cases hl : b < s.heap.objs.size
    · rw [e2 hb hl] at e
      refine (I.hok b o e).stay (fun c v hc r=>k c v ?_ r) (fun c r=>sm _ _ (nP r fun q z=>by cases z) r) fun c xs r=>sm _ _ (nP r fun q z=>by cases z) r
      rcases hc with rfl | hc
      · exact hb
      · exact nP hc fun q z=>by cases z
    · obtain ⟨p,hm,rfl,rfl⟩:=e3 hl e
      exact ⟨(hn p hm).2,_,(hn p hm).2⟩
  · have hl : ¬ p.1 < s.heap.objs.size:=Nat.not_lt.mpr (hn p hp').1
    show (if p.1 = P then _ else _) = _
    rw [if_neg (fun z=>hl (by rw [z]; exact oldP)),if_neg hl]
    cases e : news.find? fun q=>decide (q.1 = p.1) with
    | none=>exact absurd (decide_eq_true rfl) (List.find?_eq_none.mp e p hp')
    | some q =>
      have h1 : q.1 = p.1:=by have:=List.find?_some e; simpa using this
      have h2:=(hn q (List.mem_of_find?_eq_some e)).2
      rw [h1,(hn p hp').2] at h2
      injection h2 with h2
      show some (exO q.1 q.2) = _
      rw [h1,h2]
structure LamDef (X : Cx) (P : Addr) : Prop where
  code : ∃ c,X.env.code = .ref c∧∀ h : Heap,(∀ b o,X.base.get? b = some o→h.get? b = some o)→PySem.W.CodeHd h c P
  blt : ∀ h : Heap,(∀ b o,X.base.get? b = some o→h.get? b = some o)→h.BuiltinsAt X.mg P
  ne : mainGlobals ≠ P
theorem mR {P : Addr} {params : Arguments} {body : Expr} {scope : Scope} {pos : Pos} {Q : Value→Shared→Prop} {E : Value→Shared→Prop} (D : LamDef X P) (I : Inv X pins σ H s) (t : TabOk H P pos (X.env.qual ++ "<lambda>")) (hd : defaultsOf params X.env = ([],[]))
    (hf : ∀ y ∈ scope.names,y.2 = .free→∃ c,X.env.cells.lookup y.1 = some c)
    (h : ∀ (cl : List (Str × Addr)) (q : Addr) (H' : Hp) (s' : Shared),(∀ x c,cl.lookup x = some c→X.env.cells.lookup x = some c)→(∀ x,(x,NameKind.free) ∈ scope.names→∃ c,cl.lookup x = some c)→Inv X pins σ H' s'→SameT P H H'→TabOk H' P pos (X.env.qual ++ "<lambda>")→fW H' q (X.env.qual ++ "<lambda>") params body scope cl→Q (.ref q) s') :
    wpAny (model X.prog X.w) X.A (eval (.Lambda params body scope pos) X.env) Q E s:=by
  obtain ⟨cl,ecl,c1,c2⟩:=jh hf
  obtain ⟨c,hc,hcd⟩:=D.code
  obtain ⟨ps,hP,tr,alt⟩:=t
  have gl : s.heap.Ns mainGlobals X.mg:=by
    have:=I.ok.mod.glob
    exact this.keeps I.bk
  have hPo : s.heap.get? P = some (PySem.W.tabObj ps):=I.hok P _ hP
  refine PySem.W.kla_eval hd ?_
  rcases alt with none_ | ⟨cc,o,vs,tk,among,hcc,od,ov⟩
  · refine PySem.W.kla_makeFunction ecl I.ok.glob gl hc (hcd _ I.bk) hPo tr none_ D.ne (D.blt _ I.bk) fun c' ctv h' tk' ext ge lt rec tab=>?_
    obtain ⟨c0,oc,vs,t0,e0,g0,d0,v0⟩:=rec
    cases e0
    obtain ⟨H',I',sT,hP',hnew⟩:=I.grown (P:=P) (ps:=ps) (more:=#[rawInt pos.line,rawInt pos.col,Value.ref c']) (t':=tk') (news:=[(c',oc),(h'.objs.size,PySem.W.kla_obj "<lambda>" (X.env.qual ++ "<lambda>") params body scope cl ((X.mg "__name__").getD .none) c' ctv)])
      (h' := h'.push (PySem.W.kla_obj "<lambda>" (X.env.qual ++ "<lambda>") params body scope cl ((X.mg "__name__").getD .none) c' ctv)) hP (fun b o n e=>Heap.get?_push_of_some _ (ext b o n e)) (Heap.get?_push_of_some _ tab) (fun p hp=>by
        rcases List.mem_cons.mp hp with rfl | hp
        · exact ⟨ge,Heap.get?_push_of_some _ g0⟩
        · rw [List.mem_singleton.mp hp]
          exact ⟨Nat.le_of_lt (Nat.lt_of_le_of_lt ge lt),Heap.get?_push_size _ rfl⟩)
    have n1:=hnew (c',oc) List.mem_cons_self
    have n2:=hnew _ (List.mem_cons_of_mem _ (List.mem_singleton.mpr rfl))
    have el : (ps ++ #[rawInt (pos.line : Int),rawInt (pos.col : Int),Value.ref c']).toList = ps.toList ++ [rawInt (pos.line : Int),rawInt (pos.col : Int),Value.ref c']:=by simp
    exact h cl _ H' _ c1 c2 I' sT ⟨_,hP',by rw [el]; exact TriplesOk_snoc _ _ _ _ tr,.inr ⟨c',oc,vs,t0,by rw [el]; exact codeAmong_snoc _ tr none_,n1,d0,v0⟩⟩ ⟨_,_,c',oc,vs,t0,n2,n1,d0,v0⟩
  · refine PySem.W.kla_makeFunctionHit ecl I.ok.glob gl hc (hcd _ I.bk) hPo tr among (D.blt _ I.bk) fun ctv h' tk' ext ge=>?_
    have I':=I.laid (a:=h'.objs.size) (o:=exO h'.objs.size (pb (X.env.qual ++ "<lambda>") params body scope cl ((X.mg "__name__").getD .none) (.ref cc) ctv)) (h':=h'.push (pb (X.env.qual ++ "<lambda>") params body scope cl ((X.mg "__name__").getD .none) (.ref cc) ctv)) (t':=tk')
      (fun b u e=>Heap.get?_push_of_some _ (ext b u e)) ge ⟨Heap.get?_push_size _ rfl,_,Heap.get?_push_size _ rfl⟩
    have sm:=ah (H:=H) (I.hok.fresh ge) (exO h'.objs.size (pb (X.env.qual ++ "<lambda>") params body scope cl ((X.mg "__name__").getD .none) (.ref cc) ctv))
    exact h cl _ _ _ c1 c2 I' (SameT.of sm) ⟨ps,sm _ _ hP,tr,.inr ⟨cc,o,vs,tk,among,sm _ _ hcc,od,ov⟩⟩ ⟨_,_,cc,o,vs,tk,ae,sm _ _ hcc,od,ov⟩
end
end L2
namespace HT
open PySem PyProof.Rows
theorem mT (A : Around) (s : Shared) (a : Int) (t : Tok) (c : Int) (u : Tok) (prog : Program) (w : World) (E : Value→Shared→Prop) (Q : Value→Shared→Prop) (h : Q (.bool (decide (c < a))) s) :
    wpAny (model prog w) A (richCompare .Gt (.int a t) (.int c u)) Q E s :=
  (PyProof.Rows.gt_int h : wpAny (model prog w) A (compareOp .Gt (.int a t) (.int c u)) Q E s)
section
open PySem.SeqAt
open PySem.AutoSeq1 (wpAny_loadPart')
open PySem.MeetsSeq PySem.MeetsSeq2 PySem.MeetsSeq3
theorem hV (l b : Addr) (items items2 : Array Value) (n n2 : Nat) (dd dd2 : Option Addr) (sl sl2 : Array (Option Value)) (ns ms : List Int) (hi : IntsAre items.toList ns) (hj : IntsAre items2.toList ms) :
    Meets (Builtin.«tuple.__gt__» ⟨[.ref l,.ref b],[]⟩)
      (fun _ R s=>s.heap.get? l = some { cls:=.type "tuple",dict:=dd,data:=.seq items n,slots:=sl }∧s.heap.get? b = some { cls:=.type "tuple",dict:=dd2,data:=.seq items2 n2,slots:=sl2 } ∧
        R (.ok (.ret (.bool (lexLt ms ns)))) s) :=
  .of_wp fun prog w A R s h=>by
    obtain ⟨hp,g,d,tk,os⟩:=s; obtain ⟨hl,hb,h⟩:=h
    have f2:=AutoSeq1.sub_tuple_tuple
    have z1 : items.size = ns.length:=by rw [← hi.length]; simp
    have z2 : items2.size = ms.length:=by rw [← hj.length]; simp
    wp_walk using wpAny_loadPart' hl,wpAny_loadPart' hb,wpAny_forIn_list _ (fun rest b s'=>b.1 = none∧s' = ⟨hp,g,d,tk,os⟩∧∃ (vs ws : List Value) (ns' ms' : List Int),rest = vs.zip ws ∧
      IntsAre vs ns'∧IntsAre ws ms'∧ns'.length + items2.size = ms'.length + items.size∧R (.ok (.ret (.bool (lexLt ms' ns')))) ⟨hp,g,d,tk,os⟩) _
    case turn =>
      rintro ⟨y,x⟩ rest b s' ⟨hb',rfl,vs,ws,ns',ms',hz,hvi,hwi,hlen,hR⟩
      cases hvi with
      | nil=>rw [List.zip_nil_left] at hz; cases hz
      | cons a t hvi' =>
        cases hwi with
        | nil=>rw [List.zip_nil_right] at hz; cases hz
        | cons c u hwi' =>
          rw [List.zip_cons_cons] at hz
          injection hz with hyx hrest
          injection hyx with hy hx
          subst hy hx
          rw [lexLt_cons] at hR
          simp only [List.length_cons] at hlen
          obtain ⟨e,he,hiff⟩:=jN A.in1 ⟨hp,g,d,tk,os⟩ a t c u
          refine wpAny_bind (he prog w _ _ ?_)
          cases e with
          | true =>
            rw [if_pos (hiff.mp rfl).symm] at hR
            wp_walk
            exact ⟨rfl,rfl,_,_,_,_,hrest,hvi',hwi',by omega,hR⟩
          | false =>
            rw [if_neg (fun q=>absurd (hiff.mpr q.symm) Bool.false_ne_true)] at hR
            have hri:=mT A.in1 ⟨hp,g,d,tk,os⟩ a t c u prog w
            wp_walk using hri
            exact ⟨_,rfl,by simpa using hR⟩
    case fin =>
      rintro ⟨b1,b2⟩ s' ⟨hb',rfl,vs,ws,ns',ms',hz,hvi,hwi,hlen,hR⟩
      simp only at hb'
      subst hb'
      have hv : lexLt ms' ns' = decide (items2.size < items.size):=by
        cases hvi with
        | nil =>
          cases hwi with
          | nil =>
            simp only [List.length_nil] at hlen
            rw [lexLt_nil_nil]
            exact (decide_eq_false (by omega)).symm
          | cons c u hw =>
            simp only [List.length_nil,List.length_cons] at hlen
            rw [dA]
            exact (decide_eq_false (by omega)).symm
        | cons a t hv =>
          cases hwi with
          | nil =>
            simp only [List.length_nil,List.length_cons] at hlen
            rw [dB]
            exact (decide_eq_true (by omega)).symm
          | cons c u hw =>
            rw [List.zip_cons_cons] at hz
            cases hz
      rw [hv] at hR
      wp_walk
      exact ⟨_,rfl,by simpa [Builtin.Tuple.tupleCompareSizes] using hR⟩
    case h =>
      exact ⟨rfl,rfl,items.toList,items2.toList,ns,ms,rfl,hi,hj,by omega,h⟩
end
section
variable {prog : Program} {w : World} {A : Around} {E : Value→Shared→Prop} {s : Shared}
theorem gt_tupInts {l b : Addr} {items items2 : Array Value} {ns ms : List Int} {Q : Value→Shared→Prop} (hl : IsTup s.heap l items) (hb : IsTup s.heap b items2) (hi : IntsAre items.toList ns) (hj : IntsAre items2.toList ms)
    (hu : A.units < cLine) (h : Q (.bool (lexLt ms ns)) s) : wpAny (model prog w) A (compareOp .Gt (.ref l) (.ref b)) Q E s:=by
  obtain ⟨⟨cls,dd,data,sl⟩,ho,hc,n,hd⟩:=id hl
  obtain ⟨⟨cls2,dd2,data2,sl2⟩,ho2,hc2,n2,hd2⟩:=id hb
  simp only at hc hd hc2 hd2
  subst hc hd hc2 hd2
  exact richCompare_meets_room (op:=.Gt) ⟨_,ho,rfl⟩ ⟨_,ho2,rfl⟩ PySem.F.slot_tuple_gt PySem.F.entry_tuple_gt (PySem.F.args_tuple_gt_2 _ _) (hV l b items items2 n n2 dd dd2 sl sl2 ns ms hi hj)
    ⟨ho,ho2,show Value.bool (lexLt ms ns) ≠ Value.notImplemented∧Q (.bool (lexLt ms ns)) s from ⟨(fun x=>nomatch x),h⟩⟩ hu
end
end HT
namespace L2
open PySem PySem.Spec PyProof.Rows
section
variable {X : Cx}
def ue (K : PySem.W.Frag) : R2:=fun x y H Q=>∃ a b ns ms,x = .ref a∧y = .ref b∧SqT K H a (ns.map V.int)∧SqT K H b (ms.map V.int)∧Q (.bl (HT.lexLt ms ns)) H
theorem rq {K : PySem.W.Frag} (hK : X.K = K) (hu : X.A.units < cLine) : OpR X (compareOp .Gt) (ue K):=by
  subst hK
  intro pins s σ H x y v u Q I rx ry h
  obtain ⟨a,b,ns,ms,rfl,rfl,ha,hb,q⟩:=h
  cases rx
  cases ry
  obtain ⟨its,r1,p1,_⟩:=I.tuple ha
  obtain ⟨its2,r2,p2,_⟩:=I.tuple hb
  have i1 : IntsAre its.toArray.toList ns:=bN r1
  have i2 : IntsAre its2.toArray.toList ms:=bN r2
  exact HT.gt_tupInts p1 p2 i1 i2 hu ⟨.bl (HT.lexLt ms ns),H,I,rfl,q⟩
end
def lt2 (p q : Int × Int) : Prop:=p.1 < q.1 ∨ p.1 = q.1∧p.2 < q.2
theorem nE (p q : Int × Int) : HT.lexLt [p.1,p.2] [q.1,q.2] = true ↔ lt2 p q:=by
  rw [HT.lexLt_cons]
  unfold lt2
  by_cases e : p.1 = q.1
  · rw [if_pos e,HT.lexLt_cons]
    by_cases f : p.2 = q.2
    · rw [if_pos f,HT.lexLt_nil_nil]
      exact ⟨(fun z=>by cases z),fun z=>by omega⟩
    · rw [if_neg f,decide_eq_true_eq]
      exact ⟨fun z=>.inr ⟨e,z⟩,fun z=>by omega⟩
  · rw [if_neg e,decide_eq_true_eq]
    exact ⟨fun z=>.inl z,fun z=>by omega⟩
theorem iy (A : Around) (args : Args) : A.under (.builtin "min.loop" args) = A.in1:=by
  cases A with
  | mk a b c d e =>
    have h1 : (Code.builtin "min.loop" args).weight = 0:=rfl
    have h2 : (Code.builtin "min.loop" args).cUnits = 1:=rfl
    have h3 : pushGuards (Code.builtin "min.loop" args).guards d = d:=by cases d <;> rfl
    simp [Around.under,Around.in1,Code.envs,Code.isFrame,pushEnvs,h1,h2,h3]
theorem iH (A : Around) (args : Args) : A.under (.builtin "max.loop" args) = A.in1:=by
  cases A with
  | mk a b c d e =>
    have h1 : (Code.builtin "max.loop" args).weight = 0:=rfl
    have h2 : (Code.builtin "max.loop" args).cUnits = 1:=rfl
    have h3 : pushGuards (Code.builtin "max.loop" args).guards d = d:=by cases d <;> rfl
    simp [Around.under,Around.in1,Code.envs,Code.isFrame,pushEnvs,h1,h2,h3]
def ngK (kf : Nat→Int × Int) : Nat→Int × Int:=fun i=>(-(kf i).1,-(kf i).2)
theorem ng_lt {kf : Nat→Int × Int} {i j : Nat} : lt2 (ngK kf j) (ngK kf i) ↔ lt2 (kf i) (kf j):=by
  unfold lt2 ngK
  show (-(kf j).1 < -(kf i).1 ∨ -(kf j).1 = -(kf i).1∧-(kf j).2 < -(kf i).2) ↔ _
  omega
theorem cP {M : Model} {A : Around} {E : Value→Shared→Prop} {s : Shared} {S : Addr} {o : Obj} {items : Array Value} {n : Nat} {Q : Option (Array Value)→Shared→Prop} (hS : s.heap.get? S = some o) (hd : o.data = .seq items n) (h : Q (some items) s) : wpAny M A (seqItems? (.ref S)) Q E s:=by
  unfold seqItems?
  refine wpAny_bind (wpAny_load hS ?_)
  rw [hd]
  exact wpAny_pure h
def BestN (kf : Nat→Int × Int) (n i : Nat) : Prop:=∀ j,j < n→¬ lt2 (kf j) (kf i)∧(j < i→lt2 (kf i) (kf j))
theorem BestN.keep {kf : Nat→Int × Int} {n i : Nat} (h : BestN kf n i) (hi : i < n) (hn : ¬ lt2 (kf n) (kf i)) : BestN kf (n + 1) i:=fun j hj=>by
  rcases Nat.lt_or_ge j n with c | c
  · exact h j c
  · have : j = n:=by omega
    subst this
    exact ⟨hn,fun z=>by omega⟩
theorem BestN.next {kf : Nat→Int × Int} {n i : Nat} (h : BestN kf n i) (hn : lt2 (kf n) (kf i)) : BestN kf (n + 1) n:=fun j hj=>by
  rcases Nat.lt_or_ge j n with c | c
  · have:=(h j c).1
    unfold lt2 at *
    exact ⟨by omega,fun _=>by omega⟩
  · have : j = n:=by omega
    subst this
    unfold lt2
    exact ⟨by omega,fun z=>by omega⟩
def cR (p : Int × Int) : List V:=[V.int p.1,V.int p.2]
section
variable {X : Cx} {pins : List (Addr × Obj)} {σ : St}
theorem FpOk.of {H H' : Hp} {b : Addr} (h : FpOk X pins H b) (hn : H' b = none) : FpOk X pins H' b:=⟨hn,h.2⟩
theorem oC (kf : Nat→Int × Int) {xs : List V} {l it S q : Addr} {H0 : Hp} {R : Result→Shared→Prop} (hcalm : X.A.handled = none) (hu : X.A.units + 2 < cLine) (hl : SqL X.K H0 l xs) (ne : xs ≠ []) (nIS : S ≠ it)
    (KEY : ∀ (i : Nat) (x : V) (u : Value) (H : Hp) (s : Shared) (pins' : List (Addr × Obj)),Inv X pins' σ H s→Same H0 H→xs[i]? = some x→RelV x u→wpAny (model X.prog X.w) X.A.in1 (call (.ref q) [u]) (EP X pins' σ fun y H'=>Same H H'∧∃ t,y = .ref t∧H' t = some (.tup (cR (kf i)))) (fun _ _=>False) s)
    (FIN : ∀ (i : Nat) (x : V) (u : Value) (H : Hp) (s : Shared),Inv X pins σ H s→Same H0 H→xs[i]? = some x→RelV x u→BestN kf xs.length i→R (.ok (.ret u)) s) :
    ∀ (r j : Nat) (H : Hp) (s : Shared),xs.length - j = r→j ≤ xs.length→Inv X pins σ H s→Same H0 H→s.heap.IsListIter it l j→FpOk X pins H it→FpOk X pins H S →
      ((j = 0∧∃ n,s.heap.get? S = some { cls:=.type "list",data:=.seq #[] n }) ∨ ∃ (i : Nat) (x : V) (ub : Value) (t : Addr) (n : Nat),s.heap.get? S = some { cls:=.type "list",data:=.seq #[ub,.ref t] n }∧xs[i]? = some x∧RelV x ub∧i < j∧H t = some (.tup (cR (kf i)))∧BestN kf j i) →
      codeAny (model X.prog X.w) X.A (.builtin "min.loop" ⟨[.ref it,.ref q,.ref S],[]⟩) R s:=by
  intro r
  induction r with
  | zero =>
    intro j H s hr hj I sm hit fI fS st
    have hje : j = xs.length:=by omega
    have hpos : 0 < xs.length:=List.length_pos_iff.mpr ne
    rcases st with ⟨h0,_⟩ | ⟨i,x,ub,t,n,hS,hx,hub,hij,ht,bst⟩
    · omega
    refine codeAny_builtin PySem.F.entry_min_loop ?_
    rw [iy]
    unfold Builtin.«min.loop»
    show wpAny _ _ (seqItems? (.ref S) >>= _) _ _ s
    refine wpAny_bind (cP hS rfl ?_)
    obtain ⟨its,rv,p,hz⟩:=I.list (sm.seq hl)
    have hl2:=rv.length
    refine wpAny_bind (wpAny_tryCatch (wpAny_pyNext_list_end hcalm hit p.isList (by simp; omega) fun h' eb=>?_))
    obtain ⟨f0,f1,f2,f3,f4,f5⟩:=fI
    have I1 : Inv X pins σ H { s with heap:=h' }:=I.turned (t':=s.toks) (fun b o hb e=>eb b o hb e) f0 f1 f3 f4 f5
    have hS1 : h'.get? S = some { cls:=.type "list",data:=.seq #[ub,.ref t] n }:=eb S _ nIS hS
    obtain ⟨g0,g1,g2,g3,g4,g5⟩:=fS
    show wpAny _ _ (updateSeq S (fun _=>#[]) >>= _) _ _ _
    refine wpAny_bind (wpAny_updateSeq (s:={ s with heap:=h' }) hS1 rfl ?_ (by show 2 ≤ sizeLine; decide) (by show 0 ≤ sizeLine + 1; decide))
    refine wpAny_bind (wpAny_letGo (wpAny_pure ?_))
    have I2:=I1.turned (t':=s.toks) (h':=h'.update S (Obj.mapSeq fun _=>#[])) (fun b o hb e=>((Heap.SameBut.update h' S (Obj.mapSeq fun _=>#[])).2 b hb).trans e) g0 g1 g3 g4 g5
    exact FIN i x ub H _ I2 sm hx hub (hje ▸ bst)
  | succ r ih =>
    intro j H s hr hj I sm hit fI fS st
    have hjl : j < xs.length:=by omega
    have hr1 : xs.length - (j + 1) = r:=by clear st; omega
    obtain ⟨its,rv,p,hz⟩:=I.list (sm.seq hl)
    have hl2:=rv.length
    obtain ⟨u,hu',ru⟩:=rv.get (List.getElem?_eq_getElem hjl)
    refine codeAny_builtin PySem.F.entry_min_loop ?_
    rw [iy]
    unfold Builtin.«min.loop»
    show wpAny _ _ (seqItems? (.ref S) >>= _) _ _ s
    obtain ⟨oS,items,n,hS,dS,hcase⟩ : ∃ (oS : Obj) (items : Array Value) (n : Nat),s.heap.get? S = some oS∧oS = { cls:=.type "list",data:=.seq items n }∧((j = 0∧items = #[]) ∨ ∃ (i : Nat) (x : V) (ub : Value) (t : Addr),items = #[ub,.ref t]∧xs[i]? = some x∧RelV x ub∧i < j∧H t = some (.tup (cR (kf i)))∧BestN kf j i):=by
      rcases st with ⟨h0,n,h⟩ | ⟨i,x,ub,t,n,hS,h⟩
      · exact ⟨_,_,_,h,rfl,.inl ⟨h0,rfl⟩⟩
      · exact ⟨_,_,_,hS,rfl,.inr ⟨i,x,ub,t,rfl,h⟩⟩
    refine wpAny_bind (cP hS (by rw [dS]) ?_)
    refine wpAny_bind (wpAny_tryCatch (wpAny_pyNext_list_item hit p.isList (x:=u) (by simpa using hu') fun h1 hit1 sb=>?_))
    obtain ⟨f0,f1,f2,f3,f4,f5⟩:=id fI
    obtain ⟨g0,g1,g2,g3,g4,g5⟩:=id fS
    have I1 : Inv X pins σ H { s with heap:=h1 }:=I.turned (t':=s.toks) (fun b o hb e=>(sb.2 b hb).trans e) f0 f1 f3 f4 f5
    have hS1 : h1.get? S = some oS:=(sb.2 S nIS).trans hS
    obtain ⟨oI,hI1,cI,dI⟩:=id hit1
    have I2 : Inv X (pins ++ [(it,oI),(S,oS)]) σ H { s with heap:=h1 }:=I1.pins_of fun p hp=>by
      rcases List.mem_append.mp hp with z | z
      · exact I1.pin p (List.mem_append_right _ z)
      · rcases List.mem_cons.mp z with rfl | z
        · exact ⟨hI1,f0,f1,f2,fun v=>by rw [dI]; exact fun z=>by cases z⟩
        · rw [List.mem_singleton.mp z]
          exact ⟨hS1,g0,g1,g2,fun v=>by rw [dS]; exact fun z=>by cases z⟩
    show wpAny _ _ (tryCatch (holding [u] (call (.ref q) [u])) _ >>= _) _ _ _
    refine wpAny_bind (wpAny_tryCatch (wpAny_holding (wpAny_mono (KEY j _ u H _ _ I2 sm (List.getElem?_eq_getElem hjl) ru) (fun kv s2 hm=>?_) fun _ _ z=>z.elim)))
    obtain ⟨y,H2,I3,ry,s12,t2,rfl,ht2⟩:=hm
    obtain rfl : kv = Value.ref t2:=ry
    have pI:=I3.pin (it,oI) (by simp)
    have pS:=I3.pin (S,oS) (by simp)
    have I4 : Inv X pins σ H2 s2:=I3.pins_of fun p hp=>I3.pin p (by
      rcases List.mem_append.mp (List.mem_append_right X.pn hp) with z | z
      · exact List.mem_append_left _ z
      · exact List.mem_append_right _ (List.mem_append_left _ z))
    have sm2:=sm.trans s12
    have hit2 : s2.heap.IsListIter it l (j + 1):=⟨oI,pI.1,cI,dI⟩
    have fI2 : FpOk X pins H2 it:=fI.of pI.2.1
    have fS2 : FpOk X pins H2 S:=fS.of pS.2.1
    have put : ∀ (a b : Value) (s2 : Shared) (n : Nat) (items : Array Value),Inv X pins σ H2 s2→s2.heap.get? S = some { cls:=.type "list",data:=.seq items n }→items.size ≤ 2→s2.heap.IsListIter it l (j + 1)→∃ h3 n3,(∀ {E : Value→Shared→Prop} {Q : Unit→Shared→Prop},Q () { s2 with heap:=h3 }→wpAny (model X.prog X.w) X.A.in1 (updateSeq S fun _=>#[a,b]) Q E s2)∧Inv X pins σ H2 { s2 with heap:=h3 }∧h3.get? S = some { cls:=.type "list",data:=.seq #[a,b] n3 }∧h3.IsListIter it l (j + 1):=fun a b s2 n items I4 hS2 hz2 hit2=>by
      have sb2:=Heap.SameBut.update s2.heap S (Obj.mapSeq fun _=>#[a,b])
      refine ⟨s2.heap.update S (Obj.mapSeq fun _=>#[a,b]),_,fun {E Q} h=>wpAny_updateSeq hS2 rfl h (Nat.le_trans hz2 (by decide)) (by show 2 ≤ sizeLine + 1; decide),I4.turned (t':=s2.toks) (fun b o hb e=>(sb2.2 b hb).trans e) fS2.1 fS2.2.1 fS2.2.2.2.1 fS2.2.2.2.2.1 fS2.2.2.2.2.2,Heap.get?_update_self _ hS2 rfl,?_⟩
      obtain ⟨o,e1,e2,e3⟩:=hit2
      exact ⟨o,(sb2.2 it (Ne.symm nIS)).trans e1,e2,e3⟩
    have hS2 : s2.heap.get? S = some { cls:=.type "list",data:=.seq items n }:=by rw [← dS]; exact pS.1
    rcases hcase with ⟨h0,rfl⟩ | ⟨i,x,ub,t,rfl,hx,hub,hij,ht,bst⟩
    · show wpAny _ _ (updateSeq S (fun _=>#[u,Value.ref t2]) >>= _) _ _ _
      obtain ⟨h3,n3,w3,I5,hS3,hit3⟩:=put u (.ref t2) s2 n #[] I4 hS2 (by decide) hit2
      refine wpAny_bind (w3 ?_)
      refine wpAny_pure ⟨rfl,ih (j + 1) H2 _ hr1 hjl I5 sm2 hit3 fI2 fS2 (.inr ⟨j,_,u,t2,n3,hS3,List.getElem?_eq_getElem hjl,ru,Nat.lt_succ_self j,ht2,fun j' hj'=>?_⟩)⟩
      have : j' = j:=by omega
      subst this
      unfold lt2
      exact ⟨by omega,fun z=>by omega⟩
    · have htb:=s12 _ _ ht
      obtain ⟨i1,r1,p1,_⟩:=I4.tuple (SqT.of ht2)
      obtain ⟨i2,r2,p2,_⟩:=I4.tuple (SqT.of htb)
      have a1 : IntsAre i1.toArray.toList [(kf j).1,(kf j).2]:=bN r1
      have a2 : IntsAre i2.toArray.toList [(kf i).1,(kf i).2]:=bN r2
      show wpAny _ _ (tryCatch (holding [u,Value.ref t2] (richCompare .Lt (.ref t2) (.ref t) >>= _)) _ >>= _) _ _ _
      refine wpAny_bind (wpAny_tryCatch (wpAny_holding (wpAny_bind ?_)))
      refine (HT.lt_tupInts p1 p2 a1 a2 (by show X.A.units + 1 < cLine; omega) ?_ : wpAny (model X.prog X.w) X.A.in1 (compareOp .Lt (.ref t2) (.ref t)) _ _ s2)
      refine wpAny_bind (wpAny_holding (wpAny_truthy_bool (wpAny_bind (wpAny_letGo (wpAny_pure ?_)))))
      by_cases c : lt2 (kf j) (kf i)
      · rw [(nE _ _).mpr c]
        show wpAny _ _ (updateSeq S (fun _=>#[u,Value.ref t2]) >>= _) _ _ _
        obtain ⟨h3,n3,w3,I5,hS3,hit3⟩:=put u (.ref t2) s2 n #[ub,.ref t] I4 hS2 (by show 2 ≤ 2; decide) hit2
        refine wpAny_bind (w3 (wpAny_bind (wpAny_letGo ?_)))
        exact wpAny_pure ⟨rfl,ih (j + 1) H2 _ hr1 hjl I5 sm2 hit3 fI2 fS2 (.inr ⟨j,_,u,t2,n3,hS3,List.getElem?_eq_getElem hjl,ru,Nat.lt_succ_self j,ht2,bst.next c⟩)⟩
      · have e : HT.lexLt [(kf j).1,(kf j).2] [(kf i).1,(kf i).2] = false:=by
          cases z : HT.lexLt [(kf j).1,(kf j).2] [(kf i).1,(kf i).2] with
          | false=>rfl
          | true=>exact absurd ((nE _ _).mp z) c
        rw [e]
        show wpAny _ _ (letGo [u,Value.ref t2] >>= _) _ _ _
        refine wpAny_bind (wpAny_letGo ?_)
        exact wpAny_pure ⟨rfl,ih (j + 1) H2 _ hr1 hjl I4 sm2 hit2 fI2 fS2 (.inr ⟨i,x,ub,t,n,hS2,hx,hub,Nat.lt_succ_of_lt hij,htb,bst.keep hij c⟩)⟩
theorem nK (kf : Nat→Int × Int) {xs : List V} {l it S q : Addr} {H0 : Hp} {R : Result→Shared→Prop} (hcalm : X.A.handled = none) (hu : X.A.units + 2 < cLine) (hl : SqL X.K H0 l xs) (ne : xs ≠ []) (nIS : S ≠ it)
    (KEY : ∀ (i : Nat) (x : V) (u : Value) (H : Hp) (s : Shared) (pins' : List (Addr × Obj)),Inv X pins' σ H s→Same H0 H→xs[i]? = some x→RelV x u→wpAny (model X.prog X.w) X.A.in1 (call (.ref q) [u]) (EP X pins' σ fun y H'=>Same H H'∧∃ t,y = .ref t∧H' t = some (.tup (cR (kf i)))) (fun _ _=>False) s)
    (FIN : ∀ (i : Nat) (x : V) (u : Value) (H : Hp) (s : Shared),Inv X pins σ H s→Same H0 H→xs[i]? = some x→RelV x u→BestN (ngK kf) xs.length i→R (.ok (.ret u)) s) :
    ∀ (r j : Nat) (H : Hp) (s : Shared),xs.length - j = r→j ≤ xs.length→Inv X pins σ H s→Same H0 H→s.heap.IsListIter it l j→FpOk X pins H it→FpOk X pins H S →
      ((j = 0∧∃ n,s.heap.get? S = some { cls:=.type "list",data:=.seq #[] n }) ∨ ∃ (i : Nat) (x : V) (ub : Value) (t : Addr) (n : Nat),s.heap.get? S = some { cls:=.type "list",data:=.seq #[ub,.ref t] n }∧xs[i]? = some x∧RelV x ub∧i < j∧H t = some (.tup (cR (kf i)))∧BestN (ngK kf) j i) →
      codeAny (model X.prog X.w) X.A (.builtin "max.loop" ⟨[.ref it,.ref q,.ref S],[]⟩) R s:=by
  intro r
  induction r with
  | zero =>
    intro j H s hr hj I sm hit fI fS st
    have hje : j = xs.length:=by omega
    have hpos : 0 < xs.length:=List.length_pos_iff.mpr ne
    rcases st with ⟨h0,_⟩ | ⟨i,x,ub,t,n,hS,hx,hub,hij,ht,bst⟩
    · omega
    refine codeAny_builtin PySem.F.entry_max_loop ?_
    rw [iH]
    unfold Builtin.«max.loop»
    show wpAny _ _ (seqItems? (.ref S) >>= _) _ _ s
    refine wpAny_bind (cP hS rfl ?_)
    obtain ⟨its,rv,p,hz⟩:=I.list (sm.seq hl)
    have hl2:=rv.length
    refine wpAny_bind (wpAny_tryCatch (wpAny_pyNext_list_end hcalm hit p.isList (by simp; omega) fun h' eb=>?_))
    obtain ⟨f0,f1,f2,f3,f4,f5⟩:=fI
    have I1 : Inv X pins σ H { s with heap:=h' }:=I.turned (t':=s.toks) (fun b o hb e=>eb b o hb e) f0 f1 f3 f4 f5
    have hS1 : h'.get? S = some { cls:=.type "list",data:=.seq #[ub,.ref t] n }:=eb S _ nIS hS
    obtain ⟨g0,g1,g2,g3,g4,g5⟩:=fS
    show wpAny _ _ (updateSeq S (fun _=>#[]) >>= _) _ _ _
    refine wpAny_bind (wpAny_updateSeq (s:={ s with heap:=h' }) hS1 rfl ?_ (by show 2 ≤ sizeLine; decide) (by show 0 ≤ sizeLine + 1; decide))
    refine wpAny_bind (wpAny_letGo (wpAny_pure ?_))
    have I2:=I1.turned (t':=s.toks) (h':=h'.update S (Obj.mapSeq fun _=>#[])) (fun b o hb e=>((Heap.SameBut.update h' S (Obj.mapSeq fun _=>#[])).2 b hb).trans e) g0 g1 g3 g4 g5
    exact FIN i x ub H _ I2 sm hx hub (hje ▸ bst)
  | succ r ih =>
    intro j H s hr hj I sm hit fI fS st
    have hjl : j < xs.length:=by omega
    have hr1 : xs.length - (j + 1) = r:=by clear st; omega
    obtain ⟨its,rv,p,hz⟩:=I.list (sm.seq hl)
    have hl2:=rv.length
    obtain ⟨u,hu',ru⟩:=rv.get (List.getElem?_eq_getElem hjl)
    refine codeAny_builtin PySem.F.entry_max_loop ?_
    rw [iH]
    unfold Builtin.«max.loop»
    show wpAny _ _ (seqItems? (.ref S) >>= _) _ _ s
    obtain ⟨oS,items,n,hS,dS,hcase⟩ : ∃ (oS : Obj) (items : Array Value) (n : Nat),s.heap.get? S = some oS∧oS = { cls:=.type "list",data:=.seq items n }∧((j = 0∧items = #[]) ∨ ∃ (i : Nat) (x : V) (ub : Value) (t : Addr),items = #[ub,.ref t]∧xs[i]? = some x∧RelV x ub∧i < j∧H t = some (.tup (cR (kf i)))∧BestN (ngK kf) j i):=by
      rcases st with ⟨h0,n,h⟩ | ⟨i,x,ub,t,n,hS,h⟩
      · exact ⟨_,_,_,h,rfl,.inl ⟨h0,rfl⟩⟩
      · exact ⟨_,_,_,hS,rfl,.inr ⟨i,x,ub,t,rfl,h⟩⟩
    refine wpAny_bind (cP hS (by rw [dS]) ?_)
    refine wpAny_bind (wpAny_tryCatch (wpAny_pyNext_list_item hit p.isList (x:=u) (by simpa using hu') fun h1 hit1 sb=>?_))
    obtain ⟨f0,f1,f2,f3,f4,f5⟩:=id fI
    obtain ⟨g0,g1,g2,g3,g4,g5⟩:=id fS
    have I1 : Inv X pins σ H { s with heap:=h1 }:=I.turned (t':=s.toks) (fun b o hb e=>(sb.2 b hb).trans e) f0 f1 f3 f4 f5
    have hS1 : h1.get? S = some oS:=(sb.2 S nIS).trans hS
    obtain ⟨oI,hI1,cI,dI⟩:=id hit1
    have I2 : Inv X (pins ++ [(it,oI),(S,oS)]) σ H { s with heap:=h1 }:=I1.pins_of fun p hp=>by
      rcases List.mem_append.mp hp with z | z
      · exact I1.pin p (List.mem_append_right _ z)
      · rcases List.mem_cons.mp z with rfl | z
        · exact ⟨hI1,f0,f1,f2,fun v=>by rw [dI]; exact fun z=>by cases z⟩
        · rw [List.mem_singleton.mp z]
          exact ⟨hS1,g0,g1,g2,fun v=>by rw [dS]; exact fun z=>by cases z⟩
    show wpAny _ _ (tryCatch (holding [u] (call (.ref q) [u])) _ >>= _) _ _ _
    refine wpAny_bind (wpAny_tryCatch (wpAny_holding (wpAny_mono (KEY j _ u H _ _ I2 sm (List.getElem?_eq_getElem hjl) ru) (fun kv s2 hm=>?_) fun _ _ z=>z.elim)))
    obtain ⟨y,H2,I3,ry,s12,t2,rfl,ht2⟩:=hm
    obtain rfl : kv = Value.ref t2:=ry
    have pI:=I3.pin (it,oI) (by simp)
    have pS:=I3.pin (S,oS) (by simp)
    have I4 : Inv X pins σ H2 s2:=I3.pins_of fun p hp=>I3.pin p (by
      rcases List.mem_append.mp (List.mem_append_right X.pn hp) with z | z
      · exact List.mem_append_left _ z
      · exact List.mem_append_right _ (List.mem_append_left _ z))
    have sm2:=sm.trans s12
    have hit2 : s2.heap.IsListIter it l (j + 1):=⟨oI,pI.1,cI,dI⟩
    have fI2 : FpOk X pins H2 it:=fI.of pI.2.1
    have fS2 : FpOk X pins H2 S:=fS.of pS.2.1
    have put : ∀ (a b : Value) (s2 : Shared) (n : Nat) (items : Array Value),Inv X pins σ H2 s2→s2.heap.get? S = some { cls:=.type "list",data:=.seq items n }→items.size ≤ 2→s2.heap.IsListIter it l (j + 1)→∃ h3 n3,(∀ {E : Value→Shared→Prop} {Q : Unit→Shared→Prop},Q () { s2 with heap:=h3 }→wpAny (model X.prog X.w) X.A.in1 (updateSeq S fun _=>#[a,b]) Q E s2)∧Inv X pins σ H2 { s2 with heap:=h3 }∧h3.get? S = some { cls:=.type "list",data:=.seq #[a,b] n3 }∧h3.IsListIter it l (j + 1):=fun a b s2 n items I4 hS2 hz2 hit2=>by
      have sb2:=Heap.SameBut.update s2.heap S (Obj.mapSeq fun _=>#[a,b])
      refine ⟨s2.heap.update S (Obj.mapSeq fun _=>#[a,b]),_,fun {E Q} h=>wpAny_updateSeq hS2 rfl h (Nat.le_trans hz2 (by decide)) (by show 2 ≤ sizeLine + 1; decide),I4.turned (t':=s2.toks) (fun b o hb e=>(sb2.2 b hb).trans e) fS2.1 fS2.2.1 fS2.2.2.2.1 fS2.2.2.2.2.1 fS2.2.2.2.2.2,Heap.get?_update_self _ hS2 rfl,?_⟩
      obtain ⟨o,e1,e2,e3⟩:=hit2
      exact ⟨o,(sb2.2 it (Ne.symm nIS)).trans e1,e2,e3⟩
    have hS2 : s2.heap.get? S = some { cls:=.type "list",data:=.seq items n }:=by rw [← dS]; exact pS.1
    rcases hcase with ⟨h0,rfl⟩ | ⟨i,x,ub,t,rfl,hx,hub,hij,ht,bst⟩
    · show wpAny _ _ (updateSeq S (fun _=>#[u,Value.ref t2]) >>= _) _ _ _
      obtain ⟨h3,n3,w3,I5,hS3,hit3⟩:=put u (.ref t2) s2 n #[] I4 hS2 (by decide) hit2
      refine wpAny_bind (w3 ?_)
      refine wpAny_pure ⟨rfl,ih (j + 1) H2 _ hr1 hjl I5 sm2 hit3 fI2 fS2 (.inr ⟨j,_,u,t2,n3,hS3,List.getElem?_eq_getElem hjl,ru,Nat.lt_succ_self j,ht2,fun j' hj'=>?_⟩)⟩
      have : j' = j:=by omega
      subst this
      unfold lt2
      exact ⟨by omega,fun z=>by omega⟩
    · have htb:=s12 _ _ ht
      obtain ⟨i1,r1,p1,_⟩:=I4.tuple (SqT.of ht2)
      obtain ⟨i2,r2,p2,_⟩:=I4.tuple (SqT.of htb)
      have a1 : IntsAre i1.toArray.toList [(kf j).1,(kf j).2]:=bN r1
      have a2 : IntsAre i2.toArray.toList [(kf i).1,(kf i).2]:=bN r2
      show wpAny _ _ (tryCatch (holding [u,Value.ref t2] (richCompare .Gt (.ref t2) (.ref t) >>= _)) _ >>= _) _ _ _
      refine wpAny_bind (wpAny_tryCatch (wpAny_holding (wpAny_bind ?_)))
      refine (HT.gt_tupInts p1 p2 a1 a2 (by show X.A.units + 1 < cLine; omega) ?_ : wpAny (model X.prog X.w) X.A.in1 (compareOp .Gt (.ref t2) (.ref t)) _ _ s2)
      refine wpAny_bind (wpAny_holding (wpAny_truthy_bool (wpAny_bind (wpAny_letGo (wpAny_pure ?_)))))
      by_cases c : lt2 (ngK kf j) (ngK kf i)
      · rw [(nE _ _).mpr (ng_lt.mp c)]
        show wpAny _ _ (updateSeq S (fun _=>#[u,Value.ref t2]) >>= _) _ _ _
        obtain ⟨h3,n3,w3,I5,hS3,hit3⟩:=put u (.ref t2) s2 n #[ub,.ref t] I4 hS2 (by show 2 ≤ 2; decide) hit2
        refine wpAny_bind (w3 (wpAny_bind (wpAny_letGo ?_)))
        exact wpAny_pure ⟨rfl,ih (j + 1) H2 _ hr1 hjl I5 sm2 hit3 fI2 fS2 (.inr ⟨j,_,u,t2,n3,hS3,List.getElem?_eq_getElem hjl,ru,Nat.lt_succ_self j,ht2,bst.next c⟩)⟩
      · have e : HT.lexLt [(kf i).1,(kf i).2] [(kf j).1,(kf j).2] = false:=by
          cases z : HT.lexLt [(kf i).1,(kf i).2] [(kf j).1,(kf j).2] with
          | false=>rfl
          | true=>exact absurd (ng_lt.mpr ((nE _ _).mp z)) c
        rw [e]
        show wpAny _ _ (letGo [u,Value.ref t2] >>= _) _ _ _
        refine wpAny_bind (wpAny_letGo ?_)
        exact wpAny_pure ⟨rfl,ih (j + 1) H2 _ hr1 hjl I4 sm2 hit2 fI2 fS2 (.inr ⟨i,x,ub,t,n,hS2,hx,hub,Nat.lt_succ_of_lt hij,htb,bst.keep hij c⟩)⟩
end
theorem jT (nm : String) (v : Value) : Builtin.Builtins.bindParams nm ["key","default"] 0 { kw:=[("key",v)] } = pure [some v,none]:=by
  rfl
section
variable {X : Cx} {pins : List (Addr × Obj)} {σ : St}
theorem nH (kf : Nat→Int × Int) {xs : List V} {l q : Addr} {H : Hp} {s : Shared} {Q : VK} {E : Value→Shared→Prop} (hcalm : X.A.handled = none) (hu : X.A.units + 2 < cLine) (I : Inv X pins σ H s) (hl : SqL X.K H l xs) (ne : xs ≠ [])
    (KEY : ∀ (i : Nat) (x : V) (u : Value) (H1 : Hp) (s : Shared) (pins' : List (Addr × Obj)),Inv X pins' σ H1 s→Same H H1→xs[i]? = some x→RelV x u→wpAny (model X.prog X.w) X.A.in1 (call (.ref q) [u]) (EP X pins' σ fun y H'=>Same H1 H'∧∃ t,y = .ref t∧H' t = some (.tup (cR (kf i)))) (fun _ _=>False) s)
    (FIN : ∀ (i : Nat) (x : V) (H' : Hp),Same H H'→xs[i]? = some x→BestN kf xs.length i→Q x H') :
    wpAny (model X.prog X.w) X.A (call (.builtin "min") [.ref l] [("key",.ref q)]) (EP X pins σ Q) E s:=by
  refine PyProof.Rows.kmk_tree (by rfl) (by rfl) PySem.F.entry_min (PyProof.Rows.kmk_min_key _ _) ?_
  unfold Builtin.min
  show wpAny _ _ (Builtin.Builtins.bindParams "min" ["key","default"] 0 { kw:=[("key",Value.ref q)] } >>= _) _ _ s
  rw [jT]
  refine wpAny_bind (wpAny_pure ?_)
  obtain ⟨its,rv,p,hz⟩:=I.list hl
  refine wpAny_bind (wpAny_pure ?_)
  refine wpAny_bind (wpAny_pyIter_list p.isList ?_)
  refine wpAny_bind (wpAny_newList ?_)
  have I1 : Inv X pins σ H { s with heap:=s.heap.push { cls:=.type "list_iterator",data:=.fields #[.ref l,.int 0 0] } }:=I.kept (t':=s.toks) (fun b o e=>Heap.get?_push_of_some _ e)
  have hit : (s.heap.push { cls:=.type "list_iterator",data:=.fields #[.ref l,.int 0 0] }).IsListIter s.heap.objs.size l 0:=⟨_,Heap.get?_push_size _ rfl,rfl,rfl⟩
  have fI:=I.fpOk (H':=H) (Nat.le_refl s.heap.objs.size) (I.hok.fresh (Nat.le_refl _))
  have sz1 : (s.heap.push { cls:=.type "list_iterator",data:=.fields #[.ref l,.int 0 0] }).objs.size = s.heap.objs.size + 1:=by simp [Heap.push]
  generalize s.heap.push { cls:=.type "list_iterator",data:=.fields #[.ref l,.int 0 0] } = h1 at I1 hit sz1
  have I2 : Inv X pins σ H { s with heap:=h1.push { cls:=.type "list",data:=.seq #[] 0 } }:=I1.kept (t':=s.toks) (fun b o e=>Heap.get?_push_of_some _ e)
  have fS:=I1.fpOk (H':=H) (Nat.le_refl h1.objs.size) (I1.hok.fresh (Nat.le_refl _))
  have hit2 : (h1.push { cls:=.type "list",data:=.seq #[] 0 }).IsListIter s.heap.objs.size l 0:=by
    obtain ⟨o,e1,e2,e3⟩:=hit
    exact ⟨o,Heap.get?_push_of_some _ e1,e2,e3⟩
  refine wpAny_pure ⟨rfl,?_⟩
  refine oC (S:=h1.objs.size) (it:=s.heap.objs.size) (q:=q) (R:=fun r s'=>match r with
    | Except.ok (Flow.ret v)=>EP X pins σ Q v s'
    | Except.ok _=>False
    | Except.error e=>E e s') kf hcalm hu hl ne (by rw [sz1]; exact Nat.succ_ne_self _) KEY (fun i x u H' s' I' sm hx ru b=>⟨x,H',I',ru,FIN i x H' sm hx b⟩) _ 0 H _ rfl (Nat.zero_le _) I2 (Same.refl _) hit2 fI fS (.inl ⟨rfl,0,Heap.get?_push_size _ rfl⟩)
theorem og (kf : Nat→Int × Int) {xs : List V} {l q : Addr} {H : Hp} {s : Shared} {Q : VK} {E : Value→Shared→Prop} (hcalm : X.A.handled = none) (hu : X.A.units + 2 < cLine) (I : Inv X pins σ H s) (hl : SqL X.K H l xs) (ne : xs ≠ [])
    (KEY : ∀ (i : Nat) (x : V) (u : Value) (H1 : Hp) (s : Shared) (pins' : List (Addr × Obj)),Inv X pins' σ H1 s→Same H H1→xs[i]? = some x→RelV x u→wpAny (model X.prog X.w) X.A.in1 (call (.ref q) [u]) (EP X pins' σ fun y H'=>Same H1 H'∧∃ t,y = .ref t∧H' t = some (.tup (cR (kf i)))) (fun _ _=>False) s)
    (FIN : ∀ (i : Nat) (x : V) (H' : Hp),Same H H'→xs[i]? = some x→BestN (ngK kf) xs.length i→Q x H') :
    wpAny (model X.prog X.w) X.A (call (.builtin "max") [.ref l] [("key",.ref q)]) (EP X pins σ Q) E s:=by
  refine PyProof.Rows.kmk_tree (by rfl) (by rfl) PySem.F.entry_max (PyProof.Rows.kmk_max_key _ _) ?_
  unfold Builtin.max
  show wpAny _ _ (Builtin.Builtins.bindParams "max" ["key","default"] 0 { kw:=[("key",Value.ref q)] } >>= _) _ _ s
  rw [jT]
  refine wpAny_bind (wpAny_pure ?_)
  obtain ⟨its,rv,p,hz⟩:=I.list hl
  refine wpAny_bind (wpAny_pure ?_)
  refine wpAny_bind (wpAny_pyIter_list p.isList ?_)
  refine wpAny_bind (wpAny_newList ?_)
  have I1 : Inv X pins σ H { s with heap:=s.heap.push { cls:=.type "list_iterator",data:=.fields #[.ref l,.int 0 0] } }:=I.kept (t':=s.toks) (fun b o e=>Heap.get?_push_of_some _ e)
  have hit : (s.heap.push { cls:=.type "list_iterator",data:=.fields #[.ref l,.int 0 0] }).IsListIter s.heap.objs.size l 0:=⟨_,Heap.get?_push_size _ rfl,rfl,rfl⟩
  have fI:=I.fpOk (H':=H) (Nat.le_refl s.heap.objs.size) (I.hok.fresh (Nat.le_refl _))
  have sz1 : (s.heap.push { cls:=.type "list_iterator",data:=.fields #[.ref l,.int 0 0] }).objs.size = s.heap.objs.size + 1:=by simp [Heap.push]
  generalize s.heap.push { cls:=.type "list_iterator",data:=.fields #[.ref l,.int 0 0] } = h1 at I1 hit sz1
  have I2 : Inv X pins σ H { s with heap:=h1.push { cls:=.type "list",data:=.seq #[] 0 } }:=I1.kept (t':=s.toks) (fun b o e=>Heap.get?_push_of_some _ e)
  have fS:=I1.fpOk (H':=H) (Nat.le_refl h1.objs.size) (I1.hok.fresh (Nat.le_refl _))
  have hit2 : (h1.push { cls:=.type "list",data:=.seq #[] 0 }).IsListIter s.heap.objs.size l 0:=by
    obtain ⟨o,e1,e2,e3⟩:=hit
    exact ⟨o,Heap.get?_push_of_some _ e1,e2,e3⟩
  refine wpAny_pure ⟨rfl,?_⟩
  refine nK (S:=h1.objs.size) (it:=s.heap.objs.size) (q:=q) (R:=fun r s'=>match r with
    | Except.ok (Flow.ret v)=>EP X pins σ Q v s'
    | Except.ok _=>False
    | Except.error e=>E e s') kf hcalm hu hl ne (by rw [sz1]; exact Nat.succ_ne_self _) KEY (fun i x u H' s' I' sm hx ru b=>⟨x,H',I',ru,FIN i x H' sm hx b⟩) _ 0 H _ rfl (Nat.zero_le _) I2 (Same.refl _) hit2 fI fS (.inl ⟨rfl,0,Heap.get?_push_size _ rfl⟩)
end
def sf (P : Addr) (pos : Pos) (qual : Str) (params : Arguments) (body : Expr) (scope : Scope) (cells : List (Str × Addr)) : TE:=fun σ H Q=>TabOk H P pos qual∧∀ (cl : List (Str × Addr)) (q : Addr) (H' : Hp),(∀ x c,cl.lookup x = some c→cells.lookup x = some c)→(∀ x,(x,NameKind.free) ∈ scope.names→∃ c,cl.lookup x = some c)→SameT P H H'→TabOk H' P pos qual→fW H' q qual params body scope cl→Q (.ref q) H'
theorem oh {X : Cx} {P : Addr} {params : Arguments} {body : Expr} {scope : Scope} {pos : Pos} (D : LamDef X P) (hd : defaultsOf params X.env = ([],[]):=by rfl) (hf : ∀ y ∈ scope.names,y.2 = .free→∃ c,X.env.cells.lookup y.1 = some c) :
    PE X (.Lambda params body scope pos) (sf P pos (X.env.qual ++ "<lambda>") params body scope X.env.cells):=by
  intro pins s σ H Q I h
  exact mR D I h.1 hd hf fun cl q H' s' c1 c2 I' sT t' la=>⟨.ref q,H',I',rfl,h.2 cl q H' c1 c2 sT t' la⟩
section
variable {X : Cx} {pins : List (Addr × Obj)} {σ : St}
theorem k6 {k : Nat} {q : Addr} {qual x y : Str} {params : Arguments} {body : Expr} {scope : Scope} {cl : List (Str × Addr)} {H : Hp} {s : Shared} {j : Nat} {pv v : V} {u : Value} {te : TE} {Q : VK} (hr : Room (k + 2) X.A) (I : Inv X pins σ H s) (la : fW H q qual params body scope cl) (c1 : ∀ x c,cl.lookup x = some c→X.env.cells.lookup x = some c)
    (kind : scope.kind = .function) (co : scope.isCoroutine = false) (gen : scope.isGenerator = false) (names : scope.names.lookup x = some .local∧scope.names.lookup y = some .free∧(y,NameKind.free) ∈ scope.names∧∀ z ∈ scope.names,z.2 ≠ .cell∧(z.2 = .free→z.1 = y)) (hxy : x ≠ y) (hcl : ∃ c,cl.lookup y = some c)
    (hj : X.N[j]? = some y) (hs : σ[j]? = some (some pv)) (hcell : X.env.scope.names.lookup y = some .cell)
    (hbind : ∀ pm cdv ctv,bindArgs (PySem.W.kla_fn "<lambda>" qual params body scope cl pm cdv ctv) ⟨[u],[]⟩ = pure [(x,u)]) (r : RelV v u)
    (hb : ∀ cdv,PE (jq X.prog X.w X.K X.mg X.base [x,y] qual scope cl q cdv X.A.in1 X.stack s H) body te) (hq : te [some v,some pv] H Q) :
    wpAny (model X.prog X.w) X.A.in1 (call (.ref q) [u]) (EP X pins σ Q) (fun _ _=>False) s:=by
  obtain ⟨pm,ctv,c,o,vs,t,hq0,hc0,hd,hv⟩:=la
  have oq:=(I.hok q _ hq0).1
  have oc:=(I.hok c _ hc0).1
  have lk : scope.names.lookup x = some .local∧scope.names.lookup y = some .free∧(∀ z,scope.names.lookup z = some .free→z = y)∧∀ z ∈ scope.names,z.2 ≠ .cell:=by
    exact ⟨names.1,names.2.1,fun z hz=>(names.2.2.2 _ (PySem.mem_of_lookup hz)).2 rfl,fun z hz=>(names.2.2.2 z hz).1⟩
  obtain ⟨cc,hcc⟩:=hcl
  have hXc:=c1 y cc hcc
  obtain ⟨m,hn,hloc⟩:=id I.loc
  obtain ⟨uu,ruu,look⟩:=hloc j y pv hj hs (.inr (.inl hcell))
  have hIs : s.heap.IsCell cc (some uu):=by
    rcases look with ⟨kk,_⟩ | ⟨_,c',e1,e2⟩
    · have kk : X.env.scope.names.lookup y = some .local:=kk
      rw [hcell] at kk; cases kk
    · rw [hXc] at e1; cases e1; exact e2
  have C : LamCl scope cl x [x,y] [pv] s H:=⟨kind,co,gen,lk.2.2.2,lk.1,fun a b c h1 h2=>I.ok.inj a b c (c1 a c h1) (c1 b c h2),fun z hz=>by rw [lk.2.2.1 z hz]; exact ⟨cc,hcc⟩,fun z c hz=>⟨I.freeC z c (c1 z c hz),I.cell z c (c1 z c hz)⟩,[y],rfl,rfl,by simpa using hxy,fun i z v' h1 h2=>by
    cases i with
    | zero=>cases h1; cases h2; exact ⟨lk.2.1,cc,uu,hcc,hIs,ruu⟩
    | succ i=>cases h1⟩
  refine wpAny_call ?_
  have run:=qw (P:=X.prog) (w:=X.w) (K:=X.K) (mg:=X.mg) (base:=X.base) (E:=E0) (Q:=Q) oq ⟨c,o,vs,t,rfl,oc,hd,hv⟩ (hbind _ _ _) C hr.in1 I.env0.in1 r (hb _) hq
  refine codeAny_mono run fun rr s' h=>?_
  cases rr with
  | ok f =>
    cases f with
    | ret v=>exact I.after h
    | _=>exact h
  | error e=>exact h.elim
end
def qX (mx : Bool) (P : Addr) (pos : Pos) (qual : Str) (j : Nat) (ta : TA) (tb : TE) : TE:=fun σ H Q=>ta σ H fun vs H1=>TabOk H1 P pos qual∧∃ (l : Addr) (xs : List V) (pv : V) (kf : Nat→Int × Int),vs = [.ref l]∧H1 l = some (.lst xs)∧xs ≠ []∧σ[j]? = some (some pv) ∧
  (∀ i x H2,xs[i]? = some x→SameT P H1 H2→tb [some x,some pv] H2 fun y H3=>Same H2 H3∧∃ t,y = .ref t∧H3 t = some (.tup (cR (kf i)))) ∧
  ∀ i x H2,xs[i]? = some x→BestN (if mx then ngK kf else kf) xs.length i→SameT P H1 H2→TabOk H2 P pos qual→Q x H2
theorem qm {X : Cx} {k j : Nat} {P : Addr} {x y : Str} {params : Arguments} {body e : Expr} {scope : Scope} {lpos p pos kpos : Pos} {ta : TA} {tb : TE} (D : LamDef X P) (hr : Room (k + 2) X.A) (hcalm : X.calm = true) (hg : Gl X "min") (hm : X.mg "min" = none) (ha : PA X [e] ta)
    (kind : scope.kind = .function) (co : scope.isCoroutine = false) (gen : scope.isGenerator = false) (names : scope.names.lookup x = some .local∧scope.names.lookup y = some .free∧(y,NameKind.free) ∈ scope.names∧∀ z ∈ scope.names,z.2 ≠ .cell∧(z.2 = .free→z.1 = y)) (hxy : x ≠ y) (hj : X.N[j]? = some y) (hcell : X.env.scope.names.lookup y = some .cell)
    (hbind : ∀ cl u pm cdv ctv,bindArgs (PySem.W.kla_fn "<lambda>" (X.env.qual ++ "<lambda>") params body scope cl pm cdv ctv) ⟨[u],[]⟩ = pure [(x,u)])
    (hb : ∀ cl q cdv s H,PE (jq X.prog X.w X.K X.mg X.base [x,y] (X.env.qual ++ "<lambda>") scope cl q cdv X.A.in1 X.stack s H) body tb)
    (hd : defaultsOf params X.env = ([],[]):=by rfl)
    (h1 : backTo pos (starEach [e] X.env) = (false,eval e X.env) :: backTo pos (starEach [] X.env):=by rfl) (h2 : ((backTo pos (starEach [e] X.env)).any fun x=>x.fst) = false:=by rfl)
    (h3 : ((backToKw pos (keywordEach [⟨some ("key" : Str),.Lambda params body scope lpos,kpos⟩] X.env)).all fun x=>x.fst.isSome) = true:=by rfl) (h4 : ((backToKw pos (keywordEach [⟨some ("key" : Str),.Lambda params body scope lpos,kpos⟩] X.env)).any fun x=>x.fst.isNone) = false:=by rfl)
    (h5 : List.filterMap (fun x=>x.fst) (backToKw pos (keywordEach [⟨some ("key" : Str),.Lambda params body scope lpos,kpos⟩] X.env)) = [("key" : Str)]:=by rfl) :
    PE X (.Call (.Name "min" p) [e] [⟨some ("key" : Str),.Lambda params body scope lpos,kpos⟩] pos) (qX false P lpos (X.env.qual ++ "<lambda>") j ta tb):=by
  intro pins s σ H Q I h
  refine wpAny_Call_Name_kw (cx I hg hm boot_min ?_ (by decide) (by decide))
  refine PyProof.Rows.callWith_kw (thn (ha pos pins s σ H _ I h) fun us s1 hm0=>?_) h1 h2 h3 h4
  obtain ⟨vs,H1,I1,r1,tab,l,xs,pv,kf,rfl,hl,ne,hs,hk,q⟩:=hm0
  have hcl0 : ∃ c,X.env.cells.lookup y = some c:=I1.ok.has y (.inl hcell)
  have hf : ∀ z ∈ scope.names,z.2 = .free→∃ c,X.env.cells.lookup z.1 = some c:=fun z hz hf=>by
    rw [(names.2.2.2 z hz).2 hf]; exact hcl0
  have hPK : PK X [⟨some ("key" : Str),.Lambda params body scope lpos,kpos⟩] (lS (sf P lpos (X.env.qual ++ "<lambda>") params body scope X.env.cells) mI):=lI (oh D hd hf) oB
  have hyf : (y,NameKind.free) ∈ scope.names:=names.2.2.1
  obtain ⟨ps,hP,_⟩:=id tab
  have nlP : l ≠ P:=fun z=>by rw [z,hP] at hl; cases hl
  refine thn (hPK pos pins s1 σ H1 (fun zs H2=>∃ (cl : List (Str × Addr)) (qa : Addr),zs = [.ref qa]∧(∀ x c,cl.lookup x = some c→X.env.cells.lookup x = some c)∧(∃ c,cl.lookup y = some c)∧SameT P H1 H2∧TabOk H2 P lpos (X.env.qual ++ "<lambda>")∧fW H2 qa (X.env.qual ++ "<lambda>") params body scope cl) I1 ⟨tab,fun cl qa H2 c1 c2 sT t2 la=>⟨cl,qa,rfl,c1,c2 y hyf,sT,t2,la⟩⟩) fun ws s2 hm0=>?_
  obtain ⟨zs,H2,I2,r2,cl,qa,rfl,c1,hcl,sT,t2,la⟩:=hm0
  rw [h5]
  obtain ⟨u,rfl,ru⟩:=dC r1
  cases ru
  obtain ⟨u2,rfl,ru2⟩:=dC r2
  cases ru2
  refine nH kf (I2.ok.hd hcalm) (iW hr 2) I2 (SqL.of (sT _ _ nlP hl)) ne (fun i x' u H3 s3 pins' I3 sm hx ru=>?_) (fun i x' H' sm hx b=>q i x' H' hx b (sT.trans (SameT.of sm)) (t2.up sm))
  have la3 : fW H3 qa (X.env.qual ++ "<lambda>") params body scope cl:=by
    obtain ⟨pm,ctv,c,o,vs,t,a1,a2,a3⟩:=la
    exact ⟨pm,ctv,c,o,vs,t,sm _ _ a1,sm _ _ a2,a3⟩
  exact k6 hr I3 la3 c1 kind co gen names hxy hcl hj hs hcell (fun pm cdv ctv=>hbind cl u pm cdv ctv) ru (fun cdv=>hb cl qa cdv s3 H3) (hk i x' H3 hx (sT.trans (SameT.of sm)))
theorem pZ {X : Cx} {k j : Nat} {P : Addr} {x y : Str} {params : Arguments} {body e : Expr} {scope : Scope} {lpos p pos kpos : Pos} {ta : TA} {tb : TE} (D : LamDef X P) (hr : Room (k + 2) X.A) (hcalm : X.calm = true) (hg : Gl X "max") (hm : X.mg "max" = none) (ha : PA X [e] ta)
    (kind : scope.kind = .function) (co : scope.isCoroutine = false) (gen : scope.isGenerator = false) (names : scope.names.lookup x = some .local∧scope.names.lookup y = some .free∧(y,NameKind.free) ∈ scope.names∧∀ z ∈ scope.names,z.2 ≠ .cell∧(z.2 = .free→z.1 = y)) (hxy : x ≠ y) (hj : X.N[j]? = some y) (hcell : X.env.scope.names.lookup y = some .cell)
    (hbind : ∀ cl u pm cdv ctv,bindArgs (PySem.W.kla_fn "<lambda>" (X.env.qual ++ "<lambda>") params body scope cl pm cdv ctv) ⟨[u],[]⟩ = pure [(x,u)])
    (hb : ∀ cl q cdv s H,PE (jq X.prog X.w X.K X.mg X.base [x,y] (X.env.qual ++ "<lambda>") scope cl q cdv X.A.in1 X.stack s H) body tb)
    (hd : defaultsOf params X.env = ([],[]):=by rfl)
    (h1 : backTo pos (starEach [e] X.env) = (false,eval e X.env) :: backTo pos (starEach [] X.env):=by rfl) (h2 : ((backTo pos (starEach [e] X.env)).any fun x=>x.fst) = false:=by rfl)
    (h3 : ((backToKw pos (keywordEach [⟨some ("key" : Str),.Lambda params body scope lpos,kpos⟩] X.env)).all fun x=>x.fst.isSome) = true:=by rfl) (h4 : ((backToKw pos (keywordEach [⟨some ("key" : Str),.Lambda params body scope lpos,kpos⟩] X.env)).any fun x=>x.fst.isNone) = false:=by rfl)
    (h5 : List.filterMap (fun x=>x.fst) (backToKw pos (keywordEach [⟨some ("key" : Str),.Lambda params body scope lpos,kpos⟩] X.env)) = [("key" : Str)]:=by rfl) :
    PE X (.Call (.Name "max" p) [e] [⟨some ("key" : Str),.Lambda params body scope lpos,kpos⟩] pos) (qX true P lpos (X.env.qual ++ "<lambda>") j ta tb):=by
  intro pins s σ H Q I h
  refine wpAny_Call_Name_kw (cx I hg hm boot_max ?_ (by decide) (by decide))
  refine PyProof.Rows.callWith_kw (thn (ha pos pins s σ H _ I h) fun us s1 hm0=>?_) h1 h2 h3 h4
  obtain ⟨vs,H1,I1,r1,tab,l,xs,pv,kf,rfl,hl,ne,hs,hk,q⟩:=hm0
  have hcl0 : ∃ c,X.env.cells.lookup y = some c:=I1.ok.has y (.inl hcell)
  have hf : ∀ z ∈ scope.names,z.2 = .free→∃ c,X.env.cells.lookup z.1 = some c:=fun z hz hf=>by
    rw [(names.2.2.2 z hz).2 hf]; exact hcl0
  have hPK : PK X [⟨some ("key" : Str),.Lambda params body scope lpos,kpos⟩] (lS (sf P lpos (X.env.qual ++ "<lambda>") params body scope X.env.cells) mI):=lI (oh D hd hf) oB
  have hyf : (y,NameKind.free) ∈ scope.names:=names.2.2.1
  obtain ⟨ps,hP,_⟩:=id tab
  have nlP : l ≠ P:=fun z=>by rw [z,hP] at hl; cases hl
  refine thn (hPK pos pins s1 σ H1 (fun zs H2=>∃ (cl : List (Str × Addr)) (qa : Addr),zs = [.ref qa]∧(∀ x c,cl.lookup x = some c→X.env.cells.lookup x = some c)∧(∃ c,cl.lookup y = some c)∧SameT P H1 H2∧TabOk H2 P lpos (X.env.qual ++ "<lambda>")∧fW H2 qa (X.env.qual ++ "<lambda>") params body scope cl) I1 ⟨tab,fun cl qa H2 c1 c2 sT t2 la=>⟨cl,qa,rfl,c1,c2 y hyf,sT,t2,la⟩⟩) fun ws s2 hm0=>?_
  obtain ⟨zs,H2,I2,r2,cl,qa,rfl,c1,hcl,sT,t2,la⟩:=hm0
  rw [h5]
  obtain ⟨u,rfl,ru⟩:=dC r1
  cases ru
  obtain ⟨u2,rfl,ru2⟩:=dC r2
  cases ru2
  refine og kf (I2.ok.hd hcalm) (iW hr 2) I2 (SqL.of (sT _ _ nlP hl)) ne (fun i x' u H3 s3 pins' I3 sm hx ru=>?_) (fun i x' H' sm hx b=>q i x' H' hx b (sT.trans (SameT.of sm)) (t2.up sm))
  have la3 : fW H3 qa (X.env.qual ++ "<lambda>") params body scope cl:=by
    obtain ⟨pm,ctv,c,o,vs,t,a1,a2,a3⟩:=la
    exact ⟨pm,ctv,c,o,vs,t,sm _ _ a1,sm _ _ a2,a3⟩
  exact k6 hr I3 la3 c1 kind co gen names hxy hcl hj hs hcell (fun pm cdv ctv=>hbind cl u pm cdv ctv) ru (fun cdv=>hb cl qa cdv s3 H3) (hk i x' H3 hx (sT.trans (SameT.of sm)))
end L2
namespace L2
open PySem PySem.W PySem.Calls PyProof.Rows
def rB : Value→Bool | .str _ _=>true | _=>false
def oJ : Value→Bool | .int _ _=>true | _=>false
def qb : Value→Bool | .bool _=>true | _=>false
def im : Value→Bool | .type "code"=>true | _=>false
def jg (K : Frag) : Option Addr:=match nsIn K mainGlobals "__builtins__" with
  | some (some (.ref bm))=>match K.lookup bm with
    | some ⟨.type "module",some d,.plain,_⟩=>if d = builtinsNs∧bm ≠ builtinsNs∧bm ≠ mainGlobals then some bm else none
    | _=>none
  | _=>none
def cU (K : Frag) (f : Addr) : Option Addr:=match K.lookup f,jg K with
  | some ⟨_,_,.func fd,_⟩,some bm=>match fd.code with
    | .ref c=>match K.lookup c with
      | some ⟨cl,_,.fields vs,_⟩=>match ((vs : Array Value)[11]? : Option Value) with
        | some (Value.ref P)=>if im cl∧rB (vs.getD 18 .none)∧oJ (vs.getD 7 .none)∧qb (vs.getD 9 .none)∧oJ (vs.getD 10 .none)∧c ≠ P∧mainGlobals ≠ P∧bm ≠ P∧(K.lookup P).isNone then some P else none
        | _=>none
      | _=>none
    | _=>none
  | _,_=>none
def aH (K : Frag) (x : Str) : Addr:=match nsIn K mainGlobals x with
  | some (some (.ref f))=>(cU K f).getD 0
  | _=>0
def fC (K : Frag) (mg : Str→Option Value) (x : Str) : Prop:=∃ f,mg x = some (.ref f)∧cU K f = some (aH K x)
theorem mP {K : Frag} {bm : Addr} (e : jg K = some bm) : ∃ sl,nsIn K mainGlobals "__builtins__" = some (some (.ref bm))∧K.lookup bm = some ⟨.type "module",some builtinsNs,.plain,sl⟩∧bm ≠ builtinsNs∧bm ≠ mainGlobals:=by
  unfold jg at e
  split at e
  · rename_i b hb
    split at e
    · rename_i d sl hl
      split at e
      · rename_i h
        obtain ⟨h1,h2,h3⟩:=h
        injection e with e
        subst e; subst h1
        exact ⟨sl,hb,hl,h2,h3⟩
      · cases e
    · cases e
  · cases e
theorem ie {K : Frag} {f P : Addr} (e : cU K f = some P) : ∃ (oc : Value) (od : Option Addr) (fd : FuncData) (sl : Array (Option Value)) (c : Addr) (bm : Addr),K.lookup f = some ⟨oc,od,.func fd,sl⟩∧fd.code = .ref c∧jg K = some bm∧bm ≠ P∧mainGlobals ≠ P∧K.lookup P = none∧∀ h : Heap,K.In h→CodeHd h c P:=by
  unfold cU at e
  split at e
  · rename_i oc od fd sl bm hf hb
    split at e
    · rename_i c hc
      split at e
      · rename_i cl cd vs csl hk
        split at e
        · rename_i Q hQ
          split at e
          · rename_i hh
            obtain ⟨h0,h1,h2,h3,h4,h5,h6,h7,h8⟩:=hh
            injection e with e
            subst e
            refine ⟨oc,od,fd,sl,c,bm,hf,hc,hb,h7,h6,by simpa using h8,fun h X=>?_⟩
            have s1 : ∃ a b,vs.getD 18 .none = .str a b:=by
              cases z : vs.getD 18 .none <;> rw [z] at h1 <;> first | exact ⟨_,_,rfl⟩ | cases h1
            have s2 : ∃ a b,vs.getD 7 .none = .int a b:=by
              cases z : vs.getD 7 .none <;> rw [z] at h2 <;> first | exact ⟨_,_,rfl⟩ | cases h2
            have s3 : ∃ a,vs.getD 9 .none = .bool a:=by
              cases z : vs.getD 9 .none <;> rw [z] at h3 <;> first | exact ⟨_,rfl⟩ | cases h3
            have s4 : ∃ a b,vs.getD 10 .none = .int a b:=by
              cases z : vs.getD 10 .none <;> rw [z] at h4 <;> first | exact ⟨_,_,rfl⟩ | cases h4
            have s0 : cl = .type "code":=by
              unfold im at h0
              split at h0
              · rfl
              · cases h0
            obtain ⟨f1,f2,e1⟩:=s1
            obtain ⟨g1,g2,e2⟩:=s2
            obtain ⟨i1,e3⟩:=s3
            obtain ⟨t1,t2,e4⟩:=s4
            exact ⟨_,vs,f1,f2,g1,g2,i1,t1,t2,X _ _ hk,s0,rfl,hQ,by rw [Array.getD_eq_getD_getElem?,hQ]; rfl,e1,e2,e3,e4,h5⟩
          · cases e
        · cases e
      · cases e
    · cases e
  · cases e
theorem p7 {X : Cx} {f P : Addr} {oc : Value} {od : Option Addr} {fd : FuncData} {sl : Array (Option Value)} (ok : Mod X.K X.mg X.base) (hf : X.K.lookup f = some ⟨oc,od,.func fd,sl⟩) (hc : X.env.code = fd.code) (e : cU X.K f = some P) : LamDef X P:=by
  obtain ⟨oc',od',fd',sl',c,bm,h1,h2,h3,h4,h5,h6,h7⟩:=ie e
  rw [hf] at h1
  cases h1
  obtain ⟨msl,b1,b2,b3,b4⟩:=mP h3
  refine ⟨⟨c,hc.trans h2,fun h k=>h7 h (ok.kin.keeps k)⟩,fun h k=>⟨bm,_,mg_of ok.kin ok.glob b1,b3,b4,h4,k _ _ (ok.kin _ _ b2),rfl,rfl,rfl⟩,h5⟩
theorem Fun.okL {P : Program} {w : World} {K : Frag} {mg : Str→Option Value} {base : Heap} {x qual : Str} {st : Stmt} {f : Addr} {fd : FuncData} {N ps : List Str} {k : Nat} {sp : Sp} {T : Addr} (F : Fun K x qual st f fd) (hT : cU K f = some T) (S : FnScope N ps (af st)) (len : ∀ vs H Q E,sp vs H Q E→vs.length = ps.length)
    (hbody : ∀ (cdv : Value) (A : Around) (outer : List Env) (s : Shared) (H : Hp) (vs : List V) (Q : VK) (E : XK),(Mod K mg base→LamDef (eH CX0 P w K mg base N qual (af st) f cdv A outer s H E).nox T)→Room k (A.deeper (envOfC qual (af st) s.heap.objs.size f cdv))→sp vs H Q E →
      ∃ t,(Mod K mg base→PSs (eH CX0 P w K mg base N qual (af st) f cdv A outer s H E).nox (aX st) t)∧t { nx:=fun _ H'=>Q .non H',rt:=Q } (start N vs) H) : FnOk P w K mg base CX0 (k + 1) f fd ps sp:=by
  obtain ⟨oc,od,kV,doc,pm,an,cdv,ct,osl,rfl,lk,hcd⟩:=F.ex
  refine qR lk hcd S len fun A outer s H vs Q E hr hsp=>?_
  obtain ⟨t,h,q⟩:=hbody cdv A outer s H vs Q E (fun m=>p7 (X:=(eH CX0 P w K mg base N qual (af st) f cdv A outer s H E).nox) m lk rfl hT) hr hsp
  refine ⟨t,PSs.nox (fun pins s' σ H' D I hh=>h I.ok.mod pins s' σ H' D I hh),q⟩
def oj : Obj→Bool
  | ⟨.none,_,.fields _,_⟩=>true
  | _=>false
def partN (as : List Addr) (h : Heap) : Frag:=(jm as h).filter fun p=>!oj p.2
theorem ko {h : Heap} {as : List Addr} {a : Addr} {o : Obj} (e : (a,o) ∈ jm as h) : h.get? a = some o:=by
  unfold jm at e
  obtain ⟨b,_,hb⟩:=List.mem_filterMap.mp e
  obtain ⟨o',h1,h2⟩:=Option.map_eq_some_iff.mp hb
  cases h2
  exact h1
theorem nV {β : Type} {a : Addr} {b : β} : ∀ (l : List (Addr × β)),l.lookup a = some b→(a,b) ∈ l
  | [],h=>by cases h
  | (c,d) :: l,h=>by
    rw [List.lookup_cons] at h
    cases q : a == c with
    | true =>
      rw [q] at h
      have h : some d = some b:=h
      cases h
      rw [eq_of_beq q]
      exact List.mem_cons_self
    | false =>
      rw [q] at h
      exact List.mem_cons_of_mem _ (nV l h)
theorem partN_in (h : Heap) (as : List Addr) : (partN as h).In h:=fun a o e=>by
  have m : (a,o) ∈ (jm as h).filter fun p=>!oj p.2:=nV _ e
  exact ko (as:=as) (List.mem_filter.mp m).1
def mU (K : Frag) (h : Heap) (x : Str) : Bool:=match nsIn K mainGlobals x with
  | some (some (.ref f))=>match cU K f with
    | some P=>match h.get? P with
      | some ⟨.none,none,.fields ps,sl⟩=>ps.size == 0 && sl.size == 0
      | _=>false
    | none=>false
  | _=>false
theorem pX {K : Frag} {h : Heap} {x : Str} (e : mU K h x = true) : ∃ f,nsIn K mainGlobals x = some (some (.ref f))∧cU K f = some (aH K x)∧h.get? (aH K x) = some (tabObj #[]):=by
  unfold mU at e
  split at e
  · rename_i f hf
    split at e
    · rename_i P hP
      split at e
      · rename_i ps sl hg
        have ea : aH K x = P:=by unfold aH; rw [hf]; show (cU K f).getD 0 = P; rw [hP]; rfl
        rw [Bool.and_eq_true,beq_iff_eq,beq_iff_eq] at e
        have e1 : ps = #[]:=Array.eq_empty_of_size_eq_zero e.1
        have e2 : sl = #[]:=Array.eq_empty_of_size_eq_zero e.2
        subst e1 e2
        exact ⟨f,hf,by rw [ea]; exact hP,by rw [ea]; exact hg⟩
      · cases e
    · cases e
  · cases e
def TabsIn (xs : List Str) (K : Frag) (h : Heap) : Prop:=∀ x ∈ xs,∃ f,nsIn K mainGlobals x = some (some (.ref f))∧cU K f = some (aH K x)∧h.get? (aH K x) = some (tabObj #[])
theorem TabsIn.of {xs : List Str} {K : Frag} {h : Heap} (e : (xs.all fun x=>mU K h x) = true) : TabsIn xs K h:=fun x hx=>pX (List.all_eq_true.mp e x hx)
def lf (xs : List Str) (K : Frag) (H : Hp) : Prop:=∀ x ∈ xs,H (aH K x) = some (.tbl #[])
theorem mK {P : Program} {w : World} {K : Frag} {mg mb : Str→Option Value} {k : Nat} {fa a : Addr} {fd : FuncData} {x : Str} {sp : Sp} {s₁ : Shared} {vs : List Value} {ns : List Int} {xs : List Str}
    (KX : K.In s₁.heap) (hns : s₁.heap.Ns mainGlobals mg) (hb : s₁.heap.Ns builtinsNs mb) (hbb : ∀ x : Str,x ≠ "__name__"→mb x = bootBuiltins x) (hlim : s₁.heap.NoLimit) (hg : s₁.gens = #[]) (TI : TabsIn xs K s₁.heap)
    (ha : s₁.heap.get? a = some { cls:=.type "list",data:=.seq vs.toArray }) (hi : IntsAre vs ns) (hl : ns.length ≤ sizeLine) (hr : Room k callerA)
    (F : ∀ base : Heap,K.In base→base.Ns mainGlobals mg→FnOk P w K mg base CX0 k fa fd [x] sp) (hbind : ∀ (s : Shared) (u : Value),BindsTo s fd ⟨[u],[]⟩ [(x,u)])
    (hsp : ∀ H : Hp,lf xs K H→SqL K H a (ns.map V.int)→sp [.ref a] H (fun v _=>v = .bl true) fun _ _ _=>False) :
    codeAny (model P w) callerA (.call (.ref fa) ⟨[.ref a],[]⟩) (fun r s'=>r = .ok (.ret (.bool true))∧OldK s₁.heap s'.heap∧s'.os = s₁.os∧AllBare s'.gens) s₁:=by
  have rv:=iA hi
  have lenV:=hi.length
  let isT : Addr→Prop:=fun b=>∃ y ∈ xs,aH K y = b
  have tK : ∀ b,isT b→K.lookup b = none∧s₁.heap.get? b = some (tabObj #[])∧isCodeTable s₁.heap b:=fun b ⟨y,hy,e⟩=>by
    obtain ⟨f,h1,h2,h3⟩:=TI y hy
    obtain ⟨_,_,_,_,c,_,_,_,_,_,_,h4,h5⟩:=ie h2
    rw [e] at h3 h4 h5
    obtain ⟨o,cvs,_,_,_,_,_,_,_,g1,g2,g3,g4,_⟩:=h5 _ KX
    exact ⟨h4,h3,c,o,cvs,g1,g2,g3,g4⟩
  have naT : ¬ isT a:=fun z=>by
    have:=(tK a z).2.1
    rw [ha] at this; cases this
  have core : ∀ H : Hp,SqL K H a (ns.map V.int)→HOk P w H s₁.heap→(∀ b,isT b→H b = some (.tbl #[]))→(∀ b,H b ≠ none→isT b ∨ (b = a∧K.lookup a = none∧∃ o zs,H b = some (.frz o (.lst zs)))) →
      codeAny (model P w) callerA (.call (.ref fa) ⟨[.ref a],[]⟩) (fun r s'=>r = .ok (.ret (.bool true))∧OldK s₁.heap s'.heap∧s'.os = s₁.os∧AllBare s'.gens) s₁:=by
    intro H hS hok hT hA
    have base_of : ∀ {b : Addr} {o : Obj},s₁.heap.get? b = some o→H b = none→(iS s₁.heap H).get? b = some o:=fun e n=>nr e n
    have noA : ∀ {b : Addr} {o : Obj} {es : Array DictEntry} {ep : Nat},s₁.heap.get? b = some o→o.data = .dict es ep→H b = none:=fun {b o es ep} e d=>by
      cases q : H b with
      | none=>rfl
      | some u =>
        rcases hA b (by rw [q]; simp) with z | ⟨e',_⟩
        · rw [(tK b z).2.1] at e; cases e
          cases d
        · subst e'
          rw [ha] at e; cases e
          have d' : Data.seq vs.toArray _ = Data.dict es ep:=d
          cases d'
    have nsK : ∀ {b : Addr} {m : Str→Option Value},s₁.heap.Ns b m→(iS s₁.heap H).Ns b m:=fun {b m} ⟨o,es,ep,e,d,r⟩=>⟨o,es,ep,base_of e (noA e d),d,r⟩
    have hKb : K.In (iS s₁.heap H):=fun b o e=>base_of (KX b o e) (by
      cases q : H b with
      | none=>rfl
      | some u =>
        rcases hA b (by rw [q]; simp) with z | ⟨e',hK,_⟩
        · rw [(tK b z).1] at e; cases e
        · subst e'
          rw [hK] at e; cases e)
    have hM : Mod K mg (iS s₁.heap H):=⟨hKb,nsK hns,⟨mb,nsK hb,hbb⟩,let ⟨mc,h1,h2⟩:=hlim; ⟨mc,nsK h1,h2⟩⟩
    have e0 : Env0 P w K mg (iS s₁.heap H) callerA [] s₁ H:=⟨rfl,hM,fun b o e=>qr e,Nat.le_of_eq (lY _ _),trivial,fun b hb=>absurd (show b ∈ ([] : List Addr) from hb) (by simp),hok,.of_eq hg⟩
    refine codeAny_mono ((F _ hKb (nsK hns)).run callerA [] s₁ H ⟨[.ref a],[]⟩ [.ref a] [.ref a] _ _ hr e0 (hbind s₁ (.ref a)) (.cons rfl .nil) (hsp H (fun y hy=>hT _ ⟨y,hy,rfl⟩) hS)) fun r s' h=>?_
    cases r with
    | error e=>exact h.elim
    | ok fl =>
      cases fl with
      | next=>exact False.elim h
      | brk=>exact False.elim h
      | cont=>exact False.elim h
      | ret u =>
        obtain ⟨v,H',os,bare,un,hok',r',q⟩:=h
        have q' : v = .bl true:=q
        subst q'
        obtain rfl : u = Value.bool true:=r'
        refine ⟨rfl,⟨fun b o e=>?_,fun b o e=>un.there b o e (by simp)⟩,os,bare⟩
        cases q : H b with
        | none=>exact .inl (un.keep b o e q (by intro z; exact absurd (show b ∈ ([] : List Addr) from z) (by simp)) (by simp))
        | some u =>
          rcases hA b (by rw [q]; simp) with z | ⟨e',_,ob,zs,z⟩
          · obtain ⟨_,t2,t3⟩:=tK b z
            rw [t2] at e
            cases e
            obtain ⟨more,e2⟩:=un.tbls b _ (hT b z)
            exact .inr (.inl ⟨t3,rfl,#[],more,rfl,hok' b _ e2⟩)
          · have z2:=un.frzs b ob _ z
            obtain ⟨e1,_⟩:=hok b _ z
            obtain ⟨e2,_⟩:=hok' b _ z2
            rw [e] at e1; cases e1
            exact .inl e2
  have hTok : ∀ (H : Hp) (b : Addr),isT b→H b = some (.tbl #[])→∀ u,H b = some u→ObjOk P w H s₁.heap b u:=fun H b z e u hu=>by
    rw [e] at hu; cases hu
    exact (tK b z).2.1
  cases hk : K.lookup a with
  | some o =>
    have e:=KX a o hk
    rw [ha] at e
    cases e
    refine core (fun b=>open Classical in if isT b then some (.tbl #[]) else none) (.inr ⟨_,vs.toArray,_,hk,rfl,rfl,rfl,by rw [List.size_toArray,lenV]; exact hl,by simpa using rv⟩) (fun b u z=>?_) (fun b z=>if_pos z) fun b z=>?_
    · by_cases c : isT b
      · exact hTok _ b c (if_pos c) u z
      · have z':=(if_neg c).symm.trans z
        cases z'
    · by_cases c : isT b
      · exact .inl c
      · exact absurd (if_neg c) z
  | none =>
    refine core (fun b=>open Classical in if isT b then some (.tbl #[]) else if b = a then some (.frz { cls:=.type "list",data:=.seq vs.toArray } (.lst (ns.map V.int))) else none) (.inl (.inr ⟨{ cls:=.type "list",data:=.seq vs.toArray },(if_neg naT).trans (if_pos rfl)⟩)) (fun b u z=>?_) (fun b z=>if_pos z) fun b z=>?_
    · by_cases c : isT b
      · exact hTok _ b c (if_pos c) u z
      · by_cases hb : b = a
        · have z':=((if_neg c).trans (if_pos hb)).symm.trans z
          cases z'
          subst hb
          exact ⟨ha,by rw [List.length_map]; exact hl,vs,_,rv,ha⟩
        · have z':=((if_neg c).trans (if_neg hb)).symm.trans z
          cases z'
    · by_cases c : isT b
      · exact .inl c
      · by_cases hb : b = a
        · exact .inr ⟨hb,hk,_,_,(if_neg c).trans (if_pos hb)⟩
        · exact absurd ((if_neg c).trans (if_neg hb)) z
theorem walk_exT {l : OpenLaw} {n k : Nat} {q : Program} {loose : List Str} {XP : (Str→Option Value)→Heap→Prop} {d : DefRec} {Fc : World→Frag→Prop} {sp : Frag→Sp} {x nm : Str} {xs : List Str}
    (hn : l.most = some n) (hn2 : n ≤ sizeLine) (hdf : d.params.defaults = []) (hr : Room k callerA) (hnm : d.name = nm)
    (F : ∀ (w : World) (K : Frag) (mg : Str→Option Value) (fa : Addr) (h : Heap),Fc w K→K.In h→TabsIn xs K h→h.Ns mainGlobals mg→mg nm = some (.ref fa) →
      ∃ fd : FuncData,(∀ (s : Shared) (u : Value),BindsTo s fd ⟨[u],[]⟩ [(x,u)])∧∀ base : Heap,K.In base→base.Ns mainGlobals mg→FnOk l.prog w K mg base CX0 k fa fd [x] (sp K))
    (hsp : ∀ (K : Frag) (H : Hp) (a : Addr) (ns : List Int),ns.length ≤ n→lf xs K H→SqL K H a (ns.map V.int)→sp K [.ref a] H (fun v _=>v = .bl true) fun _ _ _=>False) :
    WalkO q loose XP (fun w h=>∃ K : Frag,K.In h∧Fc w K∧TabsIn xs K h) l.row.toRowW d [] (fun f vs=>PySem.call f vs):=by
  refine Att.attach_call hn hdf fun w s₀ s₁ mg mb fa o pm cd doc a vs ns G Y ho hd hcd hmg hobj hints hlen hg=>?_
  obtain ⟨K,KX,fc,ti⟩:=Y
  rw [hnm] at hmg
  obtain ⟨fd,hb,hF⟩:=F w K mg fa _ fc KX ti G.T.g hmg
  exact mK KX G.T.g G.T.b G.T.builtins G.T.nolimit hg ti hobj hints (Nat.le_trans hlen hn2) hr hF hb (fun H hT hS=>hsp K H a ns hlen hT hS)
theorem jv {xs : List Str} {K : Frag} {h : Heap} {mg : Str→Option Value} {x : Str} (X : K.In h) (G : h.Ns mainGlobals mg) (t : TabsIn xs K h) (hx : x ∈ xs) : fC K mg x:=by
  obtain ⟨f,h1,h2,_⟩:=t x hx
  exact ⟨f,mg_of X G h1,h2⟩
theorem TabsIn.keeps {xs : List Str} {K : Frag} {h h' : Heap} (t : TabsIn xs K h) (k : ∀ b o,h.get? b = some o→h'.get? b = some o) : TabsIn xs K h':=fun x hx=>by
  obtain ⟨f,h1,h2,h3⟩:=t x hx
  exact ⟨f,h1,h2,k _ _ h3⟩
theorem DefAt.okL {P : Program} {w : World} {K : Frag} {mg : Str→Option Value} {base : Heap} {x : Str} {st : Stmt} {N ps : List Str} {k : Nat} {sp : Sp} (D : DefAt K mg x st ps) (L : fC K mg x) (S : FnScope N ps (af st)) (len : ∀ vs H Q E,sp vs H Q E→vs.length = ps.length)
    (hbody : ∀ (f : Addr) (cdv : Value) (A : Around) (outer : List Env) (s : Shared) (H : Hp) (vs : List V) (Q : VK) (E : XK),(Mod K mg base→LamDef (eH CX0 P w K mg base N x (af st) f cdv A outer s H E).nox (aH K x))→Room k (A.deeper (envOfC x (af st) s.heap.objs.size f cdv))→sp vs H Q E →
      ∃ t,(Mod K mg base→PSs (eH CX0 P w K mg base N x (af st) f cdv A outer s H E).nox (aX st) t)∧t { nx:=fun _ H'=>Q .non H',rt:=Q } (start N vs) H) : Dn P w K mg base x (k + 1) ps sp:=by
  obtain ⟨f,fd,F,hm,hb⟩:=D
  obtain ⟨f',hm',hl⟩:=L
  rw [hm] at hm'
  cases hm'
  exact ⟨f,fd,F.okL hl S len (hbody f),hm,F.kp,hb⟩
end L2
namespace L2
open PySem PySem.Spec PyProof.Rows
abbrev bA (h : Heap) (T : Addr) (a b c : Value) : Prop:=h.get? T = some { cls:=.type "tuple",data:=.seq #[a,b,c] }
def fJ (c z TO i1 i2 i3 : Addr) : Prop:=c ≠ z∧c ≠ TO∧c ≠ i1∧c ≠ i2∧c ≠ i3
structure Ap3 (z TI TO i1 i2 i3 l1 l2 l3 : Addr) : Prop where
  TOz : TO ≠ z
  i1z : i1 ≠ z
  i2z : i2 ≠ z
  i3z : i3 ≠ z
  TO1 : TO ≠ i1
  TO2 : TO ≠ i2
  TO3 : TO ≠ i3
  i12 : i1 ≠ i2
  i13 : i1 ≠ i3
  i23 : i2 ≠ i3
  TI : fJ TI z TO i1 i2 i3
  l1 : fJ l1 z TO i1 i2 i3
  l2 : fJ l2 z TO i1 i2 i3
  l3 : fJ l3 z TO i1 i2 i3
section
variable {P : Program} {w : World} {A : Around} {E : Value→Shared→Prop} {s : Shared}
theorem er {T : Addr} {a b c x : Value} {k : Nat} {Q : Unit→Shared→Prop} (hT : bA s.heap T a b c)
    (h : ∀ h',h'.get? T = some { cls:=.type "tuple",data:=.seq ((#[a,b,c] : Array Value).setIfInBounds k x) }→Heap.SameBut T s.heap h'→Q () { s with heap:=h' }) :
    wpAny (model P w) A (updateSeq T (·.setIfInBounds k x)) Q E s:=by
  refine wpAny_updateSeq hT rfl (h _ ?_ (Heap.SameBut.update ..))
  rw [Heap.get?_update_self _ hT rfl]
  simp [Obj.mapSeq]
theorem mF {z TI TO i1 i2 i3 l1 l2 l3 : Addr} {k : Nat} {xs ys zs : Array Value} {x y u a b c : Value} {Q : Value→Shared→Prop} (D : Ap3 z TI TO i1 i2 i3 l1 l2 l3)
    (hz : IsZip s.heap z TI TO .none) (hTI : bA s.heap TI (.ref i1) (.ref i2) (.ref i3)) (hTO : bA s.heap TO a b c)
    (h1 : s.heap.IsListIter i1 l1 k) (h2 : s.heap.IsListIter i2 l2 k) (h3 : s.heap.IsListIter i3 l3 k) (hl1 : s.heap.IsList l1 xs) (hl2 : s.heap.IsList l2 ys) (hl3 : s.heap.IsList l3 zs) (hx : xs[k]? = some x) (hy : ys[k]? = some y) (hu : zs[k]? = some u)
    (hQ : ∀ h',IsZip h' z TI TO (rawInt s.heap.objs.size)→bA h' TO x y u→h'.IsListIter i1 l1 (k + 1)→h'.IsListIter i2 l2 (k + 1)→h'.IsListIter i3 l3 (k + 1)→bA h' s.heap.objs.size x y u→h'.objs.size = s.heap.objs.size + 1 →
      (∀ c o,fJ c z TO i1 i2 i3→s.heap.get? c = some o→h'.get? c = some o)→Q (.ref s.heap.objs.size) { s with heap:=h' }) :
    wpAny (model P w) A (Builtin.«zip.__next__» ⟨[.ref z],[]⟩) (fun fin s'=>∃ v,fin = .done (.ret v)∧Q v s') E s:=by
  show wpAny _ _ (field (.ref z) 2 >>= _) _ _ _
  refine wpAny_bind (wpAny_field hz rfl (x:=.bool false) rfl ?_)
  show wpAny _ _ (field (.ref z) 3 >>= _) _ _ _
  refine wpAny_bind (wpAny_field hz rfl (x:=.ref TI) rfl ?_)
  refine wpAny_bind (wpAny_seqItems hTI rfl ?_)
  show wpAny _ _ (Builtin.SmallTypes.ownedTupleIsFree (.ref z) >>= _) _ _ _
  refine wpAny_bind ?_
  unfold Builtin.SmallTypes.ownedTupleIsFree
  refine wpAny_bind (wpAny_field hz rfl (x:=.none) rfl (wpAny_pure ?_))
  simp only [if_true]
  refine wpAny_bind (wpAny_rule ?_)
  refine wpAny_bind (wpAny_field hz rfl (x:=.ref TO) rfl ?_)
  refine wpAny_bind (wpAny_setField_rec hz (by simp) fun g1 hz1 s1=>?_)
  replace hz1 : IsZip g1 z TI TO .ellipsis:=hz1
  refine wpAny_bind ?_
  simp only [List.zipIdx_cons,List.zipIdx_nil,List.forIn_cons,List.forIn_nil]
  have c1 : ∀ c o,fJ c z TO i1 i2 i3→s.heap.get? c = some o→g1.get? c = some o:=fun c o cc e=>s1.extBut _ _ cc.1 e
  refine wpAny_bind (wpAny_bind (wpAny_onRaise ?_))
  show wpAny _ _ (Builtin.SmallTypes.nextOf (.ref i1) >>= _) _ _ _
  refine wpAny_bind (wpAny_nextOf_list_item (h1.extBut s1.extBut D.i1z) (hl1.extBut s1.extBut D.l1.1) hx fun g2 i1g2 s2=>wpAny_pure ?_)
  have to2 : bA g2 TO a b c:=s2.extBut _ _ D.TO1 (s1.extBut _ _ D.TOz hTO)
  refine wpAny_bind (wpAny_seqItems to2 rfl ?_)
  refine wpAny_bind (er to2 fun g3 to3 s3=>?_)
  replace to3 : bA g3 TO x b c:=to3
  refine wpAny_bind (wpAny_letGo (wpAny_pure ?_))
  have c3 : ∀ c o,fJ c z TO i1 i2 i3→s.heap.get? c = some o→g3.get? c = some o:=fun c o cc e=>s3.extBut _ _ cc.2.1 (s2.extBut _ _ cc.2.2.1 (c1 c o cc e))
  have i2g3 : g3.IsListIter i2 l2 k:=((h2.extBut s1.extBut D.i2z).extBut s2.extBut D.i12.symm).extBut s3.extBut D.TO2.symm
  have i3g3 : g3.IsListIter i3 l3 k:=((h3.extBut s1.extBut D.i3z).extBut s2.extBut D.i13.symm).extBut s3.extBut D.TO3.symm
  have i1g3 : g3.IsListIter i1 l1 (k + 1):=i1g2.extBut s3.extBut D.TO1.symm
  have z3 : IsZip g3 z TI TO .ellipsis:=s3.extBut _ _ D.TOz.symm (s2.extBut _ _ D.i1z.symm hz1)
  refine wpAny_bind (wpAny_bind (wpAny_onRaise ?_))
  show wpAny _ _ (Builtin.SmallTypes.nextOf (.ref i2) >>= _) _ _ _
  refine wpAny_bind (wpAny_nextOf_list_item i2g3 (hl2.at fun o e=>c3 _ o D.l2 e) hy fun g4 i2g4 s4=>wpAny_pure ?_)
  have to4 : bA g4 TO x b c:=s4.extBut _ _ D.TO2 to3
  refine wpAny_bind (wpAny_seqItems to4 rfl ?_)
  refine wpAny_bind (er to4 fun g5 to5 s5=>?_)
  replace to5 : bA g5 TO x y c:=to5
  refine wpAny_bind (wpAny_letGo (wpAny_pure ?_))
  have c5 : ∀ c o,fJ c z TO i1 i2 i3→s.heap.get? c = some o→g5.get? c = some o:=fun c o cc e=>s5.extBut _ _ cc.2.1 (s4.extBut _ _ cc.2.2.2.1 (c3 c o cc e))
  have i3g5 : g5.IsListIter i3 l3 k:=(i3g3.extBut s4.extBut D.i23.symm).extBut s5.extBut D.TO3.symm
  have i1g5 : g5.IsListIter i1 l1 (k + 1):=(i1g3.extBut s4.extBut D.i12).extBut s5.extBut D.TO1.symm
  have i2g5 : g5.IsListIter i2 l2 (k + 1):=i2g4.extBut s5.extBut D.TO2.symm
  have z5 : IsZip g5 z TI TO .ellipsis:=s5.extBut _ _ D.TOz.symm (s4.extBut _ _ D.i2z.symm z3)
  refine wpAny_bind (wpAny_bind (wpAny_onRaise ?_))
  show wpAny _ _ (Builtin.SmallTypes.nextOf (.ref i3) >>= _) _ _ _
  refine wpAny_bind (wpAny_nextOf_list_item i3g5 (hl3.at fun o e=>c5 _ o D.l3 e) hu fun g6 i3g6 s6=>wpAny_pure ?_)
  have to6 : bA g6 TO x y c:=s6.extBut _ _ D.TO3 to5
  refine wpAny_bind (wpAny_seqItems to6 rfl ?_)
  refine wpAny_bind (er to6 fun g7 to7 s7=>?_)
  replace to7 : bA g7 TO x y u:=to7
  refine wpAny_bind (wpAny_letGo (wpAny_pure (wpAny_pure ?_)))
  have c7 : ∀ c o,fJ c z TO i1 i2 i3→s.heap.get? c = some o→g7.get? c = some o:=fun c o cc e=>s7.extBut _ _ cc.2.1 (s6.extBut _ _ cc.2.2.2.2 (c5 c o cc e))
  have i1g7 : g7.IsListIter i1 l1 (k + 1):=(i1g5.extBut s6.extBut D.i13).extBut s7.extBut D.TO1.symm
  have i2g7 : g7.IsListIter i2 l2 (k + 1):=(i2g5.extBut s6.extBut D.i23).extBut s7.extBut D.TO2.symm
  have i3g7 : g7.IsListIter i3 l3 (k + 1):=i3g6.extBut s7.extBut D.TO3.symm
  have z7 : IsZip g7 z TI TO .ellipsis:=s7.extBut _ _ D.TOz.symm (s6.extBut _ _ D.i3z.symm z5)
  refine wpAny_bind (wpAny_seqItems to7 rfl ?_)
  refine wpAny_bind (wpAny_newTuple ?_)
  have hsz : g7.objs.size = s.heap.objs.size:=by rw [s7.1,s6.1,s5.1,s4.1,s3.1,s2.1,s1.1]
  have hzlt : z < g7.objs.size:=Heap.lt_size z7
  show wpAny _ _ (Builtin.SmallTypes.ownedTupleHandOut (.ref z) (.ref g7.objs.size) >>= _) _ _ _
  refine wpAny_bind ?_
  unfold Builtin.SmallTypes.ownedTupleHandOut
  have z8 : IsZip (g7.push { cls:=.type "tuple",data:=.seq #[x,y,u] }) z TI TO .ellipsis:=Heap.get?_push_of_some _ z7
  refine wpAny_bind (wpAny_setField_rec z8 (by simp) fun g9 z9 s9=>?_)
  replace z9 : IsZip g9 z TI TO (rawInt g7.objs.size):=z9
  refine wpAny_setField_rec z9 (by simp) fun g10 z10 s10=>?_
  replace z10 : IsZip g10 z TI TO (rawInt g7.objs.size):=z10
  have up : ∀ c o,c ≠ z→g7.get? c = some o→g10.get? c = some o:=fun c o c1 e=>s10.extBut _ _ c1 (s9.extBut _ _ c1 (Heap.get?_push_of_some _ e))
  have t10 : bA g10 g7.objs.size x y u:=s10.extBut _ _ (Nat.ne_of_gt hzlt) (s9.extBut _ _ (Nat.ne_of_gt hzlt) (Heap.get?_push_size _ rfl))
  have sz10 : g10.objs.size = g7.objs.size + 1:=by rw [s10.1,s9.1,Heap.size_push]
  rw [hsz] at z10 t10 sz10
  refine wpAny_pure ⟨_,rfl,?_⟩
  show Q (.ref g7.objs.size) _
  rw [hsz]
  exact hQ g10 z10 (up _ _ D.TOz to7) (i1g7.at fun o e=>up _ o D.i1z e) (i2g7.at fun o e=>up _ o D.i2z e) (i3g7.at fun o e=>up _ o D.i3z e) t10 sz10 fun c o cc e=>up c o cc.1 (c7 c o cc e)
theorem mD {z TI TO i1 i2 i3 l1 l2 l3 : Addr} {k : Nat} {xs ys zs : Array Value} {x y u a b c : Value} {Q : Option Value→Shared→Prop} (D : Ap3 z TI TO i1 i2 i3 l1 l2 l3)
    (hz : IsZip s.heap z TI TO .none) (hTI : bA s.heap TI (.ref i1) (.ref i2) (.ref i3)) (hTO : bA s.heap TO a b c)
    (h1 : s.heap.IsListIter i1 l1 k) (h2 : s.heap.IsListIter i2 l2 k) (h3 : s.heap.IsListIter i3 l3 k) (hl1 : s.heap.IsList l1 xs) (hl2 : s.heap.IsList l2 ys) (hl3 : s.heap.IsList l3 zs) (hx : xs[k]? = some x) (hy : ys[k]? = some y) (hu : zs[k]? = some u)
    (hQ : ∀ h',IsZip h' z TI TO (rawInt s.heap.objs.size)→bA h' TO x y u→h'.IsListIter i1 l1 (k + 1)→h'.IsListIter i2 l2 (k + 1)→h'.IsListIter i3 l3 (k + 1)→bA h' s.heap.objs.size x y u→h'.objs.size = s.heap.objs.size + 1 →
      (∀ c o,fJ c z TO i1 i2 i3→s.heap.get? c = some o→h'.get? c = some o)→Q (some (.ref s.heap.objs.size)) { s with heap:=h' }) :
    wpAny (model P w) A (pyNext (.ref z)) Q E s:=by
  have hT : s.TypeIs (.ref z) "zip":=⟨_,hz,rfl⟩
  unfold pyNext
  exact wpAny_bind (wpAny_attempt (wpAny_callSpecial?_slot (name:=Str.ofString "__next__") hT F.slot_zip_next
    (wpAny_call_entry F.slot_zip_next hT F.entry_zip_next
      (mF D hz hTI hTO h1 h2 h3 hl1 hl2 hl3 hx hy hu fun h' a1 a2 a3 a4 a5 a6 a7 a8=>wpAny_pure (hQ h' a1 a2 a3 a4 a5 a6 a7 a8)) (F.args_zip_next_1 _))))
theorem mJ {z TI TO i1 i2 i3 l1 l2 l3 : Addr} {k : Nat} {xs : Array Value} {Q : Fin→Shared→Prop} (hh : A.handled = none) (D : Ap3 z TI TO i1 i2 i3 l1 l2 l3)
    (hz : IsZip s.heap z TI TO .none) (hTI : bA s.heap TI (.ref i1) (.ref i2) (.ref i3)) (h1 : s.heap.IsListIter i1 l1 k) (hl1 : s.heap.IsList l1 xs) (hx : xs[k]? = none)
    (hE : ∀ h' e,(∀ c o,fJ c z TO i1 i2 i3→s.heap.get? c = some o→h'.get? c = some o)→(∃ o,h'.get? e = some o∧o.cls = .type "StopIteration")→E (.ref e) { s with heap:=h' }) :
    wpAny (model P w) A (Builtin.«zip.__next__» ⟨[.ref z],[]⟩) Q E s:=by
  show wpAny _ _ (field (.ref z) 2 >>= _) _ _ _
  refine wpAny_bind (wpAny_field hz rfl (x:=.bool false) rfl ?_)
  show wpAny _ _ (field (.ref z) 3 >>= _) _ _ _
  refine wpAny_bind (wpAny_field hz rfl (x:=.ref TI) rfl ?_)
  refine wpAny_bind (wpAny_seqItems hTI rfl ?_)
  show wpAny _ _ (Builtin.SmallTypes.ownedTupleIsFree (.ref z) >>= _) _ _ _
  refine wpAny_bind ?_
  unfold Builtin.SmallTypes.ownedTupleIsFree
  refine wpAny_bind (wpAny_field hz rfl (x:=.none) rfl (wpAny_pure ?_))
  simp only [if_true]
  refine wpAny_bind (wpAny_rule ?_)
  refine wpAny_bind (wpAny_field hz rfl (x:=.ref TO) rfl ?_)
  refine wpAny_bind (wpAny_setField_rec hz (by simp) fun g1 hz1 s1=>?_)
  replace hz1 : IsZip g1 z TI TO .ellipsis:=hz1
  refine wpAny_bind ?_
  simp only [List.zipIdx_cons,List.zipIdx_nil,List.forIn_cons,List.forIn_nil]
  refine wpAny_bind (wpAny_bind (wpAny_onRaise ?_))
  show wpAny _ _ (Builtin.SmallTypes.nextOf (.ref i1) >>= _) _ _ _
  refine wpAny_bind (wpAny_nextOf_list_end hh (h1.extBut s1.extBut D.i1z) (hl1.extBut s1.extBut D.l1.1) hx fun g2 e s2 he=>?_)
  obtain ⟨oe,hoe,hce⟩:=he
  have z2 : IsZip g2 z TI TO .ellipsis:=s2 _ _ D.i1z.symm hz1
  have hez : e ≠ z:=fun x=>by subst x; rw [z2] at hoe; cases hoe; simp at hce
  refine wpAny_setField_rec z2 (by simp) fun g3 _ s3=>hE g3 e (fun c o cc x=>s3.extBut _ _ cc.1 (s2 _ _ cc.2.2.1 (s1.extBut _ _ cc.1 x))) ⟨oe,s3.extBut _ _ hez hoe,hce⟩
theorem m9 {z TI TO i1 i2 i3 l1 l2 l3 : Addr} {k : Nat} {xs : Array Value} {Q : Option Value→Shared→Prop} (hh : A.handled = none) (D : Ap3 z TI TO i1 i2 i3 l1 l2 l3)
    (hz : IsZip s.heap z TI TO .none) (hTI : bA s.heap TI (.ref i1) (.ref i2) (.ref i3)) (h1 : s.heap.IsListIter i1 l1 k) (hl1 : s.heap.IsList l1 xs) (hx : xs[k]? = none)
    (hQ : ∀ h',(∀ c o,fJ c z TO i1 i2 i3→s.heap.get? c = some o→h'.get? c = some o)→Q none { s with heap:=h' }) : wpAny (model P w) A (pyNext (.ref z)) Q E s:=by
  have hT : s.TypeIs (.ref z) "zip":=⟨_,hz,rfl⟩
  unfold pyNext
  refine wpAny_bind (wpAny_attempt (wpAny_callSpecial?_slot (name:=Str.ofString "__next__") hT F.slot_zip_next
    (wpAny_call_entry F.slot_zip_next hT F.entry_zip_next (mJ hh D hz hTI h1 hl1 hx fun h' e hk he=>?_) (F.args_zip_next_1 _))))
  obtain ⟨o,ho,hc⟩:=he
  refine wpAny_bind (wpAny_isInstance (T := "StopIteration") (b:=true) ⟨o,ho,hc⟩ n0 ?_)
  exact wpAny_pure (hQ _ hk)
end
theorem gY (a b c : Value) : checkTypeCall "zip" ⟨[a,b,c],[]⟩ = pure ():=by kernel_rfl
theorem iZ (a b c : Value) : checkBuiltinCall "zip.__new__" ⟨[.type "zip",a,b,c],[]⟩ = pure ():=by kernel_rfl
theorem jp (a b c d : Value) : argsOk "object.__init__" ⟨[a,b,c,d],[]⟩:=by
  unfold argsOk; rw [signature?_of (id := "object.__init__") (n:=['_','_','t','i','n','i','_','_']) (o:=['t','c','e','j','b','o']) (by kernel_rfl) F.owner_object]; kernel_rfl
abbrev m4 (h : Heap) (l1 : Addr) : Heap:=h.push { cls:=.type "list_iterator",data:=.fields #[.ref l1,.int 0 0] }
abbrev oy (h : Heap) (l1 l2 : Addr) : Heap:=(m4 h l1).push { cls:=.type "list_iterator",data:=.fields #[.ref l2,.int 0 0] }
abbrev nG (h : Heap) (l1 l2 l3 : Addr) : Heap:=(oy h l1 l2).push { cls:=.type "list_iterator",data:=.fields #[.ref l3,.int 0 0] }
abbrev mV (h : Heap) (l1 l2 l3 : Addr) : Heap:=(nG h l1 l2 l3).push { cls:=.type "tuple",data:=.seq #[.ref h.objs.size,.ref (m4 h l1).objs.size,.ref (oy h l1 l2).objs.size] }
abbrev oM (h : Heap) (l1 l2 l3 : Addr) : Heap:=(mV h l1 l2 l3).push { cls:=.type "tuple",data:=.seq #[.none,.none,.none] }
abbrev eJ (h : Heap) (l1 l2 l3 : Addr) : Heap:=(oM h l1 l2 l3).push { cls:=.type "zip",data:=.fields #[.none,.bool false,.bool false,.ref (nG h l1 l2 l3).objs.size,.ref (mV h l1 l2 l3).objs.size] }
theorem kS (l1 l2 l3 : Addr) (xs ys zs : Array Value) :
    Meets (Builtin.«zip.__new__» ⟨[.type "zip",.ref l1,.ref l2,.ref l3],[]⟩) (fun _ R s=>s.heap.IsList l1 xs∧s.heap.IsList l2 ys∧s.heap.IsList l3 zs ∧
      R (.ok (.ret (.ref (oM s.heap l1 l2 l3).objs.size))) { s with heap:=eJ s.heap l1 l2 l3 }) :=
  .of_wp fun prog w A R s h=>by
    obtain ⟨hp,g,d,tk,os⟩:=s; obtain ⟨hl1,hl2,hl3,h⟩:=h
    have hsub:=o4
    have hL1 : Heap.IsList (Shared.heap ⟨hp,g,d,tk,os⟩) l1 xs:=hl1
    have hL2 : Heap.IsList (Shared.heap ⟨hp.push { cls:=.type "list_iterator",data:=.fields #[.ref l1,.int 0 0] },g,d,tk,os⟩) l2 ys:=Heap.IsList.push hl2 _
    have hL3 : Heap.IsList (Shared.heap ⟨(hp.push { cls:=.type "list_iterator",data:=.fields #[.ref l1,.int 0 0] }).push { cls:=.type "list_iterator",data:=.fields #[.ref l2,.int 0 0] },g,d,tk,os⟩) l3 zs:=Heap.IsList.push (Heap.IsList.push hl3 _) _
    wp_walk using wpAny_pyIter_list hL1,wpAny_pyIter_list hL2,wpAny_pyIter_list hL3
    exact ⟨_,rfl,h⟩
section
variable {P : Program} {w : World} {A : Around} {E : Value→Shared→Prop} {s : Shared}
theorem l7 {l1 l2 l3 : Addr} {xs ys zs : Array Value} {Q : Value→Shared→Prop} (hl1 : s.heap.IsList l1 xs) (hl2 : s.heap.IsList l2 ys) (hl3 : s.heap.IsList l3 zs)
    (h : ∀ h',IsZip h' (s.heap.objs.size + 5) (s.heap.objs.size + 3) (s.heap.objs.size + 4) .none→bA h' (s.heap.objs.size + 3) (.ref s.heap.objs.size) (.ref (s.heap.objs.size + 1)) (.ref (s.heap.objs.size + 2)) →
      bA h' (s.heap.objs.size + 4) .none .none .none→h'.IsListIter s.heap.objs.size l1 0→h'.IsListIter (s.heap.objs.size + 1) l2 0→h'.IsListIter (s.heap.objs.size + 2) l3 0→h'.objs.size = s.heap.objs.size + 6 →
      (∀ c o,s.heap.get? c = some o→h'.get? c = some o)→Q (.ref (s.heap.objs.size + 5)) { s with heap:=h' }) :
    wpAny (model P w) A (call (.type "zip") [.ref l1,.ref l2,.ref l3]) Q E s:=by
  refine callType_new F.called_zip (by decide) (gY _ _ _) (iZ _ _ _) (fun obj=>jp obj _ _ _) F.entry_zip_new
    (kS l1 l2 l3 xs ys zs) ⟨hl1,hl2,hl3,?_⟩
  have z1 : (m4 s.heap l1).objs.size = s.heap.objs.size + 1:=Heap.size_push ..
  have z2 : (oy s.heap l1 l2).objs.size = s.heap.objs.size + 2:=by rw [Heap.size_push,z1]
  have z3 : (nG s.heap l1 l2 l3).objs.size = s.heap.objs.size + 3:=by rw [Heap.size_push,z2]
  have z4 : (mV s.heap l1 l2 l3).objs.size = s.heap.objs.size + 4:=by rw [Heap.size_push,z3]
  have z5 : (oM s.heap l1 l2 l3).objs.size = s.heap.objs.size + 5:=by rw [Heap.size_push,z4]
  have z6 : (eJ s.heap l1 l2 l3).objs.size = s.heap.objs.size + 6:=by rw [Heap.size_push,z5]
  have p6 : ∀ c o,(oM s.heap l1 l2 l3).get? c = some o→(eJ s.heap l1 l2 l3).get? c = some o:=fun c o e=>Heap.get?_push_of_some _ e
  have p5 : ∀ c o,(mV s.heap l1 l2 l3).get? c = some o→(eJ s.heap l1 l2 l3).get? c = some o:=fun c o e=>p6 _ _ (Heap.get?_push_of_some _ e)
  have p4 : ∀ c o,(nG s.heap l1 l2 l3).get? c = some o→(eJ s.heap l1 l2 l3).get? c = some o:=fun c o e=>p5 _ _ (Heap.get?_push_of_some _ e)
  have p3 : ∀ c o,(oy s.heap l1 l2).get? c = some o→(eJ s.heap l1 l2 l3).get? c = some o:=fun c o e=>p4 _ _ (Heap.get?_push_of_some _ e)
  have p2 : ∀ c o,(m4 s.heap l1).get? c = some o→(eJ s.heap l1 l2 l3).get? c = some o:=fun c o e=>p3 _ _ (Heap.get?_push_of_some _ e)
  have p1 : ∀ c o,s.heap.get? c = some o→(eJ s.heap l1 l2 l3).get? c = some o:=fun c o e=>p2 _ _ (Heap.get?_push_of_some _ e)
  have g6 : (eJ s.heap l1 l2 l3).get? (oM s.heap l1 l2 l3).objs.size = some _:=Heap.get?_push_size _ rfl
  have g5 : (eJ s.heap l1 l2 l3).get? (mV s.heap l1 l2 l3).objs.size = some _:=p6 _ _ (Heap.get?_push_size _ rfl)
  have g4 : (eJ s.heap l1 l2 l3).get? (nG s.heap l1 l2 l3).objs.size = some _:=p5 _ _ (Heap.get?_push_size _ rfl)
  have g3 : (eJ s.heap l1 l2 l3).get? (oy s.heap l1 l2).objs.size = some _:=p4 _ _ (Heap.get?_push_size _ rfl)
  have g2 : (eJ s.heap l1 l2 l3).get? (m4 s.heap l1).objs.size = some _:=p3 _ _ (Heap.get?_push_size _ rfl)
  have g1 : (eJ s.heap l1 l2 l3).get? s.heap.objs.size = some _:=p2 _ _ (Heap.get?_push_size _ rfl)
  show _∧_
  rw [z3,z4,z5] at g6
  rw [z4] at g5
  rw [z1,z2,z3] at g4
  rw [z2] at g3
  rw [z1] at g2
  rw [z5]
  exact ⟨⟨_,g6,rfl⟩,h _ g6 g4 g5 ⟨_,g1,rfl,rfl⟩ ⟨_,g2,rfl,rfl⟩ ⟨_,g3,rfl,rfl⟩ z6 p1⟩
end
def mW (K : PySem.W.Frag) (a b d : Addr) : It :=
  ⟨fun i H=>∃ xs ys zs x y u,SqL K H a xs∧SqL K H b ys∧SqL K H d zs∧xs[i]? = some x∧ys[i]? = some y∧zs[i]? = some u,
   fun i H v H'=>∃ T x y u,v = .ref T∧H T = none∧(∀ xs,SqL K H a xs→xs[i]? = some x)∧(∀ ys,SqL K H b ys→ys[i]? = some y)∧(∀ zs,SqL K H d zs→zs[i]? = some u)∧H' = upd H T (.tup [x,y,u]),
   fun i H=>∃ xs,SqL K H a xs∧xs.length ≤ i⟩
structure ZTurn3 (a b d z TI TO i1 i2 i3 : Addr) (i : Nat) (h : Heap) : Prop where
  zz : IsZip h z TI TO .none
  ti : bA h TI (.ref i1) (.ref i2) (.ref i3)
  to : ∃ p q r,bA h TO p q r
  s1 : h.IsListIter i1 a i
  s2 : h.IsListIter i2 b i
  s3 : h.IsListIter i3 d i
theorem l8 {P : Program} {w : World} {K : PySem.W.Frag} {elts : List Expr} {k : Nat} {pos : Pos} (a b d z TI TO i1 i2 i3 : Addr) (ap : Ap3 z TI TO i1 i2 i3 a b d) : Turn P w K (.Tuple elts k pos) (mW K a b d) [z,TI,TO,i1,i2,i3] z (ZTurn3 a b d z TI TO i1 i2 i3) where
  mem:=by simp
  obj:=fun i h st c hc=>by
    obtain ⟨zz,ti,⟨p,q,r,to⟩,⟨o1,e1,c1,d1⟩,⟨o2,e2,c2,d2⟩,⟨o3,e3,c3,d3⟩⟩:=st
    simp only [List.mem_cons,List.not_mem_nil,or_false] at hc
    rcases hc with rfl | rfl | rfl | rfl | rfl | rfl
    · exact ⟨_,zz,fun v z=>by cases z⟩
    · exact ⟨_,ti,fun v z=>by cases z⟩
    · exact ⟨_,to,fun v z=>by cases z⟩
    · exact ⟨o1,e1,fun v z=>by rw [d1] at z; cases z⟩
    · exact ⟨o2,e2,fun v z=>by rw [d2] at z; cases z⟩
    · exact ⟨o3,e3,fun v z=>by rw [d3] at z; cases z⟩
  keep:=fun i h h' st k=>by
    obtain ⟨zz,ti,⟨p,q,r,to⟩,s1,s2,s3⟩:=st
    exact ⟨k z (by simp) _ zz,k TI (by simp) _ ti,⟨p,q,r,k TO (by simp) _ to⟩,s1.at fun o q=>k i1 (by simp) o q,s2.at fun o q=>k i2 (by simp) o q,s3.at fun o q=>k i3 (by simp) o q⟩
  item:=by
    intro X hP hw hK hc i pins s σ H E I hf st hg
    subst hP hw hK
    obtain ⟨xs,ys,zs,x,y,u,hq,hq2,hq3,hx,hy,hu⟩:=hg
    obtain ⟨its,rv,p,hz⟩:=I.list hq
    obtain ⟨its2,rv2,p2,hz2⟩:=I.list hq2
    obtain ⟨its3,rv3,p3,hz3⟩:=I.list hq3
    obtain ⟨u1,hu1,ru1⟩:=rv.get hx
    obtain ⟨u2,hu2,ru2⟩:=rv2.get hy
    obtain ⟨u3,hu3,ru3⟩:=rv3.get hu
    obtain ⟨zz,ti,⟨pp,qq,rr,to⟩,s1,s2,s3⟩:=st
    have lz : z < s.heap.objs.size:=Heap.lt_size zz
    refine mD ap zz ti to s1 s2 s3 p.isList p2.isList p3.isList (x:=u1) (y:=u2) (u:=u3) (by simpa using hu1) (by simpa using hu2) (by simpa using hu3) fun h' zo to' s1' s2' s3' ht hsz kp=>?_
    refine ⟨_,rfl,wpAny_letOwnedTupleGo_zip zo fun h2 zz2 sb=>?_⟩
    have I1 : Inv X pins σ H { s with heap:=h2 }:=I.turnedL (t':=s.toks) (ch:=[z,TI,TO,i1,i2,i3]) hf fun c o hc q=>by
      simp only [List.mem_cons,List.not_mem_nil,or_false,not_or] at hc
      exact (sb.2 c hc.1).trans (kp c o ⟨hc.1,hc.2.2.1,hc.2.2.2.1,hc.2.2.2.2.1,hc.2.2.2.2.2⟩ q)
    have hT : h2.get? s.heap.objs.size = some { cls:=.type "tuple",data:=.seq #[u1,u2,u3] }:=(sb.2 _ (Nat.ne_of_gt lz)).trans ht
    have hfr : H s.heap.objs.size = none:=I.hok.fresh (Nat.le_refl _)
    have I2:=I1.adopt (o:=.tup [x,y,u]) (I.fpOk (Nat.le_refl _) hfr) ⟨(by show 3 ≤ sizeLine; decide),[u1,u2,u3],.cons ru1 (.cons ru2 (.cons ru3 .nil)),⟨_,hT,rfl,_,rfl⟩⟩
    have hti : bA h2 TI (.ref i1) (.ref i2) (.ref i3):=(sb.2 TI ap.TI.1).trans (kp TI _ ap.TI ti)
    refine ⟨.ref s.heap.objs.size,_,I2,rfl,⟨_,x,y,u,rfl,hfr,(fun zs hzs=>by rw [I.list_inj hzs hq]; exact hx),(fun zs hzs=>by rw [I.list_inj hzs hq2]; exact hy),(fun zs hzs=>by rw [I.list_inj hzs hq3]; exact hu),rfl⟩,
      ⟨zz2,hti,⟨u1,u2,u3,(sb.2 TO ap.TOz).trans to'⟩,s1'.at fun o q=>(sb.2 i1 ap.i1z).trans q,s2'.at fun o q=>(sb.2 i2 ap.i2z).trans q,s3'.at fun o q=>(sb.2 i3 ap.i3z).trans q⟩,fun c hc=>?_⟩
    rw [aq (fun e=>?_)]
    · exact (hf c hc).1
    · subst e
      obtain ⟨o1,e1,_⟩:=s1
      obtain ⟨o2,e2,_⟩:=s2
      obtain ⟨o3,e3,_⟩:=s3
      simp only [List.mem_cons,List.not_mem_nil,or_false] at hc
      rcases hc with h | h | h | h | h | h
      · exact absurd h (Nat.ne_of_gt lz)
      · exact absurd h (Nat.ne_of_gt (Heap.lt_size ti))
      · exact absurd h (Nat.ne_of_gt (Heap.lt_size to))
      · exact absurd h (Nat.ne_of_gt (Heap.lt_size e1))
      · exact absurd h (Nat.ne_of_gt (Heap.lt_size e2))
      · exact absurd h (Nat.ne_of_gt (Heap.lt_size e3))
  done:=by
    intro X hP hw hK hc i pins s σ H E I hf st hg
    subst hP hw hK
    obtain ⟨xs,hq,hx⟩:=hg
    obtain ⟨its,rv,p,hz⟩:=I.list hq
    have hl:=rv.length
    obtain ⟨zz,ti,⟨pp,qq,rr,to⟩,s1,s2,s3⟩:=st
    refine m9 (I.ok.hd hc) ap zz ti s1 p.isList ?_ fun h' kp=>⟨rfl,?_⟩
    · simp; (clear hc hf hz; omega)
    · exact I.turnedL (t':=s.toks) (ch:=[z,TI,TO,i1,i2,i3]) hf fun c o hc q=>by
        simp only [List.mem_cons,List.not_mem_nil,or_false,not_or] at hc
        exact kp c o ⟨hc.1,hc.2.2.1,hc.2.2.2.1,hc.2.2.2.2.1,hc.2.2.2.2.2⟩ q
  self:=fun _ _ _ _ _ st h=>wpAny_pyIter_zip st.zz h
theorem pO (n a b d : Nat) (la : a < n) (lb : b < n) (ld : d < n) : Ap3 (n + 5) (n + 3) (n + 4) n (n + 1) (n + 2) a b d:=by
  have ne : ∀ p q : Nat,p < q ∨ q < p→(p : Addr) ≠ q:=fun p q h e=>by have e : p = q:=e; omega
  constructor
  case TI=>exact ⟨ne _ _ (by omega),ne _ _ (by omega),ne _ _ (by omega),ne _ _ (by omega),ne _ _ (by omega)⟩
  case l1=>exact ⟨ne _ _ (by omega),ne _ _ (by omega),ne _ _ (by omega),ne _ _ (by omega),ne _ _ (by omega)⟩
  case l2=>exact ⟨ne _ _ (by omega),ne _ _ (by omega),ne _ _ (by omega),ne _ _ (by omega),ne _ _ (by omega)⟩
  case l3=>exact ⟨ne _ _ (by omega),ne _ _ (by omega),ne _ _ (by omega),ne _ _ (by omega),ne _ _ (by omega)⟩
  all_goals exact ne _ _ (by omega)
def tF (K : PySem.W.Frag) (ta : TA) : TI:=fun σ H R=>ta σ H fun vs H1=>∃ a b d,vs = [.ref a,.ref b,.ref d]∧(∃ xs,SqL K H1 a xs)∧(∃ ys,SqL K H1 b ys)∧(∃ zs,SqL K H1 d zs)∧R (mW K a b d) H1
theorem o9 {X : Cx} {K : PySem.W.Frag} {elts : List Expr} {k : Nat} {tpos : Pos} {l l2 l3 : Expr} {ta : TA} {p pos : Pos} (hK : X.K = K) (hg : Gl X "zip") (hm : X.mg "zip" = none) (ha : PA X [l,l2,l3] ta) (hs : starEach [l,l2,l3] X.env = (false,eval l X.env) :: starEach [l2,l3] X.env:=by rfl)
    (hs2 : (backTo pos (starEach [l2,l3] X.env)).any (·.1) = false:=by rfl) :
    PI X (.Tuple elts k tpos) (.Call (.Name "zip" p) [l,l2,l3] [] pos) (tF K ta):=by
  subst hK
  intro pins s σ H R I h
  refine Call_ (cx I hg hm PyProof.Rows.boot_zip (PyProof.Rows.callWith_type1 (thn (ha pos pins s σ H _ I h) fun us s1 hm0=>?_) hs hs2))
  obtain ⟨vs,H1,I1,r1,q1⟩:=hm0
  obtain ⟨a,b,d,rfl,⟨xs,hq⟩,⟨ys,hq2⟩,⟨zs,hq3⟩,q⟩:=q1
  cases r1 with
  | cons ra rr =>
    cases ra
    cases rr with
    | cons rb rr =>
      cases rb
      obtain ⟨u,rfl,ru⟩:=dC rr
      cases ru
      obtain ⟨its,rv,p,hz⟩:=I1.list hq
      obtain ⟨its2,rv2,p2,hz2⟩:=I1.list hq2
      obtain ⟨its3,rv3,p3,hz3⟩:=I1.list hq3
      have la : a < s1.heap.objs.size:=by obtain ⟨o,e,_⟩:=p.isList; exact Heap.lt_size e
      have lb : b < s1.heap.objs.size:=by obtain ⟨o,e,_⟩:=p2.isList; exact Heap.lt_size e
      have ld : d < s1.heap.objs.size:=by obtain ⟨o,e,_⟩:=p3.isList; exact Heap.lt_size e
      refine l7 p.isList p2.isList p3.isList fun h' zz ti to i1 i2 i3 hsz kp=>?_
      refine wpAny_pyIter_zip zz ?_
      refine ⟨s1.heap.objs.size + 5,[s1.heap.objs.size + 5,s1.heap.objs.size + 3,s1.heap.objs.size + 4,s1.heap.objs.size,s1.heap.objs.size + 1,s1.heap.objs.size + 2],_,_,H1,rfl,I1.kept (t':=s1.toks) kp,l8 a b d _ _ _ _ _ _ (pO _ a b d la lb ld),⟨zz,ti,⟨_,_,_,to⟩,i1,i2,i3⟩,fun c hc=>?_,q⟩
      have hc' : s1.heap.objs.size ≤ c:=by
        simp only [List.mem_cons,List.not_mem_nil,or_false] at hc
        rcases hc with rfl | rfl | rfl | rfl | rfl | rfl
        · exact Nat.le_add_right _ _
        · exact Nat.le_add_right _ _
        · exact Nat.le_add_right _ _
        · exact Nat.le_refl _
        · exact Nat.le_add_right _ _
        · exact Nat.le_add_right _ _
      exact I1.fpOk hc' (I1.hok.fresh hc')
theorem mZ {K : PySem.W.Frag} {a b d : Addr} {xs ys zs : List V} {g : TG} {tb : TS} {D : Ends} {σ : St} {H : Hp} (hlen : xs.length = ys.length) (hlen2 : xs.length = zs.length) (Pv : Nat→St→Hp→Prop) (h0 : Pv 0 σ H) (hl : ∀ i σ H,i ≤ xs.length→Pv i σ H→SqL K H a xs∧SqL K H b ys∧SqL K H d zs)
    (hs : ∀ i x y z σ H T,xs[i]? = some x→ys[i]? = some y→zs[i]? = some z→Pv i σ H→H T = none→g (.ref T) σ (upd H T (.tup [x,y,z])) fun σ2 H2=>tb { D with nx:=Pv (i + 1),ct:=Pv (i + 1),bk:=D.nx } σ2 H2) (hd : ∀ σ H,Pv xs.length σ H→D.nx σ H) :
    ∃ W : Nat→Nat→St→Hp→Prop,(∃ m,W 0 m σ H)∧∀ i m σ H,W i m σ H →
      ((mW K a b d).stop i H∧D.nx σ H) ∨ ((mW K a b d).go i H∧∃ N : St→Hp→Prop,(∀ σ' H',N σ' H'→∃ m',m' < m∧W (i + 1) m' σ' H')∧∀ x H',(mW K a b d).yld i H x H'→g x σ H' fun σ2 H2=>tb { D with nx:=N,ct:=N,bk:=D.nx } σ2 H2):=by
  refine ⟨fun i m σ H=>m = xs.length - i∧i ≤ xs.length∧Pv i σ H,⟨xs.length,by simp,Nat.zero_le _,h0⟩,?_⟩
  rintro i m σ H ⟨rfl,hi,p⟩
  obtain ⟨q,q2,q3⟩:=hl i σ H hi p
  by_cases hlt : i < xs.length
  · refine .inr ⟨⟨xs,ys,zs,xs[i],ys[i]'(by omega),zs[i]'(by omega),q,q2,q3,by simp [hlt],by simp,by simp⟩,Pv (i + 1),fun σ' H' p'=>⟨xs.length - (i + 1),by (clear hlen hlen2 hl hs hd hi; omega),rfl,hlt,p'⟩,fun x H' y=>?_⟩
    obtain ⟨T,u,v,t,rfl,hT,e1,e2,e3,rfl⟩:=y
    exact hs i u v t σ _ T (e1 xs q) (e2 ys q2) (e3 zs q3) p hT
  · have e : i = xs.length:=by (clear hlen hlen2 hl hs hd; omega)
    subst e
    exact .inl ⟨⟨xs,q,Nat.le_refl _⟩,hd σ H p⟩
end L2
namespace Law
open PySem L2
theorem dP {R : Int→Wy→Prop} : ∀ {x y z : Int} {a b : List Wy},WkR R x a y→WkR R y b z→WkR R x (a ++ b) z
  | _,_,_,[],_,h,h2=>by
    have h : _ = _:=h
    subst h; exact h2
  | _,_,_,_ :: _,_,h,h2=>⟨h.1,dP h.2 h2⟩
theorem dN {R R2 : Int→Wy→Prop} (hi : ∀ x w,R x w→R2 x w) : ∀ {x y : Int} {s : List Wy},WkR R x s y→WkR R2 x s y
  | _,_,[],h=>h
  | _,_,_ :: _,h=>⟨hi _ _ h.1,dN hi h.2⟩
theorem lP {T : Tb} (hpos : ∀ x v,T x = some v→0 ≤ v) : ∀ {x y g v : Int} {s : List Wy},WkR (fun x w=>leO (ao T w) (T x)∧T x ≠ none) x s y→T x = some v→v ≤ g→OkS g s
  | x,_,g,v,[],_,e,hg=>fun i hi=>by
    have : i = 0:=by simpa using hi
    subst this
    have:=hpos x v e
    rw [List.take_zero,bq]; omega
  | x,y,g,v,w :: s,h,e,hg=>fun i hi=>by
    cases i with
    | zero =>
      have:=hpos x v e
      rw [List.take_zero,bq]; omega
    | succ i =>
      obtain ⟨v',e',h'⟩:=dO h.1.1 e hg
      have:=lP hpos (g:=g + w.2) h.2 e' h' i (by simpa using hi)
      rw [List.take_succ_cons,br]; omega
theorem dv {W : Lf} {n : Nat} {T T' : Tb} (hin : InW W n) (N : Nds W n T') (hpos : ∀ x v,T x = some v→0 ≤ v) (h : ∀ x,0 ≤ x→x < (n : Int)→T x ≠ none→∃ w ∈ aV W x,leO (ao T w) (T x)) {x : Int} (x0 : 0 ≤ x) (x1 : x < (n : Int)) : leO (T' x) (T x):=by
  cases e : T x with
  | none=>cases T' x <;> exact trivial
  | some v =>
    let R0 : Int→Wy→Prop:=fun y w=>w ∈ aV W y∧leO (ao T w) (T y)∧T y ≠ none
    let B : Int→Prop:=fun y=>((0 ≤ y∧y < (n : Int))∧T y ≠ none)∧∃ p,WkR R0 x p y
    let R : Int→Wy→Prop:=fun y w=>B y∧R0 y w
    have nx : ∀ y w,R y w→B w.1:=fun y w hR=>by
      obtain ⟨⟨⟨⟨y0,y1⟩,yn⟩,p,hp⟩,hw,hle,hn⟩:=hR
      cases ey : T y with
      | none=>exact absurd ey yn
      | some u =>
        obtain ⟨u',e',_⟩:=dO hle ey (Int.le_refl u)
        exact ⟨⟨hin y w hw,by rw [e']; simp⟩,p ++ [w],dP hp ⟨⟨hw,hle,hn⟩,rfl⟩⟩
    obtain ⟨y,s,hs,hw,hB⟩:=lv (R:=R) (n:=n) (B:=B) (fun y hy=>hy.1.1) (fun y hy=>by
      obtain ⟨w,hw,hle⟩:=h y hy.1.1.1 hy.1.1.2 hy.1.2
      have hR : R y w:=⟨hy,hw,hle,hy.1.2⟩
      exact ⟨w,hR,nx y w hR⟩) nx (x:=x) ⟨⟨⟨x0,x1⟩,by rw [e]; simp⟩,[],rfl⟩
    have hw0 : WkR R0 y s y:=dN (fun _ _ q=>q.2) hw
    have hsum:=iP (T:=T) (y:=y) (s:=s) (dN (fun _ _ q=>q.2) hw0)
    obtain ⟨u,hu,hz⟩:=N.ring y s hs (hw0.wk fun _ _ q=>q.1) hsum
    obtain ⟨a,b,rfl⟩:=List.append_of_mem hu
    obtain ⟨t,k1,k2⟩:=hw0.split
    obtain ⟨p,hp⟩:=hB.2
    have walk : WkR R0 x (p ++ (a ++ [u])) u.1:=dP hp (dP k1 ⟨k2.1,rfl⟩)
    exact fw hin N.pos N.low hz x0 x1 (walk.wk fun _ _ q=>q.1) (lP hpos (dN (fun _ _ q=>q.2) walk) e (Int.le_refl v))
theorem mw {p : Nat→Prop} : ∀ {k : Nat},p k→∃ m,p m∧∀ j,p j→m ≤ j:=fun {k}=>by
  induction k using Nat.strongRecOn with
  | ind k ih =>
    intro h
    by_cases c : ∃ j,j < k∧p j
    · obtain ⟨j,hj,pj⟩:=c
      exact ih j hj pj
    · exact ⟨k,h,fun j pj=>Nat.le_of_not_lt fun z=>c ⟨j,z,pj⟩⟩
theorem rC {W : Lf} {n : Nat} (hin : InW W n) : ∃ T,Nds W n T:=by
  let Z : Int→Prop:=fun z=>(0 ≤ z∧z < (n : Int))∧∃ r,Rg W z r
  let pr : Int→Nat→Prop:=fun x k=>∃ s z,Wk W x s z∧Z z∧cst s = (k : Int)
  have tx : ∀ x,∃ o : Option Int,(∀ v,o = some v→∃ k : Nat,v = (k : Int)∧pr x k∧∀ j,pr x j→k ≤ j)∧(o = none→∀ k,¬ pr x k):=fun x=>by
    by_cases c : ∃ k,pr x k
    · obtain ⟨k,hk⟩:=c
      obtain ⟨m,hm,hl⟩:=mw hk
      exact ⟨some (m : Int),fun v e=>⟨m,by cases e; rfl,hm,hl⟩,fun z=>by cases z⟩
    · exact ⟨none,(fun v e=>by cases e),fun _ k hk=>c ⟨k,hk⟩⟩
  obtain ⟨T,hT⟩ : ∃ T : Tb,∀ x,(∀ v,T x = some v→∃ k : Nat,v = (k : Int)∧pr x k∧∀ j,pr x j→k ≤ j)∧(T x = none→∀ k,¬ pr x k):=⟨fun x=>Classical.choose (tx x),fun x=>Classical.choose_spec (tx x)⟩
  have le_of : ∀ x s z,Wk W x s z→Z z→leO (T x) (some (cst s)):=fun x s z hw hz=>by
    have hk : pr x (cst s).toNat:=⟨s,z,hw,hz,by have:=fK s; omega⟩
    cases e : T x with
    | none=>exact ((hT x).2 e _ hk).elim
    | some v =>
      obtain ⟨k,rfl,_,hl⟩:=(hT x).1 v e
      have:=hl _ hk
      have:=fK s
      show (k : Int) ≤ cst s
      omega
  refine ⟨T,ow (Z:=Z) hin (gJ hin fun z z0 z1 ⟨r,hr,_⟩=>⟨⟨z0,z1⟩,r,hr⟩) (fun z hz=>⟨hz.1.1,hz.1.2,hz.2.choose,hz.2.choose_spec.1,hz.2.choose_spec.2.1,hz.2.choose_spec.2.2⟩) ⟨fun x v e=>?_,fun x hx=>?_,fun x v e=>?_,fun x v e=>?_⟩ fun x s z _ _ hw hz _=>le_of x s z hw hz⟩
  · obtain ⟨k,rfl,_⟩:=(hT x).1 v e
    omega
  · have:=le_of x [] x rfl hx
    cases e : T x with
    | none=>rw [e] at this; exact this.elim
    | some v =>
      obtain ⟨k,rfl,_⟩:=(hT x).1 v e
      rw [e] at this
      have this : (k : Int) ≤ cst []:=this
      have : cst [] = 0:=rfl
      congr 1; omega
  · obtain ⟨k,rfl,⟨s,z,h1,h2,h3⟩,_⟩:=(hT x).1 v e
    exact ⟨s,z,h1,h2,by omega⟩
  · obtain ⟨k,rfl,⟨s,z,h1,h2,h3⟩,_⟩:=(hT x).1 v e
    cases s with
    | nil =>
      have h1 : x = z:=h1
      rw [h1]; exact .inl h2
    | cons w s =>
      refine .inr ⟨w,h1.1,?_⟩
      have h4:=le_of w.1 s z h1.2 h2
      have h5 : cst (w :: s) = max (cst s - w.2) 0:=rfl
      cases e2 : T w.1 with
      | none=>rw [e2] at h4; exact h4.elim
      | some u =>
        rw [e2] at h4
        have h4 : u ≤ cst s:=h4
        unfold ao
        rw [e2]
        show max (u - w.2) 0 ≤ (k : Int)
        omega
theorem b6 {P : List ak} {p q : List (Option Int)} {i : Nat} (h : p[i]? = q[i]?) : aV (av P p) (i : Int) = aV (av P q) (i : Int):=by
  unfold aV av
  rw [show ((i : Int)).toNat = i from rfl,List.getElem?_zipWith,List.getElem?_zipWith,h]
def Mix (n : Nat) (r r' p : List (Option Int)) : Prop:=p.length = n∧∀ i : Nat,p[i]? = r[i]? ∨ p[i]? = r'[i]?
section
variable {P : List ak} {r r' : List (Option Int)} {T : Tb}
theorem Mix.rl (h : RlP P r) (b : Btr P r T r') {p : List (Option Int)} (m : Mix P.length r r' p) : RlP P p:=⟨m.1,fun i row hr=>by
  rcases m.2 i with e | e
  · rw [e]; exact h.2 i row hr
  · rw [e]; exact b.rule.2 i row hr⟩
theorem oE (g : GPk P) (h : RlP P r) (N : Nds (av P r) P.length T) (b : Btr P r T r') {i : Nat} (il : i < P.length) (ne : r'[i]? ≠ r[i]?) : ∃ row own most,P[i]? = some row∧own ∈ row.2∧most ∈ row.2∧r[i]? = some (some own.1)∧r'[i]? = some (some most.1)∧¬ leO (ao T most) (T (i : Int)):=by
  have hr:=List.getElem?_eq_getElem il
  generalize P[i] = row at hr
  by_cases c : row.1 = 1
  · obtain ⟨own,most,h1,h2,h3,_,h5⟩:=(b.2 i row hr).2 c
    rcases h5 with ⟨_,e⟩ | ⟨nl,e⟩
    · exact absurd (e.trans h3.symm) ne
    · exact ⟨row,own,most,hr,h1,h2,h3,e,by rw [dz g N hr h1 h3]; exact nl⟩
  · exact absurd (((b.2 i row hr).1 c).trans ((h.2 i row hr).1 c).symm) ne
theorem Mix.up (g : GPk P) (h : RlP P r) (N : Nds (av P r) P.length T) (b : Btr P r T r') {p : List (Option Int)} (m : Mix P.length r r' p) {Tp : Tb} (Np : Nds (av P p) P.length Tp) : (∀ x,0 ≤ x→x < (P.length : Int)→leO (T x) (Tp x))∧∀ i : Nat,i < P.length→p[i]? ≠ r[i]?→¬ leO (Tp (i : Int)) (T (i : Int)):=by
  have rlp:=m.rl h b
  have up:=cB (b9 g rlp) N Np fun x x0 x1 w hw=>by
    obtain ⟨i,rfl⟩ : ∃ i : Nat,x = (i : Int):=⟨x.toNat,by omega⟩
    rcases m.2 i with e | e
    · rw [b6 e] at hw; exact .inl hw
    · rw [b6 e] at hw; exact b.ways g h N _ x0 x1 w hw
  refine ⟨up,fun i il ne=>?_⟩
  have e : p[i]? = r'[i]?:=(m.2 i).resolve_left ne
  obtain ⟨row,own,most,hr,_,hm,_,h5,nl⟩:=oE g h N b il (by rw [← e]; exact ne)
  exact lK (W:=av P r) (b9 g rlp) Np up (by omega) (by omega) (aP g hr hm (by rw [e]; exact h5)) nl
def dfN (r p : List (Option Int)) (n : Nat) : Nat:=((List.range n).filter fun i=>decide (p[i]? ≠ r[i]?)).length
theorem fZ {f g : Nat→Bool} {i : Nat} : ∀ {l : List Nat},l.Nodup→i ∈ l→f i = true→g i = false→(∀ j,j ≠ i→g j = f j)→(l.filter f).length = (l.filter g).length + 1
  | [],_,hi,_,_,_=>by cases hi
  | a :: l,nd,hi,hf,hg,he=>by
    have nd':=(List.nodup_cons.mp nd).2
    have na:=(List.nodup_cons.mp nd).1
    by_cases c : a = i
    · subst c
      rw [List.filter_cons_of_pos hf,List.filter_cons_of_neg (by rw [hg]; simp)]
      have : l.filter f = l.filter g:=List.filter_congr fun j hj=>(he j fun z=>na (z ▸ hj)).symm
      rw [List.length_cons,this]
    · have hi' : i ∈ l:=by
        rcases List.mem_cons.mp hi with z | z
        · exact absurd z.symm c
        · exact z
      have ih:=fZ nd' hi' hf hg he
      have e:=he a c
      cases ef : f a with
      | true=>rw [List.filter_cons_of_pos ef,List.filter_cons_of_pos (by rw [e]; exact ef),List.length_cons,List.length_cons,ih]
      | false=>rw [List.filter_cons_of_neg (by rw [ef]; simp),List.filter_cons_of_neg (by rw [e,ef]; simp),ih]
theorem Mix.down (g : GPk P) (h : RlP P r) (N : Nds (av P r) P.length T) (b : Btr P r T r') {p : List (Option Int)} (m : Mix P.length r r' p) {Tp : Tb} (Np : Nds (av P p) P.length Tp) (hd : dfN r p P.length ≠ 0) : ∃ q Tq,Mix P.length r r' q∧dfN r p P.length = dfN r q P.length + 1∧Nds (av P q) P.length Tq∧∀ x,0 ≤ x→x < (P.length : Int)→leO (Tq x) (Tp x):=by
  obtain ⟨up1,up2⟩:=m.up g h N b Np
  have ⟨i0,hi0,ne0⟩ : ∃ i,i < P.length∧p[i]? ≠ r[i]?:=Classical.byContradiction fun z=>hd (by
    unfold dfN
    rw [List.length_eq_zero_iff,List.filter_eq_nil_iff]
    intro a ha
    have al:=List.mem_range.mp ha
    simp only [decide_eq_true_eq]
    exact fun y=>z ⟨a,al,y⟩)
  have ⟨i,il,ne,row,own,hr,ho,hri,hle⟩ : ∃ i,i < P.length∧p[i]? ≠ r[i]?∧∃ row own,P[i]? = some row∧own ∈ row.2∧r[i]? = some (some own.1)∧leO (ao Tp own) (Tp (i : Int)):=Classical.byContradiction fun z=>by
    have low:=cB (b9 g h) Np N fun x x0 x1 w hw=>by
      obtain ⟨i,rfl⟩ : ∃ i : Nat,x = (i : Int):=⟨x.toNat,by omega⟩
      by_cases c : p[i]? = r[i]?
      · rw [b6 c.symm] at hw; exact .inl hw
      · have e : p[i]? = r'[i]?:=(m.2 i).resolve_left c
        obtain ⟨row,own,most,hr,ho,_,h4,_,_⟩:=oE g h N b (show i < P.length by omega) (by rw [← e]; exact c)
        rw [aP g hr ho h4] at hw
        rw [List.mem_singleton.mp hw]
        exact .inr fun y=>z ⟨i,by omega,c,row,own,hr,ho,h4,y⟩
    exact up2 i0 hi0 ne0 (low _ (by omega) (by omega))
  have pl : i < p.length:=by rw [m.1]; exact il
  have seti : (p.set i (some own.1))[i]? = r[i]?:=by rw [List.getElem?_set_self pl,hri]
  have seto : ∀ j,j ≠ i→(p.set i (some own.1))[j]? = p[j]?:=fun j hj=>List.getElem?_set_ne (Ne.symm hj)
  have mq : Mix P.length r r' (p.set i (some own.1)):=⟨by rw [List.length_set]; exact m.1,fun j=>by
    by_cases c : j = i
    · rw [c]; exact .inl seti
    · rw [seto j c]; exact m.2 j⟩
  have rlq:=mq.rl h b
  obtain ⟨Tq,Nq⟩:=rC (b9 g rlq)
  refine ⟨p.set i (some own.1),Tq,mq,?_,Nq,fun x x0 x1=>dv (b9 g rlq) Nq Np.pos (fun y y0 y1 yn=>?_) x0 x1⟩
  · unfold dfN
    refine fZ List.nodup_range (List.mem_range.mpr il) (decide_eq_true ne) (decide_eq_false fun z=>z seti) fun j hj=>?_
    rw [seto j hj]
  · obtain ⟨j,rfl⟩ : ∃ j : Nat,y = (j : Int):=⟨y.toNat,by omega⟩
    by_cases c : j = i
    · subst c
      exact ⟨own,by rw [b6 seti,aP g hr ho hri]; exact List.mem_singleton.mpr rfl,hle⟩
    · cases e : Tp (j : Int) with
      | none=>exact absurd e yn
      | some v =>
        obtain ⟨w,hw,hl⟩:=Np.way _ v y0 y1 e
        exact ⟨w,by rw [b6 (seto j c)]; exact hw,hl⟩
theorem Mix.chain (g : GPk P) (h : RlP P r) (N : Nds (av P r) P.length T) (b : Btr P r T r') : ∀ (d : Nat) {p : List (Option Int)} {Tp : Tb},Mix P.length r r' p→Nds (av P p) P.length Tp→dfN r p P.length = d→∃ D : List (List (Option Int)),D.length = d∧D.Nodup∧∀ q ∈ D,dfN r q P.length ≤ d∧RlP P q∧∃ Tq,Nds (av P q) P.length Tq∧(∀ x,0 ≤ x→x < (P.length : Int)→leO (Tq x) (Tp x))∧∃ x,0 ≤ x∧x < (P.length : Int)∧¬ leO (Tq x) (T x)
  | 0,_,_,_,_,_=>⟨[],rfl,List.nodup_nil,fun _ z=>by cases z⟩
  | d + 1,p,Tp,m,Np,hd=>by
    obtain ⟨q,Tq,mq,e,Nq,hle⟩:=m.down g h N b Np (by omega)
    obtain ⟨D,h1,h2,h3⟩:=Mix.chain g h N b d mq Nq (by omega)
    have ⟨i0,hi0,ne0⟩ : ∃ i,i < P.length∧p[i]? ≠ r[i]?:=Classical.byContradiction fun z=>by
      have : dfN r p P.length = 0:=by
        unfold dfN
        rw [List.length_eq_zero_iff,List.filter_eq_nil_iff]
        intro a ha
        have al:=List.mem_range.mp ha
        simp only [decide_eq_true_eq]
        exact fun y=>z ⟨a,al,y⟩
      omega
    refine ⟨p :: D,by rw [List.length_cons,h1],List.nodup_cons.mpr ⟨fun z=>by have:=(h3 p z).1; omega,h2⟩,fun u hu=>?_⟩
    rcases List.mem_cons.mp hu with z | z
    · rw [z]
      exact ⟨by omega,m.rl h b,Tp,Np,fun x _ _=>leO.refl _,i0,by omega,by omega,(m.up g h N b Np).2 i0 hi0 ne0⟩
    · obtain ⟨k1,k2,Tu,k3,k4,k5⟩:=h3 u z
      exact ⟨by omega,k2,Tu,k3,fun x x0 x1=>(k4 x x0 x1).trans (hle x x0 x1),k5⟩
end
abbrev Stp:=List (Option Int) × Tb × List (Option Int)
inductive ChU (P : List ak) : List Stp→List (Option Int)→Tb→Prop
  | start {r : List (Option Int)} {T : Tb} : RlP P r→Nds (av P r) P.length T→ChU P [] r T
  | next {S : List Stp} {r r' : List (Option Int)} {T T' : Tb} : ChU P S r T→Btr P r T r'→r' ≠ r→Nds (av P r') P.length T'→ChU P ((r,T,r') :: S) r' T'
def leT (n : Nat) (A B : Tb) : Prop:=∀ x,0 ≤ x→x < (n : Int)→leO (A x) (B x)
section
variable {P : List ak}
theorem ChU.rl {S : List Stp} {r : List (Option Int)} {T : Tb} (h : ChU P S r T) : RlP P r:=by
  cases h with
  | start h _=>exact h
  | next _ b _ _=>exact b.rule
theorem ChU.nds {S : List Stp} {r : List (Option Int)} {T : Tb} (h : ChU P S r T) : Nds (av P r) P.length T:=by
  cases h with
  | start _ h=>exact h
  | next _ _ _ h=>exact h
theorem ChU.past (g : GPk P) {S : List Stp} {r : List (Option Int)} {T : Tb} (h : ChU P S r T) : ∀ e ∈ S,RlP P e.1∧Nds (av P e.1) P.length e.2.1∧Btr P e.1 e.2.1 e.2.2∧∃ T',leT P.length T' T∧∃ x,0 ≤ x∧x < (P.length : Int)∧¬ leO (T' x) (e.2.1 x):=by
  induction h with
  | start _ _=>exact fun _ z=>by cases z
  | next c b ne N' ih =>
    obtain ⟨hb,hm⟩:=b.more g c.rl c.nds N' ne
    intro e he
    rcases List.mem_cons.mp he with z | z
    · rw [z]
      exact ⟨c.rl,c.nds,b,_,fun x _ _=>leO.refl _,hm⟩
    · obtain ⟨h1,h2,h3,T0,h4,h5⟩:=ih e z
      exact ⟨h1,h2,h3,T0,fun x x0 x1=>(h4 x x0 x1).trans (hb x x0 x1),h5⟩
def js (n : Nat) (S : List Stp) : Nat:=(S.map fun e=>dfN e.1 e.2.2 n).sum
theorem ChU.passed (g : GPk P) {S : List Stp} {r : List (Option Int)} {T : Tb} (h : ChU P S r T) : ∃ D : List (List (Option Int)),D.length = js P.length S∧D.Nodup∧∀ q ∈ D,RlP P q∧∃ Tq,Nds (av P q) P.length Tq∧leT P.length Tq T:=by
  induction h with
  | start _ _=>exact ⟨[],rfl,List.nodup_nil,fun _ z=>by cases z⟩
  | @next S r r' T T' c b ne N' ih =>
    obtain ⟨D,h1,h2,h3⟩:=ih
    obtain ⟨D2,k1,k2,k3⟩:=Mix.chain g c.rl c.nds b (dfN r r' P.length) (p:=r') ⟨b.1,fun _=>.inr rfl⟩ N' rfl
    obtain ⟨hb,hm⟩:=b.more g c.rl c.nds N' ne
    refine ⟨D2 ++ D,by rw [List.length_append,h1,k1]; unfold js; rw [List.map_cons,List.sum_cons],List.nodup_append.mpr ⟨k2,h2,fun x hx y hy z=>?_⟩,fun q hq=>?_⟩
    · subst z
      obtain ⟨_,rlx,Tx,Nx,_,w,w0,w1,nle⟩:=k3 x hx
      obtain ⟨_,Ty,Ny,le⟩:=h3 x hy
      rw [Nds.one (b9 g rlx) Nx Ny w0 w1] at nle
      exact nle (le w w0 w1)
    · rcases List.mem_append.mp hq with z | z
      · obtain ⟨_,rlx,Tx,Nx,le,_⟩:=k3 q z
        exact ⟨rlx,Tx,Nx,le⟩
      · obtain ⟨rlq,Tq,Nq,le⟩:=h3 q z
        exact ⟨rlq,Tq,Nq,fun x x0 x1=>(le x x0 x1).trans (hb x x0 x1)⟩
theorem mO (g : GPk P) {r0 r0' r : List (Option Int)} {T0 T : Tb} (h0 : RlP P r0) (N0 : Nds (av P r0) P.length T0) (b0 : Btr P r0 T0 r0') (hr : RlP P r) (N : Nds (av P r) P.length T) {i : Nat} (e : r0'[i]? = r0[i]?) (he : ∀ j,j ≠ i→r[j]? = r0[j]?) : leT P.length T T0:=fun x x0 x1=>by
  refine dv (b9 g hr) N N0.pos (fun y y0 y1 yn=>?_) x0 x1
  obtain ⟨j,rfl⟩ : ∃ j : Nat,y = (j : Int):=⟨y.toNat,by omega⟩
  have jl : j < P.length:=by omega
  have old : aV (av P r) (j : Int) = aV (av P r0) (j : Int)→∃ w ∈ aV (av P r) (j : Int),leO (ao T0 w) (T0 (j : Int)):=fun eo=>by
    cases et : T0 (j : Int) with
    | none=>exact absurd et yn
    | some v =>
      obtain ⟨w,hw,hl⟩:=N0.way _ v y0 y1 et
      exact ⟨w,by rw [eo]; exact hw,hl⟩
  by_cases c : j = i
  · subst c
    have hrow:=List.getElem?_eq_getElem jl
    generalize P[j] = row at hrow
    by_cases c1 : row.1 = 1
    · obtain ⟨own,most,h1,h2,h3,h4,h5⟩:=(b0.2 j row hrow).2 c1
      obtain ⟨w,hw,hrw⟩:=(hr.2 j row hrow).2 c1
      refine ⟨w,by rw [aP g hrow hw hrw]; exact List.mem_singleton.mpr rfl,?_⟩
      rw [dz g N0 hrow h1 h3]
      rcases h5 with ⟨hl,_⟩ | ⟨nl,e5⟩
      · exact (h4 w hw).trans hl
      · rw [e5,h3] at e
        injection e with e
        injection e with e
        have a1:=em (g row (List.mem_of_getElem? hrow)).2.1 h1
        have a2:=em (g row (List.mem_of_getElem? hrow)).2.1 h2
        rw [e] at a2
        have : most = own:=by
          have : most.2 = own.2:=a2.symm.trans a1
          exact Prod.ext e this
        rw [this] at nl
        exact absurd (leO.refl _) nl
    · exact old (by rw [bO hr hrow c1,bO h0 hrow c1])
  · exact old (b6 (he j c))
theorem ChU.apart (g : GPk P) {S : List Stp} {r : List (Option Int)} {T : Tb} (h : ChU P S r T) (i : Nat) : ((S.filter fun e=>decide (e.2.2[i]? = e.1[i]?)).map fun e=>e.1.set i none).Nodup:=by
  induction h with
  | start _ _=>exact List.nodup_nil
  | @next S r r' T T' c b ne N' ih =>
    by_cases hc : r'[i]? = r[i]?
    · rw [List.filter_cons_of_pos (p:=fun e : Stp=>decide (e.2.2[i]? = e.1[i]?)) (a:=(r,T,r')) (decide_eq_true hc),List.map_cons]
      refine List.nodup_cons.mpr ⟨fun hm=>?_,ih⟩
      obtain ⟨e,he,eq⟩:=List.mem_map.mp hm
      obtain ⟨heS,hd⟩:=List.mem_filter.mp he
      have hd:=of_decide_eq_true hd
      obtain ⟨h1,h2,h3,T0,h4,x,x0,x1,nle⟩:=c.past g e heS
      have same : ∀ j,j ≠ i→r[j]? = e.1[j]?:=fun j hj=>by
        have:=congrArg (fun l=>l[j]?) eq
        simp only [List.getElem?_set_ne (Ne.symm hj)] at this
        exact this.symm
      have:=mO g h1 h2 h3 c.rl c.nds hd same
      exact nle ((h4 x x0 x1).trans (this x x0 x1))
    · rw [List.filter_cons_of_neg (p:=fun e : Stp=>decide (e.2.2[i]? = e.1[i]?)) (a:=(r,T,r')) (by simp [hc])]
      exact ih
end
def cE {α : Type} : List (List α)→List (List α)
  | []=>[[]]
  | A :: As=>(cE As).flatMap fun l=>A.map fun a=>a :: l
theorem e8 {α : Type} : ∀ {As : List (List α)} {r : List α},r.length = As.length→(∀ (i : Nat) A a,As[i]? = some A→r[i]? = some a→a ∈ A)→r ∈ cE As
  | [],[],_,_=>List.mem_cons_self
  | A :: As,a :: r,hl,h=>List.mem_flatMap.mpr ⟨r,e8 (by simpa using hl) fun i A a h1 h2=>h (i + 1) A a h1 h2,List.mem_map.mpr ⟨a,h 0 A a rfl rfl,rfl⟩⟩
  | [],_ :: _,hl,_=>by simp at hl
  | _ :: _,[],hl,_=>by simp at hl
theorem eL {α β : Type} {f : α→List β} {k : Nat} : ∀ {l : List α},(∀ x,(f x).length ≤ k)→(l.flatMap f).length ≤ l.length * k
  | [],_=>by simp
  | x :: l,h=>by
    have:=eL (l:=l) h
    have:=h x
    rw [List.flatMap_cons,List.length_append,List.length_cons,Nat.succ_mul]; omega
theorem fh {α : Type} {k : Nat} : ∀ {As : List (List α)},(∀ A ∈ As,A.length ≤ k)→(cE As).length ≤ k ^ As.length
  | [],_=>by simp [cE]
  | A :: As,h=>by
    have h1:=fh (As:=As) fun B hB=>h B (List.mem_cons_of_mem _ hB)
    have h2:=h A List.mem_cons_self
    have h3:=eL (f:=fun l : List α=>A.map fun a=>a :: l) (k:=k) (l:=cE As) fun x=>by rw [List.length_map]; exact h2
    exact Nat.le_trans h3 (by rw [List.length_cons,Nat.pow_succ]; exact Nat.mul_le_mul_right _ h1)
def iU (row : ak) : List (Option Int):=if row.1 = 1 then row.2.map fun w=>some w.1 else [none]
theorem ql {A : List ak} {r : List (Option Int)} (h : RlP A r) : r ∈ cE (A.map iU):=by
  refine e8 (by rw [List.length_map]; exact h.1) fun i B a h1 h2=>?_
  rw [List.getElem?_map] at h1
  obtain ⟨row,hr,rfl⟩:=Option.map_eq_some_iff.mp h1
  unfold iU
  split
  · rename_i e
    obtain ⟨w,hw,h3⟩:=(h.2 i row hr).2 e
    rw [h2] at h3
    cases h3
    exact List.mem_map.mpr ⟨w,hw,rfl⟩
  · rename_i e
    have h3:=(h.2 i row hr).1 e
    rw [h2] at h3
    cases h3
    exact List.mem_singleton.mpr rfl
theorem gF {α : Type} {k : Nat} (k1 : 1 ≤ k) : ∀ {As : List (List α)} {x : Nat} {B : List α},(∀ A ∈ As,A.length ≤ k)→As[x]? = some B→B.length ≤ 1→(cE As).length ≤ k ^ (As.length - 1)
  | [],_,_,_,hx,_=>by cases hx
  | A :: As,0,B,h,hx,hb=>by
    have hx : some A = some B:=hx
    cases hx
    have h1:=fh (As:=As) fun B hB=>h B (List.mem_cons_of_mem _ hB)
    have h3:=eL (f:=fun l : List α=>A.map fun a=>a :: l) (k:=1) (l:=cE As) fun x=>by rw [List.length_map]; exact hb
    have h3 : (cE (A :: As)).length ≤ (cE As).length * 1:=h3
    rw [List.length_cons,Nat.add_sub_cancel]; omega
  | A :: As,x + 1,B,h,hx,hb=>by
    have hx : As[x]? = some B:=hx
    have h1:=gF k1 (As:=As) (fun B hB=>h B (List.mem_cons_of_mem _ hB)) hx hb
    have h2:=h A List.mem_cons_self
    have h3:=eL (f:=fun l : List α=>A.map fun a=>a :: l) (k:=k) (l:=cE As) fun x=>by rw [List.length_map]; exact h2
    have h3 : (cE (A :: As)).length ≤ (cE As).length * k:=h3
    have xl:=(List.getElem?_eq_some_iff.mp hx).1
    have e : (A :: As).length - 1 = (As.length - 1) + 1:=by rw [List.length_cons]; omega
    rw [e,Nat.pow_succ]
    exact Nat.le_trans h3 (Nat.mul_le_mul_right _ h1)
theorem rn {l : List Nat} {k : Nat} (h : ∀ x ∈ l,x ≤ k) : l.sum ≤ l.length * k:=by
  induction l with
  | nil=>simp
  | cons a l ih =>
    have:=ih fun x hx=>h x (List.mem_cons_of_mem _ hx)
    have:=h a List.mem_cons_self
    rw [List.sum_cons,List.length_cons,Nat.succ_mul]; omega
theorem pE (R : List Nat) (f g : Nat→Nat) : (R.map fun x=>f x + g x).sum = (R.map f).sum + (R.map g).sum:=by
  induction R with
  | nil=>rfl
  | cons a R ih=>simp only [List.map_cons,List.sum_cons]; omega
theorem pR (R : List Nat) (p : Nat→Bool) : (R.map fun x=>if p x then 1 else 0).sum = (R.filter p).length:=by
  induction R with
  | nil=>rfl
  | cons a R ih =>
    rw [List.map_cons,List.sum_cons,ih]
    cases e : p a with
    | true=>rw [List.filter_cons_of_pos e,List.length_cons,if_pos rfl]; omega
    | false=>rw [List.filter_cons_of_neg (by rw [e]; simp),if_neg (by simp)]; omega
theorem jR {β : Type} (R : List Nat) (p : β→Nat→Bool) : ∀ S : List β,(S.map fun e=>(R.filter (p e)).length).sum = (R.map fun x=>(S.filter fun e=>p e x).length).sum
  | []=>by
    have : ∀ R : List Nat,(R.map fun x=>(([] : List β).filter fun e=>p e x).length).sum = 0:=fun R=>by
      induction R with
      | nil=>rfl
      | cons a R ih=>rw [List.map_cons,List.sum_cons,ih]; rfl
    rw [this]; rfl
  | e :: S=>by
    rw [List.map_cons,List.sum_cons,jR R p S,← pR R (p e),← pE]
    congr 1
    apply List.map_congr_left
    intro x _
    cases c : p e x with
    | true=>rw [List.filter_cons_of_pos (p:=fun e=>p e x) c,List.length_cons,if_pos rfl]; omega
    | false=>rw [List.filter_cons_of_neg (p:=fun e=>p e x) (by rw [c]; simp),if_neg (by simp)]; omega
theorem p9 (r p : List (Option Int)) (n : Nat) : dfN r p n + ((List.range n).filter fun i=>decide (p[i]? = r[i]?)).length = n:=by
  unfold dfN
  have : ∀ l : List Nat,(l.filter fun i=>decide (p[i]? ≠ r[i]?)).length + (l.filter fun i=>decide (p[i]? = r[i]?)).length = l.length:=fun l=>by
    induction l with
    | nil=>rfl
    | cons a l ih =>
      by_cases c : p[a]? = r[a]?
      · rw [List.filter_cons_of_neg (by simp [c]),List.filter_cons_of_pos (by simp [c]),List.length_cons,List.length_cons]; omega
      · rw [List.filter_cons_of_pos (by simp [c]),List.filter_cons_of_neg (by simp [c]),List.length_cons,List.length_cons]; omega
  rw [this,List.length_range]
theorem kW (n : Nat) : ∀ S : List Stp,js n S + (S.map fun e=>((List.range n).filter fun i=>decide (e.2.2[i]? = e.1[i]?)).length).sum = n * S.length
  | []=>rfl
  | e :: S=>by
    have h:=p9 e.1 e.2.2 n
    have ih:=kW n S
    unfold js at ih ⊢
    rw [List.map_cons,List.sum_cons,List.map_cons,List.sum_cons,List.length_cons,Nat.mul_succ]; omega
theorem ChU.few {P : List ak} (g : GPk P) {k : Nat} (k1 : 1 ≤ k) (hk : ∀ row ∈ P,row.2.length ≤ k) {S : List Stp} {r : List (Option Int)} {T : Tb} (h : ChU P S r T) : P.length * S.length ≤ k ^ P.length + P.length * k ^ (P.length - 1):=by
  have hop : ∀ A ∈ P.map iU,A.length ≤ k:=fun A hA=>by
    obtain ⟨row,hr,rfl⟩:=List.mem_map.mp hA
    unfold iU
    split
    · rw [List.length_map]; exact hk row hr
    · exact k1
  have a1 : js P.length S ≤ k ^ P.length:=by
    obtain ⟨D,d1,d2,d3⟩:=h.passed g
    have q1:=d4 D (cE (P.map iU)) d2 fun q hq=>ql (d3 q hq).1
    have q2:=fh (As:=P.map iU) (k:=k) hop
    rw [List.length_map] at q2
    omega
  have a2 : (S.map fun e=>((List.range P.length).filter fun i=>decide (e.2.2[i]? = e.1[i]?)).length).sum ≤ P.length * k ^ (P.length - 1):=by
    rw [jR (List.range P.length) (fun e i=>decide (e.2.2[i]? = e.1[i]?)) S]
    have := rn (l:=(List.range P.length).map fun x=>(S.filter fun e=>decide (e.2.2[x]? = e.1[x]?)).length) (k:=k ^ (P.length - 1)) fun y hy=>by
      obtain ⟨x,hx,rfl⟩:=List.mem_map.mp hy
      have xl:=List.mem_range.mp hx
      have nd:=h.apart g x
      have q1:=d4 _ (cE ((P.map iU).set x [none])) nd fun q hq=>by
        obtain ⟨e,he,rfl⟩:=List.mem_map.mp hq
        obtain ⟨h1,_⟩:=h.past g e (List.mem_filter.mp he).1
        refine e8 (by rw [List.length_set,List.length_set,List.length_map]; exact h1.1) fun i A a hA ha=>?_
        by_cases c : i = x
        · subst c
          rw [List.getElem?_set_self (by rw [List.length_map]; exact xl)] at hA
          rw [List.getElem?_set_self (by rw [h1.1]; exact xl)] at ha
          cases hA; cases ha
          exact List.mem_singleton.mpr rfl
        · rw [List.getElem?_set_ne (Ne.symm c)] at hA ha
          rw [List.getElem?_map] at hA
          obtain ⟨row,hr,rfl⟩:=Option.map_eq_some_iff.mp hA
          unfold iU
          split
          · rename_i e1
            obtain ⟨w,hw,h3⟩:=(h1.2 i row hr).2 e1
            rw [ha] at h3
            cases h3
            exact List.mem_map.mpr ⟨w,hw,rfl⟩
          · rename_i e1
            have h3:=(h1.2 i row hr).1 e1
            rw [ha] at h3
            cases h3
            exact List.mem_singleton.mpr rfl
      have q2:=gF k1 (As:=(P.map iU).set x [none]) (x:=x) (B:=[none]) (fun A hA=>by
        rcases List.mem_or_eq_of_mem_set hA with z | z
        · exact hop A z
        · rw [z]; exact k1) (List.getElem?_set_self (by rw [List.length_map]; exact xl)) (Nat.le_refl _)
      rw [List.length_set,List.length_map] at q2
      rw [List.length_map] at q1
      omega
    rw [List.length_map,List.length_range] at this
    exact this
  have:=kW P.length S
  omega
def PiI (R : Int→Wy→Prop) (ps : List (Int × Int)) : Prop:=∀ (i j : Nat) (y b z d : Int),i ≤ j→ps[i]? = some (y,b)→ps[j]? = some (z,d)→∃ s,WkR R y s z∧sm s = d - b
theorem PiI.one (R : Int→Wy→Prop) (p : Int × Int) : PiI R [p]:=fun i j y b z d hij h1 h2=>by
  have l1:=(List.getElem?_eq_some_iff.mp h1).1
  have l2:=(List.getElem?_eq_some_iff.mp h2).1
  simp at l1 l2
  subst l1; subst l2
  rw [h1] at h2; cases h2
  exact ⟨[],rfl,by rw [bq]; omega⟩
theorem PiI.cut {R : Int→Wy→Prop} {ps : List (Int × Int)} (h : PiI R ps) (k : Nat) : PiI R (ps.take k):=fun i j y b z d hij h1 h2=>by
  rw [List.getElem?_take] at h1 h2
  split at h1
  · split at h2
    · exact h i j y b z d hij h1 h2
    · cases h2
  · cases h1
theorem PiI.ring {R : Int→Wy→Prop} {ps : List (Int × Int)} {x c : Int} (h : PiI R (ps ++ [(x,c)])) {w : Wy} (hR : R x w) {k : Nat} {b : Int} (hk : (ps ++ [(x,c)])[k]? = some (w.1,b)) : ∃ s,s ≠ []∧WkR R w.1 s w.1∧sm s = c + w.2 - b:=by
  have kl:=(List.getElem?_eq_some_iff.mp hk).1
  rw [List.length_append] at kl; simp at kl
  obtain ⟨s,h1,h2⟩:=h k ps.length _ _ x c (by omega) hk (by simp)
  exact ⟨s ++ [w],by simp,dP h1 ⟨hR,rfl⟩,by rw [cu,h2,br,bq]; omega⟩
theorem PiI.push {R : Int→Wy→Prop} {ps : List (Int × Int)} {x c : Int} (h : PiI R (ps ++ [(x,c)])) {w : Wy} (hR : R x w) : PiI R ((ps ++ [(x,c)]) ++ [(w.1,c + w.2)]):=fun i j y b z d hij h1 h2=>by
  have l2:=(List.getElem?_eq_some_iff.mp h2).1
  rw [List.length_append] at l2; simp only [List.length_singleton] at l2
  by_cases c2 : j < (ps ++ [(x,c)]).length
  · rw [List.getElem?_append_left c2] at h2
    rw [List.getElem?_append_left (by omega)] at h1
    exact h i j y b z d hij h1 h2
  · have ej : j = (ps ++ [(x,c)]).length:=by omega
    subst ej
    rw [List.getElem?_concat_length] at h2; cases h2
    by_cases c1 : i < (ps ++ [(x,c)]).length
    · rw [List.getElem?_append_left c1] at h1
      rw [List.length_append] at c1; simp at c1
      obtain ⟨s,g1,g2⟩:=h i ps.length _ _ x c (by omega) h1 (by simp)
      exact ⟨s ++ [w],dP g1 ⟨hR,rfl⟩,by rw [cu,g2,br,bq]; omega⟩
    · have ei : i = (ps ++ [(x,c)]).length:=by omega
      subst ei
      rw [List.getElem?_concat_length] at h1; cases h1
      exact ⟨[],rfl,by rw [bq]; omega⟩
theorem lG {R : Int→Wy→Prop} {Z : Int→Prop} (hZ : ∀ x w,R x w→Z x) : ∀ {x y : Int} {s : List Wy},WkR R x s y→Z y→∀ w ∈ s,Z w.1
  | _,_,[],_,_,_,hw=>by cases hw
  | x,y,u :: s,h,hy,w,hw=>by
    rcases List.mem_cons.mp hw with e | e
    · subst e
      cases s with
      | nil=>have:=h.2; rw [show w.1 = y from this]; exact hy
      | cons u' s'=>exact hZ _ _ h.2.1
    · exact lG hZ h.2 hy w e
theorem jS {W : Lf} {n : Nat} {T : Tb} (N : Nds W n T) {y : Int} {s : List Wy} (hs : s ≠ []) (h : WkR (fun x w=>w ∈ aV W x∧T x ≠ some 0) y s y) : sm s < 0:=by
  refine kJ N hs (WkR.wk (fun _ _ h=>h.1) h) (lG (Z:=fun x=>T x ≠ some 0) (fun _ _ h=>h.2) h ?_)
  cases s with
  | nil=>exact absurd rfl hs
  | cons u s=>exact h.1.2
end Law
namespace L2
open PySem PySem.Spec PyProof.Rows
theorem kr {X : Cx} {K : PySem.W.Frag} {o value : Expr} {f : Str} {tpos pos : Pos} {ta tv : TE} {op : Operator} {rd : V→V→Hp→VK→Prop} (hK : X.K = K) (ha : PE X o ta) (hv : PE X value tv) (hop : sZ X op rd) : PS X (.AugAssign (.Attribute o f tpos) op value pos) (lN K ta tv rd f):=by
  subst hK; exact mr ha hv hop
end L2
namespace Law
open PySem L2
def top (i : Nat) : Stmt:=PySem.Challenge.pw_rankgarth_k64_whole_one_less.main.body.getD i (.Pass ⟨0,0,0,0⟩)
abbrev cF : Stmt:=top 5
abbrev cA : Stmt:=top 6
abbrev cV : Stmt:=top 8
abbrev bX : Stmt:=top 9
abbrev cX : Stmt:=top 10
abbrev bo : Stmt:=top 11
abbrev bE : Stmt:=top 12
abbrev bR : Stmt:=top 14
abbrev aY : Stmt:=top 16
abbrev cr : Stmt:=top 17
abbrev cp : Stmt:=top 18
abbrev bD : Stmt:=top 19
abbrev bF : Stmt:=top 20
abbrev eM : Stmt:=top 21
abbrev cJ : Stmt:=top 22
abbrev bC : Stmt:=top 23
abbrev bn : Stmt:=top 24
abbrev bJ : Stmt:=top 26
abbrev ck : Stmt:=top 27
abbrev ci : Stmt:=top 28
abbrev bH : Stmt:=top 31
abbrev bT : Stmt:=top 32
abbrev cK : Stmt:=top 33
abbrev bW : Stmt:=top 34
abbrev b7 : Stmt:=top 35
abbrev dD : Stmt:=top 36
abbrev fz : Stmt:=top 37
abbrev aA : Stmt:=fP (top 29) 0
abbrev aR : Stmt:=fP (top 29) 1
abbrev bv : Stmt:=fP (top 29) 2
abbrev be : Stmt:=fP (top 29) 3
structure Txt (mg : Str→Option Value) : Prop where
  b_bool : mg "bool" = none
  b_dict : mg "dict" = none
  b_enumerate : mg "enumerate" = none
  b_int : mg "int" = none
  b_isinstance : mg "isinstance" = none
  b_len : mg "len" = none
  b_list : mg "list" = none
  b_max : mg "max" = none
  b_min : mg "min" = none
  b_range : mg "range" = none
  b_set : mg "set" = none
  b_sorted : mg "sorted" = none
  b_zip : mg "zip" = none
theorem jQ : FnScope ["value"] ["value"] (af cF):=⟨rfl,rfl,rfl,by decide +kernel,rfl,by decide +kernel,by decide +kernel⟩
theorem jZ : FnScope ["value","count"] ["value","count"] (af cA):=⟨rfl,rfl,rfl,by decide +kernel,rfl,by decide +kernel,by decide +kernel⟩
theorem kP : FnScope ["purses","place","amount"] ["purses","place","amount"] (af cV):=⟨rfl,rfl,rfl,by decide +kernel,rfl,by decide +kernel,by decide +kernel⟩
theorem gX : FnScope ["need"] ["need"] (af bX):=⟨rfl,rfl,rfl,by decide +kernel,rfl,by decide +kernel,by decide +kernel⟩
theorem kL : FnScope ["need","other"] ["need","other"] (af cX):=⟨rfl,rfl,rfl,by decide +kernel,rfl,by decide +kernel,by decide +kernel⟩
theorem gy : FnScope ["ways","purses"] ["ways","purses"] (af bo):=⟨rfl,rfl,rfl,by decide +kernel,rfl,by decide +kernel,by decide +kernel⟩
theorem g8 : FnScope ["ways","purses"] ["ways","purses"] (af bE):=⟨rfl,rfl,rfl,by decide +kernel,rfl,by decide +kernel,by decide +kernel⟩
theorem gS : FnScope ["game","hand","rule","row","way"] ["game","hand","rule"] (af bR):=⟨rfl,rfl,rfl,by decide +kernel,rfl,by decide +kernel,by decide +kernel⟩
theorem fu : FnScope ["game","rule","row","way"] ["game","rule"] (af aY):=⟨rfl,rfl,rfl,by decide +kernel,rfl,by decide +kernel,by decide +kernel⟩
theorem jb : FnScope ["game","rule","left","row","way"] ["game","rule"] (af cr):=⟨rfl,rfl,rfl,by decide +kernel,rfl,by decide +kernel,by decide +kernel⟩
theorem ja : FnScope ["gains","ways","place","way","amount","purse"] ["gains","ways","place"] (af cp):=⟨rfl,rfl,rfl,by decide +kernel,rfl,by decide +kernel,by decide +kernel⟩
theorem hU : FnScope ["left","start","gains","turn","place"] ["left","start"] (af bD):=⟨rfl,rfl,rfl,by decide +kernel,rfl,by decide +kernel,by decide +kernel⟩
theorem gR : FnScope ["left","table","turn","place","ways","way","need"] ["left"] (af bF):=⟨rfl,rfl,rfl,by decide +kernel,rfl,by decide +kernel,by decide +kernel⟩
theorem oX : FnScope ["game","rule"] ["game","rule"] (af eM):=⟨rfl,rfl,rfl,by decide +kernel,rfl,by decide +kernel,by decide +kernel⟩
theorem j6 : FnScope ["game","rule","table","ways","row","way","most","own"] ["game","rule","table"] (af cJ):=⟨rfl,rfl,rfl,by decide +kernel,rfl,by decide +kernel,by decide +kernel⟩
theorem ia : FnScope ["game","rule","table","told","better"] ["game"] (af bC):=⟨rfl,rfl,rfl,by decide +kernel,rfl,by decide +kernel,by decide +kernel⟩
theorem fo : FnScope ["game","last","rule","table","ways","row","way","purse"] ["game"] (af bn):=⟨rfl,rfl,rfl,by decide +kernel,rfl,by decide +kernel,by decide +kernel⟩
theorem gL : FnScope ["start","count"] ["start","count"] (af bJ):=⟨rfl,rfl,rfl,by decide +kernel,rfl,by decide +kernel,by decide +kernel⟩
theorem i6 : FnScope ["due"] ["due"] (af ck):=⟨rfl,rfl,rfl,by decide +kernel,rfl,by decide +kernel,by decide +kernel⟩
theorem iR : FnScope ["place","outs"] ["place","outs"] (af ci):=⟨rfl,rfl,rfl,by decide +kernel,rfl,by decide +kernel,by decide +kernel⟩
theorem gh : FnScope ["_law_script","_law_k"] ["_law_script","_law_k"] (af bH):=⟨rfl,rfl,rfl,by decide +kernel,rfl,by decide +kernel,by decide +kernel⟩
theorem hJ : FnScope ["_law_script","_law_k","_law_cell"] ["_law_script","_law_k"] (af bT):=⟨rfl,rfl,rfl,by decide +kernel,rfl,by decide +kernel,by decide +kernel⟩
theorem j8 : FnScope ["_law_script","_law_cell","_law_many","_law_most","_law_more","_law_game_here","_law_k","_law_places","_law_j","_law_ways","_law_place","_law_base","_law_amount"] ["_law_script"] (af cK):=⟨rfl,rfl,rfl,by decide +kernel,rfl,by decide +kernel,by decide +kernel⟩
theorem gZ : FnScope ["_law_pile","_law_place","_law_purse","_law_k","_law_before"] ["_law_pile","_law_place","_law_purse"] (af bW):=⟨rfl,rfl,rfl,by decide +kernel,rfl,by decide +kernel,by decide +kernel⟩
theorem jY : FnScope ["_law_play","_law_game_here","_law_hand","_law_cells","_law_pile","_law_cell","_law_at_here","_law_ways","_law_place","_law_ring"] ["_law_play","_law_game_here","_law_hand","_law_cells"] (af b7):=⟨rfl,rfl,rfl,by decide +kernel,rfl,by decide +kernel,by decide +kernel⟩
theorem my : FnScope ["_law_game_here","_law_start","_law_least","_law_more","_law_cells","_law_purse","_law_enough","_law_play"] ["_law_game_here","_law_start","_law_least","_law_more","_law_cells"] (af dD):=⟨rfl,rfl,rfl,by decide +kernel,rfl,by decide +kernel,by decide +kernel⟩
theorem sg : FnScope ["_law_script","_law_game_here","_law_purses","_law_k","_law_cell","_law_start","_law_least","_law_cells","_law_j"] ["_law_script"] (af fz):=⟨rfl,rfl,rfl,by decide +kernel,rfl,by decide +kernel,by decide +kernel⟩
theorem dk : FnScope ["self","game","start","purse","answer"] ["self","game","start","purse"] (af aA):=⟨rfl,rfl,rfl,by decide +kernel,rfl,by decide +kernel,by decide +kernel⟩
theorem dy : FnScope ["self","place"] ["self","place"] (af aR):=⟨rfl,rfl,rfl,by decide +kernel,rfl,by decide +kernel,by decide +kernel⟩
theorem fH : FnScope ["self"] ["self"] (af bv):=⟨rfl,rfl,rfl,by decide +kernel,rfl,by decide +kernel,by decide +kernel⟩
theorem d7 : FnScope ["self","place"] ["self","place"] (af be):=⟨rfl,rfl,rfl,by decide +kernel,rfl,by decide +kernel,by decide +kernel⟩
section
variable {P : Program} {w : World} {K : PySem.W.Frag} {mg : Str→Option Value} {base : Heap}
def fR : Sp:=fun vs H Q _=>∃ z : Int,vs = [.int z]∧Q (.bl true) H
theorem jA (F : DefAt K mg "is_whole" cF ["value"]) (T : Txt mg) : Dn P w K mg base "is_whole" 1 ["value"] fR:=by
  have sc:=jQ
  refine F.ok sc (fun vs H Q E h=>?_) (fun f cdv A outer s H vs Q E hr h=>?_)
  · obtain ⟨z,rfl,_⟩:=h; rfl
  obtain ⟨z,rfl,q⟩:=h
  refine ⟨_,(ag (aC (gK (aF (ib (K:=K) rfl (T := "int")) rfl T.b_isinstance PyProof.Rows.boot_isinstance (aa (pv 0) (aa (dJ (v:=.ty "int") rfl T.b_int PyProof.Rows.boot_int rfl) ad))) (eX (rD (aF (ib (K:=K) rfl (T := "bool")) rfl T.b_isinstance PyProof.Rows.boot_isinstance (aa (pv 0) (aa (dJ (v:=.ty "bool") rfl T.b_bool PyProof.Rows.boot_bool rfl) ad)))))))),?_⟩
  refine ⟨_,rfl,_,"int",_,rfl,rfl,eV _,true,rfl,?_⟩
  refine cS ?_
  exact ⟨_,rfl,_,"int",_,rfl,rfl,eO,false,rfl,q⟩
def k9 : Sp:=fun vs H Q _=>∃ z n : Int,vs = [.int z,.int n]∧Q (.bl (decide (0 ≤ z∧z < n))) H
theorem jU (F : DefAt K mg "is_place" cA ["value","count"]) (T : Txt mg) (D_is_whole : Dn P w K mg base "is_whole" 1 ["value"] fR) : Dn P w K mg base "is_place" 2 ["value","count"] k9:=by
  have sc:=jZ
  refine F.ok sc (fun vs H Q E h=>?_) (fun f cdv A outer s H vs Q E hr h=>?_)
  · obtain ⟨_,_,rfl,_⟩:=h; rfl
  obtain ⟨z,n,rfl,q⟩:=h
  refine ⟨_,(ag (aC (gK (az D_is_whole hr (aa (pv 0) ad)) (eX (mS su j9 ab (pv 0) (pv 1)))))),?_⟩
  refine ⟨_,rfl,z,rfl,true,rfl,?_⟩
  refine cS ?_
  refine ⟨_,rfl,_,_,rfl,rfl,decide (0 ≤ z),rfl,?_⟩
  refine cL (fun c=>?_) (fun c=>?_)
  · have h0 : 0 ≤ z:=of_decide_eq_true c
    refine ⟨_,rfl,_,_,rfl,rfl,?_⟩
    show Q (V.bl (decide (z < n))) H
    have e : decide (z < n) = decide (0 ≤ z∧z < n):=by
      by_cases h : z < n
      · rw [decide_eq_true h,decide_eq_true ⟨h0,h⟩]
      · rw [decide_eq_false h,decide_eq_false fun k=>h k.2]
    rw [e]; exact q
  · have e : decide (0 ≤ z∧z < n) = false:=decide_eq_false fun k=>c (decide_eq_true k.1)
    rw [e] at q; exact q
theorem dt {α β : Type} {F : α→β→Prop} : ∀ {xs : List α} {ys : List β},Paired F xs ys→xs.length = ys.length
  | _,_,.nil=>rfl
  | _,_,.cons _ t=>by rw [List.length_cons,List.length_cons,dt t]
theorem rW {us : List V} {z : Int} {u : V} (h0 : 0 ≤ z) (h : us[z.toNat]? = some u) : atI us z = some u:=by
  obtain ⟨n,rfl⟩:=Int.eq_ofNat_of_zero_le h0
  exact ar (j:=n) h
def oV : Option Int→V
  | none=>.non
  | some v=>.int v
def tV (T : List (Option Int)) : List V:=T.map oV
theorem bz (T : List (Option Int)) : (tV T).length = T.length:=List.length_map _
def tbF (T : List (Option Int)) : Tb:=fun x=>if 0 ≤ x then (T[x.toNat]?).getD none else none
theorem pU (T : List (Option Int)) (i : Nat) : tbF T (i : Int) = (T[i]?).getD none:=by unfold tbF; rw [if_pos (by omega)]; rfl
theorem fA {T : List (Option Int)} {x : Int} (h0 : 0 ≤ x) (h1 : x < T.length) : atI (tV T) x = some (oV (tbF T x)):=by
  have hl : x.toNat < T.length:=by omega
  refine rW h0 ?_
  unfold tV tbF
  rw [if_pos h0,List.getElem?_map,List.getElem?_eq_getElem hl]; rfl
def dm : Sp:=fun vs H Q _=>∃ (ta : Addr) (T : List (Option Int)) (p a : Int),vs = [.ref ta,.int p,.int a]∧H ta = some (.lst (tV T))∧0 ≤ p∧p < T.length∧Q (oV (ao (tbF T) (p,a))) H
theorem lX (F : DefAt K mg "need_by" cV ["purses","place","amount"]) (T : Txt mg) : Dn P w K mg base "need_by" 1 ["purses","place","amount"] dm:=by
  have sc:=kP
  refine F.ok sc (fun vs H Q E h=>?_) (fun f cdv A outer s H vs Q E hr h=>?_)
  · obtain ⟨_,_,_,_,rfl,_⟩:=h; rfl
  obtain ⟨ta,TT,p,a,rfl,hta,p0,p1,q⟩:=h
  refine ⟨_,(ac (aZ (b8 (dZ (ax (ixL (K:=K) rfl) (pv 0) (pv 1) (fun _ _=>rfl))))
      (ag (aC fb))
      aE)
      (ag (aC (aF (mh rfl) rfl T.b_max PyProof.Rows.boot_max (aa (ai d6 (ax (ixL (K:=K) rfl) (pv 0) (pv 1) (fun _ _=>rfl)) (pv 2)) (aa ab ad)))))),?_⟩
  have at0:=fA p0 p1
  refine ⟨_,rfl,_,rfl,ta,_,_,_,rfl,rfl,SqL.of hta,at0,_,rfl,?_⟩
  unfold ao at q
  cases e : tbF TT p with
  | none =>
    rw [e] at q
    exact cS q
  | some v =>
    rw [e] at q at0
    refine bj ?_
    refine ⟨_,rfl,_,rfl,ta,_,_,_,rfl,rfl,SqL.of hta,at0,_,rfl,_,_,rfl,rfl,?_⟩
    refine ⟨_,_,rfl,?_⟩
    have e9 : (if (0 : Int) > v - a then (0 : Int) else v - a) = max (v - a) 0:=by
      by_cases c : (0 : Int) > v - a
      · rw [if_pos c]; omega
      · rw [if_neg c]; omega
    rw [e9]; exact q
def nk : Option Int→Int × Int
  | none=>(1,0)
  | some v=>(0,v)
theorem nk_lt {a b : Option Int} : lt2 (nk b) (nk a) ↔ ¬ leO a b:=by
  cases a <;> cases b <;> simp [nk,lt2,leO]
def fV : Sp:=fun vs H Q _=>∃ (o : Option Int),vs = [oV o]∧∀ t,H t = none→Q (.ref t) (upd H t (.tup (cR (nk o))))
theorem oo (F : DefAt K mg "need_order" bX ["need"]) (T : Txt mg) : Dn P w K mg base "need_order" 1 ["need"] fV:=by
  have sc:=gX
  refine F.ok sc (fun vs H Q E h=>?_) (fun f cdv A outer s H vs Q E hr h=>?_)
  · obtain ⟨_,rfl,_⟩:=h; rfl
  obtain ⟨o,rfl,q⟩:=h
  refine ⟨_,(ag (aC (cY (b8 (dZ (pv 0))) (cH (aa ab (aa ab ad))) (cH (aa ab (aa (pv 0) ad)))))),?_⟩
  refine ⟨_,rfl,_,rfl,?_⟩
  cases o with
  | none=>exact cS ⟨(by show 2 ≤ sizeLine; decide),fun t ht=>q t ht⟩
  | some v=>exact bj ⟨_,rfl,(by show 2 ≤ sizeLine; decide),fun t ht=>q t ht⟩
def i7 : Sp:=fun vs H Q _=>∃ (a b : Option Int),vs = [oV a,oV b]∧∀ (r : Bool) H',Same H H'→(r = true ↔ ¬ leO a b)→Q (.bl r) H'
theorem pP (F : DefAt K mg "is_more" cX ["need","other"]) (T : Txt mg) (D_need_order : Dn P w K mg base "need_order" 1 ["need"] fV) : Dn P w K mg base "is_more" 2 ["need","other"] i7:=by
  have sc:=kL
  refine F.ok sc (fun vs H Q E h=>?_) (fun f cdv A outer s H vs Q E hr h=>?_)
  · obtain ⟨_,_,rfl,_⟩:=h; rfl
  obtain ⟨a,b,rfl,q⟩:=h
  refine ⟨_,(ag (aC (bQ (rq (K:=K) rfl (iW hr 0)) (az D_need_order hr (aa (pv 0) ad)) (az D_need_order hr (aa (pv 1) ad)) (aB _)))),?_⟩
  refine ⟨_,rfl,a,rfl,fun t1 h1=>⟨_,rfl,b,rfl,fun t2 h2=>?_⟩⟩
  refine ⟨t1,t2,[(nk a).1,(nk a).2],[(nk b).1,(nk b).2],rfl,rfl,SqT.of (ah h2 _ _ _ ae),SqT.of ae,?_⟩
  exact q _ _ ((ah h1 _).trans (ah h2 _)) ((nE _ _).trans nk_lt)
def nt (H : Hp) : Hp:=fun b=>match H b with
  | some (.tbl _)=>none
  | o=>o
theorem fE {H : Hp} {b : Addr} {o : HO} (h : H b = some o) (ho : ∀ ps,o ≠ .tbl ps) : nt H b = some o:=by
  unfold nt
  rw [h]
  cases o <;> first | rfl | exact absurd rfl (ho _)
theorem j2 {H : Hp} {b : Addr} {o : HO} (h : nt H b = some o) : H b = some o∧∀ ps,o ≠ .tbl ps:=by
  unfold nt at h
  cases e : H b with
  | none=>rw [e] at h; cases h
  | some u =>
    rw [e] at h
    cases u <;> first | (cases h; exact ⟨rfl,fun _ z=>by cases z⟩) | cases h
theorem aj {H : Hp} : Same (nt H) H:=fun _ _ h=>(j2 h).1
theorem bM {H : Hp} {b : Addr} {xs : List V} (h : H b = some (.lst xs)) : nt H b = some (.lst xs):=fE h fun _ z=>by cases z
theorem gQ {H : Hp} {b : Addr} {xs : List V} (h : H b = some (.tup xs)) : nt H b = some (.tup xs):=fE h fun _ z=>by cases z
def Sm (H H' : Hp) : Prop:=Same (nt H) (nt H')
theorem Sm.of {H H' : Hp} (s : Same H H') : Sm H H':=fun b o h=>by
  obtain ⟨h1,h2⟩:=j2 h
  exact fE (s _ _ h1) h2
theorem Sm.refl (H : Hp) : Sm H H:=Same.refl _
theorem Sm.trans {H H1 H2 : Hp} (a : Sm H H1) (b : Sm H1 H2) : Sm H H2:=Same.trans a b
theorem Sm.ofT {H H' : Hp} {p : Addr} {ps : Array Value} (s : SameT p H H') (h : H p = some (.tbl ps)) : Sm H H':=fun b o e=>by
  obtain ⟨h1,h2⟩:=j2 e
  exact fE (s b o (fun z=>by rw [z,h] at h1; injection h1 with h1; exact h2 _ h1.symm) h1) h2
theorem Sm.put {H H' : Hp} {a : Addr} (s : Sm H H') (h : nt H a = none) (o : HO) : Sm H (upd H' a o):=fun b u e=>by
  have nb : b ≠ a:=fun z=>by rw [z,h] at e; cases e
  obtain ⟨h1,h2⟩:=j2 (s _ _ e)
  exact fE (by rw [aq nb]; exact h1) h2
theorem eF {H : Hp} {a : Addr} (h : H a = none) : nt H a = none:=by unfold nt; rw [h]
theorem Sm.lst {H H' : Hp} {b : Addr} {xs : List V} (s : Sm H H') (h : nt H b = some (.lst xs)) : H' b = some (.lst xs):=aj _ _ (s _ _ h)
theorem Sm.tup {H H' : Hp} {b : Addr} {xs : List V} (s : Sm H H') (h : nt H b = some (.tup xs)) : H' b = some (.tup xs):=aj _ _ (s _ _ h)
def sJ (st : Stmt) : Pos:=match aX st with
  | [.Return (some (.Call _ _ [⟨_,.Lambda _ _ _ p,_⟩] _)) _]=>p
  | _=>⟨0,0,0,0⟩
abbrev qL : Str := "least_needy" ++ ".<locals>." ++ "<lambda>"
abbrev qM : Str := "most_needy" ++ ".<locals>." ++ "<lambda>"
abbrev pL (K : PySem.W.Frag) : Addr:=aH K "least_needy"
abbrev pM (K : PySem.W.Frag) : Addr:=aH K "most_needy"
structure Tbs (K : PySem.W.Frag) (H : Hp) : Prop where
  l : TabOk H (pL K) (sJ bo) qL
  m : TabOk H (pM K) (sJ bE) qM
  ne : pL K ≠ pM K
theorem Tbs.up {H H' : Hp} (t : Tbs K H) (s : Same H H') : Tbs K H':=⟨t.l.up s,t.m.up s,t.ne⟩
theorem k8 {H H' : Hp} {p q : Addr} {pos : Pos} {qual : Str} (t : TabOk H p pos qual) (s : SameT q H H') (ne : p ≠ q) (hq : ∃ ps,H q = some (.tbl ps)) : TabOk H' p pos qual:=by
  obtain ⟨ps,h1,h2,h3⟩:=t
  refine ⟨ps,s _ _ ne h1,h2,?_⟩
  rcases h3 with h | ⟨c,o,vs,t,h4,h5,h6⟩
  · exact .inl h
  · exact .inr ⟨c,o,vs,t,h4,s _ _ (fun z=>by obtain ⟨qs,hq⟩:=hq; rw [z,hq] at h5; cases h5) h5,h6⟩
theorem Tbs.put {H : Hp} {a : Addr} {xs : List V} {o : HO} (t : Tbs K H) (h : H a = some (.lst xs)) : Tbs K (upd H a o):=by
  have go : ∀ {p : Addr} {pos : Pos} {qual : Str},TabOk H p pos qual→TabOk (upd H a o) p pos qual:=fun {p pos qual} t=>by
    obtain ⟨ps,h1,h2,h3⟩:=t
    refine ⟨ps,by rw [aq (fun z=>by rw [z,h] at h1; cases h1)]; exact h1,h2,?_⟩
    rcases h3 with z | ⟨c,o',vs,t,h4,h5,h6⟩
    · exact .inl z
    · exact .inr ⟨c,o',vs,t,h4,by rw [aq (fun z=>by rw [z,h] at h5; cases h5)]; exact h5,h6⟩
  exact ⟨go t.l,go t.m,t.ne⟩
abbrev rWs : Rel (List Wy):=jG (rT2 cg cg)
theorem mono_ws : MonoR rWs:=gq (cw aQ aQ)
theorem cC {H : Hp} {r : List Wy} {v : V} (h : rWs H r v) : ∃ a us,v = .ref a∧H a = some (.lst us)∧us.length = r.length∧∀ (i : Nat) (p : Wy),r[i]? = some p→∃ t,us[i]? = some (.ref t)∧H t = some (.tup [.int p.1,.int p.2]):=by
  obtain ⟨a,us,rfl,ha,pr⟩:=h
  refine ⟨a,us,rfl,ha,(dt pr).symm,fun i p hp=>?_⟩
  obtain ⟨u,hu,t,x,y,rfl,ht,rfl,rfl⟩:=L2.Paired.at pr hp
  exact ⟨t,hu,ht⟩
def nJ (K : PySem.W.Frag) (mx : Bool) : Sp:=fun vs H Q _=>∃ (v : V) (ta : Addr) (ws : List Wy) (T : List (Option Int)),vs = [v,.ref ta]∧rWs (nt H) ws v∧nt H ta = some (.lst (tV T))∧ws ≠ []∧(∀ w ∈ ws,0 ≤ w.1∧w.1 < T.length)∧Tbs K H ∧
  ∀ (t : Addr) (w : Wy) (H' : Hp),Sm H H'→Tbs K H'→w ∈ ws→(∀ w' ∈ ws,if mx then leO (ao (tbF T) w') (ao (tbF T) w) else leO (ao (tbF T) w) (ao (tbF T) w'))→nt H' t = some (.tup [.int w.1,.int w.2])→Q (.ref t) H'
theorem sF (F : DefAt K mg "least_needy" bo ["ways","purses"]) (T : Txt mg) (L : fC K mg "least_needy") (D_need_by : Dn P w K mg base "need_by" 1 ["purses","place","amount"] dm) (D_need_order : Dn P w K mg base "need_order" 1 ["need"] fV) : Dn P w K mg base "least_needy" 4 ["ways","purses"] (nJ K false):=by
  have sc:=gy
  refine DefAt.okL F L sc (fun vs H Q E h=>?_) (fun f cdv A outer s H vs Q E LD hr h=>?_)
  · obtain ⟨_,_,_,_,rfl,_⟩:=h; rfl
  obtain ⟨v,ta,ws,TT,rfl,hv,hta,ne,rg,tb,q⟩:=h
  obtain ⟨wl,us,rfl,hwl,ul,hat⟩:=cC hv
  refine ⟨_,fun MD=>(ag (aC (qm (k:=1) (j:=1) (LD MD) hr rfl rfl T.b_min (aa (pv 0) ad) rfl rfl rfl (by decide +kernel) (by decide +kernel) rfl rfl (fun _ _ _ _ _=>rfl) (fun cl q cdv s H=>(az D_need_order (Room.deeper (Room.in1 hr) _) (aa (az D_need_by (Room.deeper (Room.in1 hr) _) (aa (pv 1) (aa (ax (ixT (K:=K) rfl) (pv 0) ab (fun _ _=>rfl)) (aa (ax (ixT (K:=K) rfl) (pv 0) ab (fun _ _=>rfl)) ad)))) ad)))))),?_⟩
  obtain ⟨ps,hP,_⟩:=id tb.l
  have une : us ≠ []:=fun z=>ne (List.length_eq_zero_iff.mp (by rw [← ul,z]; rfl))
  have wat : ∀ {i : Nat} {x : V},us[i]? = some x→∃ t wi,x = .ref t∧ws[i]? = some wi∧ws.getD i (0,0) = wi∧nt H t = some (.tup [.int wi.1,.int wi.2]):=fun {i x} hx=>by
    have il : i < ws.length:=by rw [← ul]; exact (List.getElem?_eq_some_iff.mp hx).1
    obtain ⟨t,h1,h2⟩:=hat i _ (List.getElem?_eq_getElem il)
    rw [hx] at h1
    injection h1 with h1
    exact ⟨t,ws[i],h1,List.getElem?_eq_getElem il,by rw [List.getD_eq_getElem?_getD,List.getElem?_eq_getElem il]; rfl,h2⟩
  refine ⟨_,rfl,tb.l,wl,us,.ref ta,fun i=>nk (ao (tbF TT) (ws.getD i (0,0))),rfl,aj _ _ hwl,une,rfl,fun i x H2 hx sT=>?_,fun i x H2 hx bst sT tab2=>?_⟩
  · obtain ⟨t,wi,rfl,h1,h2,h3⟩:=wat hx
    have sm:=Sm.ofT sT hP
    have ht:=sm.tup h3
    have rgi:=rg wi (List.mem_of_getElem? h1)
    refine ⟨_,rfl,_,rfl,t,_,_,_,rfl,rfl,SqT.of ht,ar (j:=0) rfl,_,rfl,t,_,_,_,rfl,rfl,SqT.of ht,ar (j:=1) rfl,ta,TT,wi.1,wi.2,rfl,sm.lst hta,rgi.1,rgi.2,_,rfl,fun t' ht'=>⟨ah ht' _,t',rfl,?_⟩⟩
    rw [ae]
    show some (HO.tup (cR (nk (ao (tbF TT) wi)))) = some (HO.tup (cR (nk (ao (tbF TT) (ws.getD i (0,0))))))
    rw [h2]
  · obtain ⟨t,wi,rfl,h1,h2,h3⟩:=wat hx
    have sm:=Sm.ofT sT hP
    refine q t wi H2 sm ⟨tab2,k8 tb.m sT (Ne.symm tb.ne) ⟨_,hP⟩,tb.ne⟩ (List.mem_of_getElem? h1) (fun w' hw'=>?_) (sm _ _ h3)
    obtain ⟨j,hj⟩:=List.getElem?_of_mem hw'
    have jl:=(List.getElem?_eq_some_iff.mp hj).1
    have b:=(bst j (by rw [ul]; exact jl)).1
    have hj2 : ws.getD j (0,0) = w':=by rw [List.getD_eq_getElem?_getD,hj]; rfl
    have b : ¬ lt2 (nk (ao (tbF TT) (ws.getD j (0,0)))) (nk (ao (tbF TT) (ws.getD i (0,0)))):=b
    rw [h2,hj2] at b
    exact Classical.byContradiction fun z=>b (nk_lt.mpr z)
theorem sv (F : DefAt K mg "most_needy" bE ["ways","purses"]) (T : Txt mg) (L : fC K mg "most_needy") (D_need_by : Dn P w K mg base "need_by" 1 ["purses","place","amount"] dm) (D_need_order : Dn P w K mg base "need_order" 1 ["need"] fV) : Dn P w K mg base "most_needy" 4 ["ways","purses"] (nJ K true):=by
  have sc:=g8
  refine DefAt.okL F L sc (fun vs H Q E h=>?_) (fun f cdv A outer s H vs Q E LD hr h=>?_)
  · obtain ⟨_,_,_,_,rfl,_⟩:=h; rfl
  obtain ⟨v,ta,ws,TT,rfl,hv,hta,ne,rg,tb,q⟩:=h
  obtain ⟨wl,us,rfl,hwl,ul,hat⟩:=cC hv
  refine ⟨_,fun MD=>(ag (aC (pZ (k:=1) (j:=1) (LD MD) hr rfl rfl T.b_max (aa (pv 0) ad) rfl rfl rfl (by decide +kernel) (by decide +kernel) rfl rfl (fun _ _ _ _ _=>rfl) (fun cl q cdv s H=>(az D_need_order (Room.deeper (Room.in1 hr) _) (aa (az D_need_by (Room.deeper (Room.in1 hr) _) (aa (pv 1) (aa (ax (ixT (K:=K) rfl) (pv 0) ab (fun _ _=>rfl)) (aa (ax (ixT (K:=K) rfl) (pv 0) ab (fun _ _=>rfl)) ad)))) ad)))))),?_⟩
  obtain ⟨ps,hP,_⟩:=id tb.m
  have une : us ≠ []:=fun z=>ne (List.length_eq_zero_iff.mp (by rw [← ul,z]; rfl))
  have wat : ∀ {i : Nat} {x : V},us[i]? = some x→∃ t wi,x = .ref t∧ws[i]? = some wi∧ws.getD i (0,0) = wi∧nt H t = some (.tup [.int wi.1,.int wi.2]):=fun {i x} hx=>by
    have il : i < ws.length:=by rw [← ul]; exact (List.getElem?_eq_some_iff.mp hx).1
    obtain ⟨t,h1,h2⟩:=hat i _ (List.getElem?_eq_getElem il)
    rw [hx] at h1
    injection h1 with h1
    exact ⟨t,ws[i],h1,List.getElem?_eq_getElem il,by rw [List.getD_eq_getElem?_getD,List.getElem?_eq_getElem il]; rfl,h2⟩
  refine ⟨_,rfl,tb.m,wl,us,.ref ta,fun i=>nk (ao (tbF TT) (ws.getD i (0,0))),rfl,aj _ _ hwl,une,rfl,fun i x H2 hx sT=>?_,fun i x H2 hx bst sT tab2=>?_⟩
  · obtain ⟨t,wi,rfl,h1,h2,h3⟩:=wat hx
    have sm:=Sm.ofT sT hP
    have ht:=sm.tup h3
    have rgi:=rg wi (List.mem_of_getElem? h1)
    refine ⟨_,rfl,_,rfl,t,_,_,_,rfl,rfl,SqT.of ht,ar (j:=0) rfl,_,rfl,t,_,_,_,rfl,rfl,SqT.of ht,ar (j:=1) rfl,ta,TT,wi.1,wi.2,rfl,sm.lst hta,rgi.1,rgi.2,_,rfl,fun t' ht'=>⟨ah ht' _,t',rfl,?_⟩⟩
    rw [ae]
    show some (HO.tup (cR (nk (ao (tbF TT) wi)))) = some (HO.tup (cR (nk (ao (tbF TT) (ws.getD i (0,0))))))
    rw [h2]
  · obtain ⟨t,wi,rfl,h1,h2,h3⟩:=wat hx
    have sm:=Sm.ofT sT hP
    refine q t wi H2 sm ⟨k8 tb.l sT tb.ne ⟨_,hP⟩,tab2,tb.ne⟩ (List.mem_of_getElem? h1) (fun w' hw'=>?_) (sm _ _ h3)
    obtain ⟨j,hj⟩:=List.getElem?_of_mem hw'
    have jl:=(List.getElem?_eq_some_iff.mp hj).1
    have b:=(bst j (by rw [ul]; exact jl)).1
    have hj2 : ws.getD j (0,0) = w':=by rw [List.getD_eq_getElem?_getD,hj]; rfl
    have b : ¬ lt2 (nk (ao (tbF TT) (ws.getD i (0,0)))) (nk (ao (tbF TT) (ws.getD j (0,0)))):=fun z=>b (show lt2 (ngK (fun i=>nk (ao (tbF TT) (ws.getD i (0,0)))) j) (ngK (fun i=>nk (ao (tbF TT) (ws.getD i (0,0)))) i) from ng_lt.mpr z)
    rw [h2,hj2] at b
    exact Classical.byContradiction fun z=>b (nk_lt.mpr z)
abbrev rPu : Rel (List ak):=jG (rT2 cg rWs)
abbrev rLf : Rel Lf:=jG rWs
theorem mono_pu : MonoR rPu:=gq (cw aQ mono_ws)
theorem mono_lf : MonoR rLf:=gq mono_ws
theorem cq {H : Hp} {G : List ak} {v : V} (h : rPu H G v) : ∃ a us,v = .ref a∧H a = some (.lst us)∧us.length = G.length∧∀ (i : Nat) (r : ak),G[i]? = some r→∃ t wl,us[i]? = some (.ref t)∧H t = some (.tup [.int r.1,.ref wl])∧rWs H r.2 (.ref wl):=by
  obtain ⟨a,us,rfl,ha,pr⟩:=h
  refine ⟨a,us,rfl,ha,(dt pr).symm,fun i r hr=>?_⟩
  obtain ⟨u,hu,t,x,y,rfl,ht,rfl,hy⟩:=L2.Paired.at pr hr
  obtain ⟨wl,ws,rfl,hw⟩:=id hy
  exact ⟨t,wl,hu,ht,hy⟩
def oU : Sp:=fun vs H Q _=>∃ (v : V) (G : List ak) (ra : Addr) (r : List (Option Int)),vs = [v,.ref ra]∧rPu H G v∧H ra = some (.lst (tV r))∧GPk G∧RlP G r∧G.length ≤ 16∧(∀ row ∈ G,row.2.length ≤ 100)∧∀ u H',Same H H'→rLf H' (av G r) u→Q u H'
theorem ir {G : List ak} {r : List (Option Int)} {i : Nat} {row : ak} {o : Option Int} (h1 : G[i]? = some row) (h2 : r[i]? = some o) : av (G.take (i + 1)) (r.take (i + 1)) = av (G.take i) (r.take i) ++ [match o with | none=>row.2 | some p=>[(p,amP row.2 p)]]:=by
  unfold av
  have l1:=(List.getElem?_eq_some_iff.mp h1).1
  have l2:=(List.getElem?_eq_some_iff.mp h2).1
  rw [List.take_succ,List.take_succ,h1,h2,List.zipWith_append (by rw [List.length_take,List.length_take]; omega)]
  rfl
theorem fU {G : List ak} {r : List (Option Int)} (h : RlP G r) {i : Nat} {row : ak} (hr : G[i]? = some row) : (r[i]? = some none∧row.1 ≠ 1) ∨ ∃ w ∈ row.2,r[i]? = some (some w.1)∧row.1 = 1:=by
  by_cases c : row.1 = 1
  · obtain ⟨w,hw,e⟩:=(h.2 i row hr).2 c
    exact .inr ⟨w,hw,e,c⟩
  · exact .inl ⟨(h.2 i row hr).1 c,c⟩
def dcW (ws : List Wy) : List (Key × V):=ws.map fun w=>(Sum.inl w.1,V.int w.2)
theorem lw : ∀ {l c : List (Key × V)},((c ++ l).map (·.1)).Nodup→l.foldl (fun c p=>gU c p.1 p.2) c = c ++ l
  | [],c,_=>(List.append_nil c).symm
  | p :: l,c,h=>by
    have e : gU c p.1 p.2 = c ++ [p]:=by
      unfold gU
      rw [if_neg]
      intro ha
      obtain ⟨kv,hm,he⟩:=List.any_eq_true.mp ha
      rw [List.map_append,List.nodup_append] at h
      exact h.2.2 kv.1 (List.mem_map.mpr ⟨kv,hm,rfl⟩) p.1 (by simp) (of_decide_eq_true he)
    rw [List.foldl_cons,e,lw (by rw [List.append_assoc]; exact h),List.append_assoc]; rfl
theorem jn {ws : List Wy} (nd : (ws.map (·.1)).Nodup) : d5 [] (dcW ws) = dcW ws:=by
  unfold d5
  rw [lw,List.nil_append]
  rw [List.nil_append]
  unfold dcW
  rw [List.map_map]
  have : (ws.map ((fun x=>x.1) ∘ fun w=>((Sum.inl w.1 : Key),V.int w.2))) = (ws.map (·.1)).map Sum.inl:=by rw [List.map_map]; rfl
  rw [this,List.Nodup,List.pairwise_map]
  exact nd.imp fun {a b} h e=>h (by injection e)
theorem gB {ws : List Wy} (nd : (ws.map (·.1)).Nodup) {x : Wy} (hx : x ∈ ws) : fF (dcW ws) (Sum.inl x.1) = some (V.int x.2):=by
  unfold dcW fF
  induction ws with
  | nil=>cases hx
  | cons y ws ih =>
    rw [List.map_cons,List.nodup_cons] at nd
    rw [List.map_cons]
    rcases List.mem_cons.mp hx with e | e
    · rw [e,List.find?_cons_of_pos (by exact decide_eq_true rfl)]; rfl
    · rw [List.find?_cons_of_neg]
      · exact ih nd.2 e
      · intro z
        have:=of_decide_eq_true z
        injection this with this
        exact nd.1 (by rw [this]; exact List.mem_map.mpr ⟨x,e,rfl⟩)
theorem j1 {H : Hp} : ∀ {ws : List Wy} {us : List V},Paired (rT2 cg cg H) ws us→∃ ts : List (Addr × Key × V),us = ts.map (fun t=>V.ref t.1)∧(∀ t ∈ ts,H t.1 = some (.tup [kV t.2.1,t.2.2]))∧ts.map (fun t=>t.2) = dcW ws
  | _,_,.nil=>⟨[],rfl,(fun _ z=>by cases z),rfl⟩
  | _,_,.cons h t=>by
    obtain ⟨ts,e1,e2,e3⟩:=j1 t
    obtain ⟨c,x,y,rfl,hc,rfl,rfl⟩:=h
    rename_i p _ _
    refine ⟨(c,Sum.inl p.1,V.int p.2) :: ts,by rw [e1]; rfl,fun t ht=>?_,by rw [List.map_cons,e3]; rfl⟩
    rcases List.mem_cons.mp ht with rfl | ht
    · exact hc
    · exact e2 t ht
structure Bd {α : Type} (R : Rel α) (H H2 : Hp) (g : Addr) (xs : List α) : Prop where
  g0 : H g = none
  s : Same H H2
  ex : ∃ vs,H2 g = some (.lst vs)∧Paired (R (del H2 g)) xs vs
section
variable {α : Type} {R : Rel α} {H H1 H2 H3 : Hp} {g : Addr} {xs : List α}
theorem Bd.start (h : H g = none) : Bd R H (upd H g (.lst [])) g []:=⟨h,ah h _,[],ae,.nil⟩
theorem Bd.go (m : MonoR R) (b : Bd R H H2 g xs) (s : Same H2 H3) : Bd R H H3 g xs:=by
  obtain ⟨g0,s0,vs,h,p⟩:=b
  exact ⟨g0,s0.trans s,vs,s _ _ h,bi m (bI s g) p⟩
theorem Bd.sq (b : Bd R H H2 g xs) : ∃ vs,H2 g = some (.lst vs)∧vs.length = xs.length:=by
  obtain ⟨vs,h,p⟩:=b.ex
  exact ⟨vs,h,(dt p).symm⟩
theorem Bd.push (m : MonoR R) (b : Bd R H H2 g xs) (s : Same H2 H3) {x : α} {v : V} (r : R (del H3 g) x v) : ∃ vs,H3 g = some (.lst vs)∧vs.length = xs.length∧Bd R H (upd H3 g (.lst (vs ++ [v]))) g (xs ++ [x]):=by
  obtain ⟨g0,s0,vs,h,p⟩:=b.go m s
  refine ⟨vs,h,(dt p).symm,g0,s0.put g0 _,vs ++ [v],ae,?_⟩
  rw [bY]
  exact L2.Paired.app p (.cons r .nil)
theorem Bd.done (m : MonoR R) (b : Bd R H H2 g xs) : jG R H2 xs (.ref g):=by
  obtain ⟨g0,s0,vs,h,p⟩:=b
  exact ⟨g,vs,rfl,h,bi m (bG _ _) p⟩
theorem Bd.old (b : Bd R H H2 g xs) : Same H (del H2 g):=fun c o e=>by
  have : c ≠ g:=fun z=>by rw [z,b.g0] at e; cases e
  rw [aU this]; exact b.s _ _ e
end
theorem qF (F : DefAt K mg "ways_left" cr ["game","rule"]) (T : Txt mg) : Dn P w K mg base "ways_left" 1 ["game","rule"] oU:=by
  have sc:=jb
  refine F.ok sc (fun vs H Q E h=>?_) (fun f cdv A outer s H vs Q E hr h=>?_)
  · obtain ⟨_,_,_,_,rfl,_⟩:=h; rfl
  obtain ⟨v,G,ra,r,rfl,hv,hra,g,rl,few,few2,q⟩:=h
  obtain ⟨a,us,rfl,ha,ul,hat⟩:=cq hv
  refine ⟨_,(ac (au (i:=2) sc.nd rfl (Or.inl rfl) (bU ad))
      (ac (bu PassesOwn.never rfl (jk (K:=K) rfl rfl T.b_zip (aa (pv 0) (aa (pv 1) ad))) (dE rfl (aO (aD (i:=3) sc.nd rfl (Or.inl rfl)) (aO (aD (i:=4) sc.nd rfl (Or.inl rfl)) cO)))
      (ag (aM (dq PySem.F.plainAttrs_list PySem.F.slot_list_append PySem.F.type_list_append bg (pv 2) (aa (cY (b8 (dZ (pv 4))) (cZ (rH (K:=K) rfl) rfl T.b_list PyProof.Rows.boot_list (aa (ax (ixT (K:=K) rfl) (pv 3) ab (fun _ _=>rfl)) ad)) (bU (aa (cH (aa (pv 4) (aa (fT (iW hr 1) (cZ (bK (K:=K) rfl rfl) rfl T.b_dict PyProof.Rows.boot_dict (aa (ax (ixT (K:=K) rfl) (pv 3) ab (fun _ _=>rfl)) ad)) (pv 4) (fun _ _=>rfl)) ad))) ad))) ad)))))
      (ag (aC (pv 2))))),?_⟩
  refine ⟨Nat.zero_le _,fun gl hgl=>?_⟩
  have s1:=ah hgl (.lst [])
  refine ⟨_,rfl,_,rfl,a,ra,rfl,⟨_,SqL.of (s1 _ _ ha)⟩,⟨_,SqL.of (s1 _ _ hra)⟩,fQ (K:=K) (a:=a) (b:=ra) (xs:=us) (ys:=tV r) (by rw [bz,ul,rl.1]) (fun i σ H2=>∃ y1 y2 : Option V,σ = [some (.ref a),some (.ref ra),some (.ref gl),y1,y2]∧Bd rWs H H2 gl (av (G.take i) (r.take i))) ⟨_,_,rfl,Bd.start hgl⟩ (fun i σ H2 _ h=>?_) (fun i x y σ H2 tt hx hy h htt=>?_) (fun σ H2 h=>?_)⟩
  · obtain ⟨_,_,_,b⟩:=h
    exact ⟨SqL.of (b.s _ _ ha),SqL.of (b.s _ _ hra)⟩
  · obtain ⟨y1,y2,rfl,b⟩:=h
    have il : i < G.length:=by rw [← ul]; exact (List.getElem?_eq_some_iff.mp hx).1
    obtain ⟨t,wl,hu,ht,hw⟩:=hat i _ (List.getElem?_eq_getElem il)
    rw [hx] at hu
    injection hu with hu
    subst hu
    have gk:=g _ (List.getElem_mem il)
    have f2:=few2 _ (List.getElem_mem il)
    have s3:=ah htt (.tup [V.ref t,y])
    have b3:=b.go mono_ws s3
    have ht3:=b3.s _ _ ht
    have hw3:=mono_ws.up b3.s hw
    obtain ⟨gvs,hgv,gvl⟩:=b3.sq
    have gll : (av (G.take i) (r.take i)).length ≤ 16:=by unfold av; rw [List.length_zipWith,List.length_take,List.length_take]; omega
    refine ⟨tt,_,rfl,SqT.of ae,rfl,_,_,rfl,_,_,rfl,rfl,?_⟩
    refine ⟨_,rfl,.inl ⟨rfl,_,SqL.of hgv⟩,_,rfl,_,rfl,?_⟩
    unfold tV at hy
    rw [List.getElem?_map] at hy
    obtain ⟨o,ho,rfl⟩:=Option.map_eq_some_iff.mp hy
    rcases fU rl (List.getElem?_eq_getElem il) with ⟨e,_⟩ | ⟨wy,hwy,e,_⟩
    · rw [ho] at e
      injection e with e
      subst e
      refine cS ?_
      obtain ⟨_,wus,e0,hwu,pw⟩:=id hw3
      cases e0
      refine ⟨_,rfl,t,_,_,_,rfl,rfl,SqT.of ht3,ar (j:=1) rfl,wl,_,rfl,.inl (SqL.of hwu),fun lc hlc=>?_⟩
      have s4:=s3.trans (ah hlc (.lst wus))
      have b4:=b.go mono_ws s4
      have nlc : lc ≠ gl:=fun z=>by rw [z,hgv] at hlc; cases hlc
      obtain ⟨vs5,k1,k2,b5⟩:=b.push mono_ws s4 (x:=G[i].2) (v:=.ref lc) ⟨lc,wus,rfl,by rw [aU nlc]; exact ae,by
        obtain ⟨_,us0,e0,h0,p0⟩:=mono_ws.up b4.old hw
        cases e0
        have e5:=(s4.trans (Same.refl _)) _ _ (b.s _ _ (show H wl = some (.lst us0) by
          obtain ⟨_,us1,e1,h1,p1⟩:=id hw
          cases e1
          have:=b4.old _ _ h1
          rw [this] at h0; cases h0; exact h1))
        have e6:=ah hlc (.lst wus) _ _ hwu
        rw [e6] at e5
        cases e5
        exact p0⟩
      refine ⟨gl,vs5,_,rfl,rfl,k1,fg (m:=1000) (by omega),_,_,rfl,?_⟩
      rw [ir (List.getElem?_eq_getElem il) ho]
      exact b5
    · rw [ho] at e
      injection e with e
      subst e
      refine bj ?_
      have aw : amP G[i].2 wy.1 = wy.2:=em gk.2.1 hwy
      obtain ⟨_,wus,e0,hwu,pw⟩:=id hw3
      cases e0
      obtain ⟨ts,rfl,t2,t3⟩:=j1 pw
      refine ⟨_,rfl,_,rfl,t,_,_,_,rfl,rfl,SqT.of ht3,ar (j:=1) rfl,wl,ts,rfl,SqL.of hwu,fun z hz=>SqT.of (t2 z hz),fun dp hdp=>?_⟩
      rw [t3,jn gk.2.1]
      have s4:=s3.trans (ah hdp (.dK (dcW G[i].2)))
      refine ⟨_,rfl,dp,V.int wy.2,rfl,by rw [← gB gk.2.1 hwy]; exact DGet.k (k:=Sum.inl wy.1) ae,(by show 2 ≤ sizeLine; decide),fun tp htp=>⟨(by show 1 ≤ sizeLine; decide),fun lc hlc=>?_⟩⟩
      have s5:=s4.trans ((ah htp (.tup [V.int wy.1,V.int wy.2])).trans (ah hlc (.lst [V.ref tp])))
      have g5:=s5 _ _ (show H2 gl = some (.lst gvs) by obtain ⟨vs9,h9,_⟩:=b.ex; have:=s3 _ _ h9; rw [hgv] at this; cases this; exact h9)
      have nlc : lc ≠ gl:=fun z=>by
        have:=(s4.trans (ah htp (.tup [V.int wy.1,V.int wy.2]))) _ _ (show H2 gl = some (.lst gvs) by obtain ⟨vs9,h9,_⟩:=b.ex; have:=s3 _ _ h9; rw [hgv] at this; cases this; exact h9)
        rw [← z] at this
        have:=hlc.symm.trans this
        cases this
      have ntp : tp ≠ gl:=fun z=>by
        have:=s4 _ _ (show H2 gl = some (.lst gvs) by obtain ⟨vs9,h9,_⟩:=b.ex; have:=s3 _ _ h9; rw [hgv] at this; cases this; exact h9)
        rw [← z,htp] at this; cases this
      obtain ⟨vs5,k1,k2,b5⟩:=b.push mono_ws s5 (x:=[(wy.1,wy.2)]) (v:=.ref lc) ⟨lc,_,rfl,by rw [aU nlc]; exact ae,.cons ⟨tp,_,_,rfl,by rw [aU ntp]; exact ah hlc _ _ _ ae,rfl,rfl⟩ .nil⟩
      refine ⟨gl,vs5,_,rfl,rfl,k1,fg (m:=1000) (by omega),_,_,rfl,?_⟩
      rw [ir (List.getElem?_eq_getElem il) ho]
      show Bd rWs H _ gl (_ ++ [[(wy.1,amP G[i].2 wy.1)]])
      rw [aw]; exact b5
  · obtain ⟨_,_,rfl,b⟩:=h
    rw [ul,List.take_length,show G.length = r.length from rl.1.symm,List.take_length] at b
    exact ⟨_,rfl,q _ _ b.s (b.done mono_ws)⟩
abbrev qu (G : Tb) (q v : Int) : Tb:=fun p=>if p = q then some v else G p
theorem lD {G : List (Option Int)} {q v : Int} (h0 : 0 ≤ q) (h1 : q < G.length) : tbF (G.set q.toNat (some v)) = qu (tbF G) q v:=by
  funext x
  unfold tbF qu
  by_cases e : x = q
  · subst e
    rw [if_pos h0,if_pos rfl,List.getElem?_set_self (by omega)]; rfl
  · rw [if_neg e]
    by_cases c : 0 ≤ x
    · rw [if_pos c,List.getElem?_set_ne (by omega)]
      show _ = if 0 ≤ x then _ else _
      rw [if_pos c]
    · rw [if_neg c]
      show _ = if 0 ≤ x then _ else _
      rw [if_neg c]
theorem kU {n : Nat} {z : Int} (h0 : 0 ≤ z) (h : z.toNat < n) : ixN n z = some z.toNat:=by
  unfold ixN; rw [if_pos h0,if_pos (by omega)]
theorem kx {G : List (Option Int)} {k : Nat} {o : Option Int} : (tV G).set k (oV o) = tV (G.set k o):=by unfold tV; rw [List.map_set]
structure GnI (W : Lf) (z : Int) (pl : Int) (g0 : Int) (ws : List Wy) (G0 G : Tb) : Prop where
  good : GoodG W z G
  up : UpG G0 G
  at_ : geO (G pl) g0
  out : ∀ w ∈ ws,0 ≤ g0 + w.2→geO (G w.1) (g0 + w.2)
def qJ : Sp:=fun vs H Q _=>∃ (ga : Addr) (v : V) (pl : Int) (G : List (Option Int)) (ws : List Wy) (W : Lf) (z g0 : Int),vs = [.ref ga,v,.int pl]∧H ga = some (.lst (tV G))∧rWs (del H ga) ws v∧0 ≤ pl∧pl < G.length∧(∀ w ∈ ws,0 ≤ w.1∧w.1 < G.length)∧(∀ w ∈ ws,w ∈ aV W pl)∧GoodG W z (tbF G)∧tbF G pl = some g0 ∧
  ∀ (G' : List (Option Int)),G'.length = G.length→GnI W z pl g0 ws (tbF G) (tbF G')→Q .non (upd H ga (.lst (tV G')))
theorem rV (F : DefAt K mg "add_gains" cp ["gains","ways","place"]) (T : Txt mg) : Dn P w K mg base "add_gains" 1 ["gains","ways","place"] qJ:=by
  have sc:=ja
  refine F.ok sc (fun vs H Q E h=>?_) (fun f cdv A outer s H vs Q E hr h=>?_)
  · obtain ⟨_,_,_,_,_,_,_,_,rfl,_⟩:=h; rfl
  obtain ⟨ga,v,pl,G,ws,W,z,g0,rfl,hga,hv,p0,p1,rg,hout,good,hg0,q⟩:=h
  obtain ⟨wl,us,rfl,hwl,ul,hat⟩:=cC hv
  have nwl : wl ≠ ga:=fun e=>by rw [e] at hwl; unfold del at hwl; rw [if_pos rfl] at hwl; cases hwl
  have dl : ∀ {c : Addr} {o : HO},del H ga c = some o→c ≠ ga∧H c = some o:=fun {c o} e=>by
    have n : c ≠ ga:=fun z=>by rw [z] at e; unfold del at e; rw [if_pos rfl] at e; cases e
    exact ⟨n,by rw [aU n] at e; exact e⟩
  refine ⟨_,(ag (bu PassesOwn.never rfl (cf (pv 1)) (dE rfl (aO (aD (i:=3) sc.nd rfl (Or.inl rfl)) (aO (aD (i:=4) sc.nd rfl (Or.inl rfl)) cO)))
      (ac (au (i:=5) sc.nd rfl (Or.inl rfl) (ai aS (ax (ixL (K:=K) rfl) (pv 0) (pv 2) (fun _ _=>rfl)) (pv 4)))
      (ag (aZ (PW.pt (e7 (aG jO (pv 5) ab (aB _)) (dG (PW.pt (eB (b8 (dZ (ax (ixL (K:=K) rfl) (pv 0) (pv 3) (fun _ _=>rfl)))) (dF (aG qU (pv 5) (ax (ixL (K:=K) rfl) (pv 0) (pv 3) (fun _ _=>rfl)) (aB _))))))))
      (ag (kB (pv 5) (kN (pv 0) (pv 3) fY)))
      aE))))),?_⟩
  refine ⟨_,rfl,wl,rfl,⟨_,SqL.of (dl hwl).2⟩,gP (K:=K) (a:=wl) (xs:=us) (fun i σ H2=>∃ (G' : List (Option Int)) (y1 y2 y3 : Option V),σ = [some (.ref ga),some (.ref wl),some (.int pl),y1,y2,y3]∧H2 = upd H ga (.lst (tV G'))∧G'.length = G.length∧GnI W z pl g0 (ws.take i) (tbF G) (tbF G'))
    ⟨G,_,_,_,rfl,(by funext c; by_cases e : c = ga; subst e; rw [ae,hga]; rw [aq e]),rfl,good,UpG.refl _,⟨g0,hg0,Int.le_refl _⟩,fun _ z=>by cases z⟩ (fun i σ H2 _ h=>?_) (fun i x σ H2 hi h=>?_) (fun σ H2 h=>?_)⟩
  · obtain ⟨_,_,_,_,_,rfl,_⟩:=h
    exact SqL.of (by rw [aq nwl]; exact (dl hwl).2)
  · obtain ⟨G',y1,y2,y3,rfl,rfl,gl,gn⟩:=h
    have il : i < ws.length:=by rw [← ul]; exact (List.getElem?_eq_some_iff.mp hi).1
    obtain ⟨t,hu,ht⟩:=hat i _ (List.getElem?_eq_getElem il)
    rw [hi] at hu
    injection hu with hu
    subst hu
    obtain ⟨nt1,ht1⟩:=dl ht
    have rgi:=rg _ (List.getElem_mem il)
    have oi:=hout _ (List.getElem_mem il)
    have htk : ws.take (i + 1) = ws.take i ++ [ws[i]]:=by rw [List.take_succ,List.getElem?_eq_getElem il]; rfl
    rw [htk]
    generalize ws[i] = wi at ht ht1 rgi oi
    obtain ⟨gp,hgp,hle⟩:=gn.at_
    have a1:=fA (T:=G') p0 (by omega)
    have a2:=fA (T:=G') rgi.1 (by omega)
    rw [hgp] at a1
    refine ⟨t,_,rfl,SqT.of (by rw [aq nt1]; exact ht1),rfl,_,_,rfl,_,_,rfl,rfl,?_⟩
    refine ⟨_,rfl,_,rfl,ga,_,_,_,rfl,rfl,SqL.of ae,a1,_,rfl,_,_,rfl,rfl,?_⟩
    have keep : (¬ (0 ≤ gp + wi.2) ∨ ∃ g,tbF G' wi.1 = some g∧gp + wi.2 ≤ g)→GnI W z pl g0 (ws.take i ++ [wi]) (tbF G) (tbF G'):=fun c=>⟨gn.good,gn.up,gn.at_,fun w' hw' h9=>by
      rcases List.mem_append.mp hw' with y | y
      · exact gn.out w' y h9
      · rw [List.mem_singleton.mp y] at h9 ⊢
        rcases c with c | ⟨g,e,c⟩
        · omega
        · exact ⟨g,e,by omega⟩⟩
    have putg : 0 ≤ gp + wi.2→(∀ g,tbF G' wi.1 = some g→g ≤ gp + wi.2)→GnI W z pl g0 (ws.take i ++ [wi]) (tbF G) (qu (tbF G') wi.1 (gp + wi.2)):=fun h0 hm=>by
      have u:=UpG.put (G:=tbF G') (q:=wi.1) (v:=gp + wi.2) hm
      refine ⟨gn.good.step hgp oi h0,gn.up.trans u,u _ _ gn.at_,fun w' hw' h9=>?_⟩
      rcases List.mem_append.mp hw' with y | y
      · exact u _ _ (gn.out w' y h9)
      · rw [List.mem_singleton.mp y]
        exact ⟨gp + wi.2,if_pos rfl,by omega⟩
    have fin : 0 ≤ gp + wi.2→(∀ g,tbF G' wi.1 = some g→g ≤ gp + wi.2)→∃ (G'' : List (Option Int)),upd (upd H ga (.lst (tV G'))) ga (.lst ((tV G').set wi.1.toNat (V.int (gp + wi.2)))) = upd H ga (.lst (tV G''))∧G''.length = G.length∧GnI W z pl g0 (ws.take i ++ [wi]) (tbF G) (tbF G''):=fun h0 hm=>by
      refine ⟨G'.set wi.1.toNat (some (gp + wi.2)),?_,by rw [List.length_set]; exact gl,by rw [lD rgi.1 (by omega)]; exact putg h0 hm⟩
      rw [dM,← kx]; rfl
    refine ⟨_,rfl,_,_,rfl,rfl,_,rfl,?_⟩
    refine cL (fun c=>?_) (fun c=>?_)
    · have c : 0 ≤ gp + wi.2:=of_decide_eq_true c
      refine ⟨_,rfl,_,rfl,ga,_,_,_,rfl,rfl,SqL.of ae,a2,_,rfl,?_⟩
      cases e : tbF G' wi.1 with
      | none =>
        refine cS (cS ?_)
        obtain ⟨G'',e1,e2,e3⟩:=fin c (fun g h=>by rw [e] at h; cases h)
        exact ⟨_,rfl,_,rfl,_,rfl,ga,_,_,_,rfl,rfl,ae,kU rgi.1 (by rw [bz]; omega),G'',_,_,_,rfl,e1,e2,e3⟩
      | some g =>
        rw [e] at a2
        refine bj ?_
        refine ⟨_,rfl,_,rfl,_,rfl,ga,_,_,_,rfl,rfl,SqL.of ae,a2,_,_,rfl,rfl,_,rfl,?_⟩
        refine cL (fun c2=>?_) (fun c2=>?_)
        · have c2 : g < gp + wi.2:=of_decide_eq_true c2
          obtain ⟨G'',e1,e2,e3⟩:=fin c (fun g' h=>by rw [e] at h; cases h; omega)
          exact ⟨_,rfl,_,rfl,_,rfl,ga,_,_,_,rfl,rfl,ae,kU rgi.1 (by rw [bz]; omega),G'',_,_,_,rfl,e1,e2,e3⟩
        · have c2 : ¬ g < gp + wi.2:=fun z=>c2 (decide_eq_true z)
          exact ⟨G',_,_,_,rfl,rfl,gl,keep (.inr ⟨g,e,by omega⟩)⟩
    · have c : ¬ 0 ≤ gp + wi.2:=fun z=>c (decide_eq_true z)
      refine bj ?_
      exact ⟨G',_,_,_,rfl,rfl,gl,keep (.inl c)⟩
  · obtain ⟨G',_,_,_,rfl,rfl,gl,gn⟩:=h
    rw [ul,List.take_length] at gn
    exact q G' gl gn
theorem sK : ∀ k : Nat,(List.replicate k [V.non]).flatten = tV (List.replicate k none)
  | 0=>rfl
  | k + 1=>by rw [List.replicate_succ,List.flatten_cons,sK k,List.replicate_succ]; rfl
theorem oP {k : Nat} {x : Int} : tbF (List.replicate k none) x = none:=by
  unfold tbF
  by_cases c : 0 ≤ x
  · rw [if_pos c,List.getElem?_replicate]
    by_cases d : x.toNat < k
    · rw [if_pos d]; rfl
    · rw [if_neg d]; rfl
  · rw [if_neg c]
theorem jE {H : Hp} {W : Lf} {v : V} (h : rLf H W v) : ∃ a us,v = .ref a∧H a = some (.lst us)∧us.length = W.length∧∀ (i : Nat) (r : List Wy),W[i]? = some r→∃ u,us[i]? = some u∧rWs H r u:=by
  obtain ⟨a,us,rfl,ha,pr⟩:=h
  exact ⟨a,us,rfl,ha,(dt pr).symm,fun i r hr=>L2.Paired.at pr hr⟩
theorem jw {W : Lf} {i : Nat} {r : List Wy} (h : W[i]? = some r) : aV W (i : Int) = r:=by unfold aV; rw [show ((i : Int)).toNat = i from rfl,h]; rfl
structure LfOk (W : Lf) : Prop where
  few : W.length ≤ 16
  fw2 : ∀ r ∈ W,r.length ≤ 100
  inw : InW W W.length
def nX : Sp:=fun vs H Q _=>∃ (v : V) (W : Lf) (z : Int),vs = [v,.int z]∧rLf H W v∧LfOk W∧0 ≤ z∧z < W.length∧∀ (b : Bool) H',Same H H'→(b = true→∃ r,Rg W z r)→(b = false→∀ r,Rg W z r→¬ r.length ≤ W.length)→Q (.bl b) H'
theorem pD (F : DefAt K mg "comes_back" bD ["left","start"]) (T : Txt mg) (D_add_gains : Dn P w K mg base "add_gains" 1 ["gains","ways","place"] qJ) : Dn P w K mg base "comes_back" 2 ["left","start"] nX:=by
  have sc:=hU
  refine F.ok sc (fun vs H Q E h=>?_) (fun f cdv A outer s H vs Q E hr h=>?_)
  · obtain ⟨_,_,_,rfl,_⟩:=h; rfl
  obtain ⟨v,W,z,rfl,hv,lo,z0,z1,q⟩:=h
  obtain ⟨a,us,rfl,ha,ul,hat⟩:=jE hv
  have few:=lo.few
  refine ⟨_,(ac (au (i:=2) sc.nd rfl (Or.inr rfl) (ai rS (bU (aa fb ad)) (aF (cD (K:=K) rfl) rfl T.b_len PySem.boot_len (aa (pv 0) ad))))
      (ac (kB ab (kN (pv 2) (pv 1) fY))
      (ac (bu PassesOwn.never rfl (bB rfl T.b_range (aa (aF (cD (K:=K) rfl) rfl T.b_len PySem.boot_len (aa (pv 0) ad)) ad)) (aD (i:=3) sc.nd rfl (Or.inl rfl))
      (ag (bu PassesOwn.never rfl (bB rfl T.b_range (aa (aF (cD (K:=K) rfl) rfl T.b_len PySem.boot_len (aa (pv 0) ad)) ad)) (aD (i:=4) sc.nd rfl (Or.inr rfl))
      (ag (aZ (b8 (eK (ax (ixL (K:=K) rfl) (pv 2) (pv 4) (fun _ _=>rfl))))
      (ac (aM (az D_add_gains hr (aa (pv 2) (aa (ax (ixL (K:=K) rfl) (pv 0) (pv 4) (fun _ _=>rfl)) (aa (pv 4) ad)))))
      (ag (aZ (n5 (jL (af bD) ["left","start","gains","turn","place"] ["way","amount","start","gains","place"] 2 [1,2,4] (cf (ax (ixL (K:=K) rfl) (pv 0) (pv 4) (fun _ _=>rfl))) (fun _ _ _ _ _ _=>(pA (K:=K) rfl rfl (show List.Nodup (["way","amount","start","gains","place"] : List Str) by decide +kernel) rfl rfl rfl rfl)) (fun _ _ _ _ _ _=>(qp (PW.pt (e7 (aG cN (pv 0) (pv 2) (aB _)) (dG (aG jO (ai aS (ax (ixL (K:=K) rfl) (pv 3) (pv 4) (fun _ _=>rfl)) (pv 1)) ab (aB _))))))) (fun _ _ _ _ _ _=>(pv 0))) (by intro _; rfl))
      (ag (aC dU))
      aE)))
      aE)))))
      (ag (aC dU))))),?_⟩
  refine ⟨(by show 1 ≤ sizeLine; decide),fun p1 h1=>?_⟩
  have s1:=ah h1 (.lst [V.non])
  have k1 : upd H p1 (.lst [V.non]) p1 = some (.lst [V.non]):=ae
  generalize upd H p1 (.lst [V.non]) = H1 at s1 k1 ⊢
  refine ⟨_,rfl,a,_,rfl,.inl (SqL.of (s1 _ _ ha)),p1,_,_,rfl,rfl,k1,by omega,by omega,di (m:=1000) (by rw [List.length_singleton]; omega),fun ga hga=>?_⟩
  rw [show (((us.length : Nat) : Int)).toNat = W.length by omega,sK]
  refine ⟨_,rfl,_,rfl,ga,_,_,_,rfl,rfl,ae,kU z0 (by rw [bz,List.length_replicate]; omega),?_⟩
  have hga0 : H ga = none:=s1.free hga
  have eh : upd (upd H1 ga (.lst (tV (List.replicate W.length none)))) ga (.lst ((tV (List.replicate W.length none)).set z.toNat (V.int 0))) = upd H1 ga (.lst (tV ((List.replicate W.length none).set z.toNat (some 0)))):=by rw [dM,← kx]; rfl
  rw [eh]
  have s2 : Same H (upd H1 ga (.lst (tV ((List.replicate W.length none).set z.toNat (some 0))))):=s1.put hga0 _
  have hg2 : upd H1 ga (.lst (tV ((List.replicate W.length none).set z.toNat (some 0)))) ga = some (.lst (tV ((List.replicate W.length none).set z.toNat (some 0)))):=ae
  generalize upd H1 ga (.lst (tV ((List.replicate W.length none).set z.toNat (some 0)))) = H2 at s2 hg2 ⊢
  have t0 : tbF ((List.replicate W.length none).set z.toNat (some 0)) = qu (tbF (List.replicate W.length none)) z 0:=lD z0 (by rw [List.length_replicate]; exact z1)
  have gd0 : GoodG W z (tbF ((List.replicate W.length none).set z.toNat (some 0))):=GoodG.start fun p g e=>by
    rw [t0] at e
    have e : (if p = z then some 0 else tbF (List.replicate W.length none) p) = some g:=e
    by_cases c : p = z
    · rw [if_pos c] at e; cases e; exact ⟨c,rfl⟩
    · rw [if_neg c,oP] at e; cases e
  have cm0 : Cmp W z 0 (tbF ((List.replicate W.length none).set z.toNat (some 0))):=Cmp.start (by rw [t0]; exact if_pos rfl)
  refine ⟨_,rfl,a,_,rfl,.inl (SqL.of (s2 _ _ ha)),((us.length : Nat) : Int),rfl,by omega,by omega,bP (lo:=0) (n:=((us.length : Nat) : Int).toNat) (fun t σ H3=>∃ (G : List (Option Int)) (y1 y2 : Option V),σ = [some (.ref a),some (.int z),some (.ref ga),y1,y2]∧Same H H3∧H3 ga = some (.lst (tV G))∧G.length = W.length∧GoodG W z (tbF G)∧Cmp W z t (tbF G))
    ⟨_,_,_,rfl,s2,hg2,by rw [List.length_set,List.length_replicate],gd0,cm0⟩ (fun t σ H3 ht h=>?_) (fun σ H3 h=>?_)⟩
  · obtain ⟨G,y1,y2,rfl,s3,hg3,gl,gd,cm⟩:=h
    refine ⟨_,rfl,a,_,rfl,.inl (SqL.of (s3 _ _ ha)),((us.length : Nat) : Int),rfl,by omega,by omega,bP (lo:=0) (n:=((us.length : Nat) : Int).toNat) (fun i σ H3=>∃ (G : List (Option Int)) (y1 y2 : Option V),σ = [some (.ref a),some (.int z),some (.ref ga),y1,y2]∧Same H H3∧H3 ga = some (.lst (tV G))∧G.length = W.length∧GoodG W z (tbF G)∧CmpM W z t i (tbF G))
      ⟨_,_,_,rfl,s3,hg3,gl,gd,cm.mid⟩ (fun i σ H4 hi h=>?_) (fun σ H4 h=>?_)⟩
    · clear s3 hg3 gl gd cm
      obtain ⟨G,y1,y2,rfl,s4,hg4,gl,gd,cm⟩:=h
      have il : i < W.length:=by omega
      have ap:=fA (T:=G) (x:=0 + (i : Int)) (by omega) (by omega)
      have ei : (0 + (i : Int)) = ((i : Nat) : Int):=by omega
      refine ⟨_,rfl,_,rfl,ga,_,_,_,rfl,rfl,SqL.of hg4,ap,_,rfl,?_⟩
      rw [ei] at ap ⊢
      cases e : tbF G (i : Int) with
      | none =>
        refine bj ?_
        exact ⟨G,_,_,rfl,s4,hg4,gl,gd,cm.skip e⟩
      | some g =>
        refine cS ?_
        obtain ⟨u,hu,hru⟩:=hat i _ (List.getElem?_eq_getElem il)
        have oi:=jw (List.getElem?_eq_getElem il)
        have fi:=lo.fw2 _ (List.getElem_mem il)
        have rgi : ∀ x ∈ W[i],0 ≤ x.1∧x.1 < (W.length : Int):=fun x hx=>lo.inw (i : Int) x (by rw [oi]; exact hx)
        have dH : Same H (del H4 ga):=fun c o e=>by
          have n : c ≠ ga:=fun z=>by rw [z,hga0] at e; cases e
          rw [aU n]; exact s4 _ _ e
        generalize W[i] = ws at hru oi fi rgi
        obtain ⟨wl,wus,rfl,hwl,wul,wat⟩:=cC hru
        refine ⟨_,rfl,_,rfl,_,rfl,a,_,_,_,rfl,rfl,SqL.of (s4 _ _ ha),ar hu,_,rfl,ga,_,_,G,ws,W,z,g,rfl,hg4,mono_ws.up dH hru,by omega,by omega,fun x hx=>by have:=rgi x hx; omega,fun x hx=>by rw [oi]; exact hx,gd,e,fun G' gl' gn=>?_⟩
        have s5 : Same H (upd H4 ga (.lst (tV G'))):=s4.put hga0 _
        have hg5 : upd H4 ga (.lst (tV G')) ga = some (.lst (tV G')):=ae
        generalize upd H4 ga (.lst (tV G')) = H5 at s5 hg5 ⊢
        obtain ⟨g',hg',gle⟩:=gn.at_
        have ap':=fA (T:=G') (x:=(i : Int)) (by omega) (by omega)
        rw [hg'] at ap'
        refine ⟨_,rfl,_,rfl,a,_,_,_,rfl,rfl,SqL.of (s5 _ _ ha),ar hu,wl,rfl,⟨_,SqL.of (s5 _ _ hwl)⟩,bL (K:=K) (a:=wl) (xs:=wus) (fun j ys H6=>Same H5 H6∧ys.length ≤ j∧((ys = []∧∀ x ∈ ws.take j,¬ (x.1 = z∧0 ≤ g' + x.2)) ∨ (ys ≠ []∧∃ x ∈ ws,x.1 = z∧0 ≤ g' + x.2))) ⟨Same.refl _,Nat.le_refl _,.inl ⟨rfl,fun _ z=>by cases z⟩⟩ (di (m:=1000) (by omega)) (fun j ys H6 hj h=>?_) (fun j x ys H6 hj h=>?_) (fun ys H6 h lb hlb=>?_)⟩
        · exact ⟨SqL.of (h.1 _ _ (s5 _ _ hwl)),h.2.1⟩
        · obtain ⟨s6,yl,h⟩:=h
          have jl : j < ws.length:=by rw [← wul]; exact (List.getElem?_eq_some_iff.mp hj).1
          obtain ⟨t,hu2,ht⟩:=wat j _ (List.getElem?_eq_getElem jl)
          rw [hj] at hu2
          injection hu2 with hu2
          subst hu2
          have htk : ws.take (j + 1) = ws.take j ++ [ws[j]]:=by rw [List.take_succ,List.getElem?_eq_getElem jl]; rfl
          rw [htk]
          have hm:=List.getElem_mem jl
          generalize ws[j] = wj at ht hm
          have no : ¬ (wj.1 = z∧0 ≤ g' + wj.2)→Same H5 H6∧ys.length ≤ j + 1∧((ys = []∧∀ x ∈ ws.take j ++ [wj],¬ (x.1 = z∧0 ≤ g' + x.2)) ∨ (ys ≠ []∧∃ x ∈ ws,x.1 = z∧0 ≤ g' + x.2)):=fun c=>by
            refine ⟨s6,by omega,?_⟩
            rcases h with ⟨rfl,h⟩ | h
            · refine .inl ⟨rfl,fun x hx=>?_⟩
              rcases List.mem_append.mp hx with y | y
              · exact h x y
              · rw [List.mem_singleton.mp y]; exact c
            · exact .inr h
          refine ⟨t,_,rfl,SqT.of (s6 _ _ (s5 _ _ ht)),rfl,?_⟩
          refine ⟨_,rfl,_,rfl,rfl,_,rfl,?_⟩
          refine cL (fun c=>?_) (fun c=>?_)
          · have c : wj.1 = z:=by have:=of_decide_eq_true c; injection this
            refine ⟨_,rfl,_,rfl,ga,_,_,_,rfl,rfl,SqL.of (s6 _ _ hg5),ap',_,rfl,_,_,rfl,rfl,_,_,rfl,rfl,_,rfl,?_⟩
            refine cL (fun c2=>?_) (fun c2=>?_)
            · have c2 : 0 ≤ g' + wj.2:=of_decide_eq_true c2
              exact ⟨_,rfl,s6,by rw [List.length_append,List.length_singleton]; omega,.inr ⟨by simp,wj,hm,c,c2⟩⟩
            · exact no fun y=>c2 (decide_eq_true y.2)
          · exact bj (no fun y=>c (decide_eq_true (by rw [y.1])))
        · obtain ⟨s6,yl,h⟩:=h
          rw [wul,List.take_length] at h
          have s7:=s6.trans (ah hlb (.lst ys))
          refine ⟨!ys.isEmpty,?_,?_⟩
          · exact .inl ⟨ys,SqL.of ae,rfl⟩
          · rcases h with ⟨rfl,h⟩ | ⟨hne,x,hx,hxz,hx0⟩
            · refine bj ?_
              refine ⟨G',_,_,rfl,s5.trans s7,s7 _ _ hg5,by omega,gn.good,cm.swp gn.up (fun x hx gg hgg h0=>?_) (fun x hx hxz gg hgg h0=>?_)⟩
              · rw [e] at hgg; cases hgg
                exact gn.out x (by rw [oi] at hx; exact hx) h0
              · rw [hg'] at hgg; cases hgg
                exact h x (by rw [oi] at hx; exact hx) ⟨hxz,h0⟩
            · have hie : (!ys.isEmpty) = true:=by cases ys with | nil=>exact absurd rfl hne | cons a b=>rfl
              rw [hie]
              refine cS ?_
              exact q true _ (s5.trans s7) (fun _=>gn.good.back hg' (by rw [oi]; exact hx) hxz hx0) (fun z=>by cases z)
    · obtain ⟨G,y1,y2,rfl,s4,hg4,gl,gd,cm⟩:=h
      rw [show (((us.length : Nat) : Int)).toNat = W.length by omega] at cm
      exact ⟨G,_,_,rfl,s4,hg4,gl,gd,cm.done lo.inw ⟨z0,z1⟩⟩
  · obtain ⟨G,y1,y2,rfl,s3,hg3,gl,gd,cm⟩:=h
    rw [show (((us.length : Nat) : Int)).toNat = W.length by omega] at cm
    exact q false _ s3 (fun z=>by cases z) fun _ r hr hl=>cm.none hr hl
def sR (K : PySem.W.Frag) : Sp:=fun vs H Q _=>∃ (v : V) (W : Lf),vs = [v]∧rLf (nt H) W v∧LfOk W∧(∀ r ∈ W,r ≠ [])∧Tbs K H∧∀ (l : Addr) (T : List (Option Int)) (H' : Hp),Sm H H'→Tbs K H'→nt H l = none→nt H' l = some (.lst (tV T))→T.length = W.length→Nds W W.length (tbF T)→Q (.ref l) H'
theorem oF {G : List (Option Int)} {i : Nat} {o : Option Int} (h1 : i < G.length) : tbF (G.set i o) = fun p=>if p = (i : Int) then o else tbF G p:=by
  funext x
  unfold tbF
  by_cases e : x = (i : Int)
  · subst e
    rw [if_pos (by omega),if_pos rfl,show ((i : Int)).toNat = i from rfl,List.getElem?_set_self h1]; rfl
  · rw [if_neg e]
    by_cases c : 0 ≤ x
    · rw [if_pos c,if_pos c,List.getElem?_set_ne (by omega)]
    · rw [if_neg c,if_neg c]
theorem sC (F : DefAt K mg "needs_left" bF ["left"]) (T : Txt mg) (D_comes_back : Dn P w K mg base "comes_back" 2 ["left","start"] nX) (D_least_needy : Dn P w K mg base "least_needy" 4 ["ways","purses"] (nJ K false)) (D_need_by : Dn P w K mg base "need_by" 1 ["purses","place","amount"] dm) (D_is_more : Dn P w K mg base "is_more" 2 ["need","other"] i7) : Dn P w K mg base "needs_left" 5 ["left"] (sR K):=by
  have sc:=gR
  refine F.ok sc (fun vs H Q E h=>?_) (fun f cdv A outer s H vs Q E hr h=>?_)
  · obtain ⟨_,_,rfl,_⟩:=h; rfl
  obtain ⟨v,W,rfl,hv,lo,wne,tb,q⟩:=h
  have few:=lo.few
  obtain ⟨a,us,rfl,ha,ul,hat⟩:=jE hv
  have hvH:=mono_lf.up aj hv
  refine ⟨_,(ac (q5 (i:=1) (af bF) ["left","table","turn","place","ways","way","need"] ["place","left"] 1 [0] sc.nd rfl rfl (bB rfl T.b_range (aa (aF (cD (K:=K) rfl) rfl T.b_len PySem.boot_len (aa (pv 0) ad)) ad)) (fun _ _ _ _ _ _=>(eU (show List.Nodup (["place","left"] : List Str) by decide +kernel) rfl rfl)) (fun _ _ _ _ _ _=>dg) (fun _ _ _ _ _ _=>(cY (bV (az D_comes_back hr (aa (pv 1) (aa (pv 0) ad)))) ab fb)))
      (ac (bu PassesOwn.never rfl (bB rfl T.b_range (aa (aF (cD (K:=K) rfl) rfl T.b_len PySem.boot_len (aa (pv 0) ad)) ad)) (aD (i:=2) sc.nd rfl (Or.inl rfl))
      (ag (bu PassesOwn.never rfl (pC (K:=K) rfl rfl T.b_enumerate (aa (pv 0) ad)) (dE rfl (aO (aD (i:=3) sc.nd rfl (Or.inl rfl)) (aO (aD (i:=4) sc.nd rfl (Or.inl rfl)) cO)))
      (ac (au (i:=5) sc.nd rfl (Or.inl rfl) (az D_least_needy hr (aa (pv 4) (aa (pv 1) ad))))
      (ac (au (i:=6) sc.nd rfl (Or.inl rfl) (az D_need_by hr (aa (pv 1) (aa (ax (ixT (K:=K) rfl) (pv 5) ab (fun _ _=>rfl)) (aa (ax (ixT (K:=K) rfl) (pv 5) ab (fun _ _=>rfl)) ad)))))
      (ag (aZ (bV (az D_is_more hr (aa (ax (ixL (K:=K) rfl) (pv 1) (pv 3) (fun _ _=>rfl)) (aa (pv 6) ad))))
      (ag (kB (pv 6) (kN (pv 1) (pv 3) fY)))
      aE)))))))
      (ag (aC (pv 1))))),?_⟩
  refine ⟨_,rfl,a,_,rfl,.inl (SqL.of (aj _ _ ha)),((us.length : Nat) : Int),rfl,by omega,by omega,jz (lo:=0) (n:=((us.length : Nat) : Int).toNat) (fun i ys H2=>Same H H2∧∃ T0 : List (Option Int),ys = tV T0∧T0.length = i∧∀ j,j < i→(T0[j]? = some (some 0)∧∃ r,Rg W (j : Int) r) ∨ (T0[j]? = some none∧∀ r,Rg W (j : Int) r→¬ r.length ≤ W.length)) ⟨Same.refl _,[],rfl,rfl,fun j hj=>absurd hj (Nat.not_lt_zero j)⟩ (di (m:=1000) (by omega)) (fun i ys H2 hi h=>?_) (fun i ys H2 hi h=>?_) (fun ys H2 h tl htl=>?_)⟩
  · obtain ⟨_,T0,rfl,l0,_⟩:=h
    rw [bz,l0]; exact Nat.le_refl _
  · obtain ⟨s2,T0,rfl,l0,h0⟩:=h
    refine eG ?_
    refine ⟨_,rfl,_,rfl,_,W,0 + (i : Int),rfl,mono_lf.up s2 hvH,lo,by omega,by omega,fun b H3 s3 b1 b2=>⟨b,rfl,?_⟩⟩
    have ei : (0 + (i : Int)) = ((i : Nat) : Int):=by omega
    rw [ei] at b1 b2
    have more : ∀ o : Option Int,((o = some 0∧∃ r,Rg W (i : Int) r) ∨ (o = none∧∀ r,Rg W (i : Int) r→¬ r.length ≤ W.length))→Same H H3∧∃ T1 : List (Option Int),tV T0 ++ [oV o] = tV T1∧T1.length = i + 1∧∀ j,j < i + 1→(T1[j]? = some (some 0)∧∃ r,Rg W (j : Int) r) ∨ (T1[j]? = some none∧∀ r,Rg W (j : Int) r→¬ r.length ≤ W.length):=fun o ho=>by
      refine ⟨s2.trans s3,T0 ++ [o],by unfold tV; rw [List.map_append]; rfl,by rw [List.length_append,l0]; rfl,fun j hj=>?_⟩
      rcases Nat.lt_or_ge j i with c | c
      · rw [List.getElem?_append_left (by omega)]; exact h0 j c
      · have : j = i:=by omega
        subst this
        rw [List.getElem?_append_right (by omega),l0,Nat.sub_self]
        rcases ho with ⟨rfl,h⟩ | ⟨rfl,h⟩
        · exact .inl ⟨rfl,h⟩
        · exact .inr ⟨rfl,h⟩
    cases b with
    | true=>exact cS (more (some 0) (.inl ⟨rfl,b1 rfl⟩))
    | false=>exact bj (more none (.inr ⟨rfl,b2 rfl⟩))
  obtain ⟨s2,T0,rfl,l0,h0⟩:=h
  rw [show (((us.length : Nat) : Int)).toNat = W.length by omega] at l0 h0
  have t0n : ∀ {x v : Int},tbF T0 x = some v→v = 0∧0 ≤ x∧x < (W.length : Int)∧∃ r,Rg W x r:=fun {x v} e=>by
    unfold tbF at e
    by_cases c : 0 ≤ x
    · rw [if_pos c] at e
      have xl : x.toNat < T0.length:=by
        rcases Nat.lt_or_ge x.toNat T0.length with z | z
        · exact z
        · rw [List.getElem?_eq_none z] at e; cases e
      rcases h0 x.toNat (by omega) with ⟨e1,r⟩ | ⟨e1,_⟩
      · rw [e1] at e
        have e : some 0 = some v:=e
        injection e with e
        have ex : ((x.toNat : Nat) : Int) = x:=by omega
        rw [ex] at r
        exact ⟨e.symm,c,by omega,r⟩
      · rw [e1] at e; cases e
    · rw [if_neg c] at e; cases e
  obtain ⟨Z,hZd⟩ : ∃ Z : Int→Prop,Z = fun x=>tbF T0 x = some 0:=⟨_,rfl⟩
  have hZb : ∀ x s,s ≠ []→Wk W x s x→0 ≤ sm s→∃ w ∈ s,Z w.1:=gJ lo.inw fun z z0 z1 ⟨r,hr,hl⟩=>by
    rw [hZd]
    rcases h0 z.toNat (by omega) with ⟨e1,_⟩ | ⟨_,e2⟩
    · show tbF T0 z = some 0
      unfold tbF; rw [if_pos z0,e1]; rfl
    · exact absurd hl (e2 r (by rw [show ((z.toNat : Nat) : Int) = z by omega]; exact hr))
  have hB : ∀ z,Z z→0 ≤ z∧z < (W.length : Int)∧∃ s,s ≠ []∧Wk W z s z∧OkS 0 s:=fun z hz=>by
    rw [hZd] at hz
    obtain ⟨_,h1,h2,r,hr⟩:=t0n hz
    exact ⟨h1,h2,r,hr.1,hr.2.1,hr.2.2⟩
  have tk0 : Tk W Z (tbF T0):=⟨fun x v e=>by rw [(t0n e).1]; exact Int.le_refl _,fun x hx=>by rw [hZd] at hx; exact hx,fun x v e=>by
    obtain ⟨rfl,_⟩:=t0n e
    exact ⟨[],x,rfl,by rw [hZd]; exact e,Int.le_refl _⟩,fun x v e=>by
    obtain ⟨rfl,_⟩:=t0n e
    exact .inl (by rw [hZd]; exact e)⟩
  have rn0 : Rnd W Z W.length 0 (tbF T0):=Rnd.start fun x hx=>by rw [hZd] at hx; exact hx
  have htl0 : H tl = none:=s2.free htl
  have htln : nt H tl = none:=eF htl0
  have S3 : Sm H (upd H2 tl (.lst (tV T0))):=Sm.of (s2.trans (ah htl _))
  have tb3 : Tbs K (upd H2 tl (.lst (tV T0))):=tb.up (s2.trans (ah htl _))
  have hT3 : upd H2 tl (.lst (tV T0)) tl = some (.lst (tV T0)):=ae
  generalize upd H2 tl (.lst (tV T0)) = H3 at S3 tb3 hT3 ⊢
  refine ⟨_,rfl,a,_,rfl,.inl (SqL.of (S3.lst ha)),((us.length : Nat) : Int),rfl,by omega,by omega,bP (lo:=0) (n:=((us.length : Nat) : Int).toNat) (fun t σ H4=>∃ (TT : List (Option Int)) (y1 y2 y3 y4 y5 : Option V),σ = [some (.ref a),some (.ref tl),y1,y2,y3,y4,y5]∧Sm H H4∧Tbs K H4∧H4 tl = some (.lst (tV TT))∧TT.length = W.length∧Tk W Z (tbF TT)∧Rnd W Z W.length t (tbF TT))
    ⟨T0,_,_,_,_,_,rfl,S3,tb3,hT3,l0,tk0,rn0⟩ (fun t σ H4 ht h=>?_) (fun σ H4 h=>?_)⟩
  · obtain ⟨TT,y1,y2,y3,y4,y5,rfl,S4,tb4,hT4,l4,tk4,rn4⟩:=h
    refine ⟨_,rfl,a,rfl,⟨_,SqL.of (S4.lst ha)⟩,n4 (K:=K) (a:=a) (xs:=us) (fun i σ H5=>∃ (TT : List (Option Int)) (y1 y2 y3 y4 y5 : Option V),σ = [some (.ref a),some (.ref tl),y1,y2,y3,y4,y5]∧Sm H H5∧Tbs K H5∧H5 tl = some (.lst (tV TT))∧TT.length = W.length∧Tk W Z (tbF TT)∧Mid W Z W.length t i (tbF TT))
      ⟨TT,_,_,_,_,_,rfl,S4,tb4,hT4,l4,tk4,rn4.mid⟩ (fun i σ H5 _ h=>?_) (fun i x σ H5 tt hi h htt=>?_) (fun σ H5 h=>?_)⟩
    · obtain ⟨_,_,_,_,_,_,_,S5,_⟩:=h
      exact SqL.of (S5.lst ha)
    · clear S4 tb4 hT4 l4 tk4 rn4
      obtain ⟨TT,y1,y2,y3,y4,y5,rfl,S5,tb5,hT5,l5,tk5,md5⟩:=h
      have il : i < W.length:=by rw [← ul]; exact (List.getElem?_eq_some_iff.mp hi).1
      obtain ⟨u,hu,hru⟩:=hat i _ (List.getElem?_eq_getElem il)
      rw [hi] at hu
      injection hu with hu
      subst hu
      have oi:=jw (List.getElem?_eq_getElem il)
      have wn:=wne _ (List.getElem_mem il)
      generalize W[i] = ws at hru oi wn
      have rgi : ∀ y ∈ ws,0 ≤ y.1∧y.1 < (W.length : Int):=fun y hy=>lo.inw (i : Int) y (by rw [oi]; exact hy)
      have s6:=ah htt (.tup [V.int ((i : Nat) : Int),x])
      have S6:=S5.trans (Sm.of s6)
      have tb6:=tb5.up s6
      have hT6:=s6 _ _ hT5
      refine ⟨tt,_,rfl,SqT.of ae,rfl,_,_,rfl,_,_,rfl,rfl,?_⟩
      generalize upd H5 tt (.tup [V.int ((i : Nat) : Int),x]) = H6 at S6 tb6 hT6 ⊢
      refine ⟨_,rfl,_,rfl,x,tl,ws,TT,rfl,mono_ws.up S6 hru,bM hT6,wn,fun y hy=>by have:=rgi y hy; omega,tb6,fun wt wy H7 S7 tb7 hwy best hwt=>?_⟩
      have hT7:=S7.lst (bM hT6)
      have hwt7:=aj _ _ hwt
      have rgw:=rgi wy hwy
      refine ⟨_,rfl,_,rfl,wt,_,_,_,rfl,rfl,SqT.of hwt7,ar (j:=0) rfl,_,rfl,wt,_,_,_,rfl,rfl,SqT.of hwt7,ar (j:=1) rfl,tl,TT,wy.1,wy.2,rfl,hT7,rgw.1,by omega,?_⟩
      have api:=fA (T:=TT) (x:=(i : Int)) (by omega) (by omega)
      refine ⟨_,rfl,_,rfl,tl,_,_,_,rfl,rfl,SqL.of hT7,api,_,rfl,tbF TT (i : Int),ao (tbF TT) wy,rfl,fun r H8 s8 hr8=>⟨r,rfl,?_⟩⟩
      have S8:=(S6.trans S7).trans (Sm.of s8)
      have tb8:=tb7.up s8
      have hT8:=s8 _ _ hT7
      have best' : ∀ w' ∈ aV W (i : Int),leO (ao (tbF TT) wy) (ao (tbF TT) w'):=fun w' hw'=>by
        rw [oi] at hw'
        have:=best w' hw'
        rwa [if_neg (by decide)] at this
      cases r with
      | false =>
        refine bj ?_
        have hle : leO (tbF TT (i : Int)) (ao (tbF TT) wy):=Classical.byContradiction fun z=>by have:=hr8.mpr z; cases this
        have sw : Swp W (i : Int) (tbF TT) (tbF TT):=⟨fun _ _=>rfl,leO.refl _,fun w' hw'=>hle.trans (best' w' hw'),.inl rfl⟩
        exact ⟨TT,_,_,_,_,_,rfl,S8,tb8,hT8,l5,tk5,md5.swp lo.inw tk5 sw⟩
      | true =>
        refine cS ?_
        have hle : ¬ leO (tbF TT (i : Int)) (ao (tbF TT) wy):=hr8.mp rfl
        have sw : Swp W (i : Int) (tbF TT) (tbF (TT.set i (ao (tbF TT) wy))):=by
          rw [oF (by omega)]
          exact ⟨fun q hq=>if_neg hq,by rw [if_pos rfl]; exact (leO.total _ _).resolve_left hle,fun w' hw'=>by rw [if_pos rfl]; exact best' w' hw',.inr ⟨wy,by rw [oi]; exact hwy,if_pos rfl⟩⟩
        have tk':=tk5.swp sw
        refine ⟨_,rfl,_,rfl,_,rfl,tl,_,_,_,rfl,rfl,hT8,kU (by omega) (by rw [bz]; omega),TT.set i (ao (tbF TT) wy),_,_,_,_,_,rfl,S8.put htln _,tb8.put hT8,?_,by rw [List.length_set]; exact l5,tk',md5.swp lo.inw tk' sw⟩
        rw [ae,← kx]; rfl
    · obtain ⟨TT,y1,y2,y3,y4,y5,rfl,S5,tb5,hT5,l5,tk5,md5⟩:=h
      rw [ul] at md5
      exact ⟨TT,_,_,_,_,_,rfl,S5,tb5,hT5,l5,tk5,md5.done⟩
  · obtain ⟨TT,y1,y2,y3,y4,y5,rfl,S4,tb4,hT4,l4,tk4,rn4⟩:=h
    rw [show (((us.length : Nat) : Int)).toNat = W.length by omega] at rn4
    exact ⟨_,rfl,q tl TT H4 S4 tb4 htln (bM hT4) l4 (ow lo.inw hZb hB tk4 rn4)⟩
def nZ : Sp:=fun vs H Q _=>∃ (g0 ra : Addr) (gv : List V) (hand : Int) (R : List (Option Int)),vs = [.ref g0,.int hand,.ref ra]∧H g0 = some (.lst gv)∧H ra = some (.lst (tV R))∧gv.length = R.length∧(∀ (i : Nat) (z : Int),R[i]? = some (some z)→∃ (t wa : Addr) (ps : List Int),gv[i]? = some (.ref t)∧H t = some (.tup [.int hand,.int 0,.ref wa])∧H wa = some (.lst (ps.map V.int))∧z ∈ ps)∧∀ H',Same H H'→Q .non H'
theorem j5 {R : List (Option Int)} {i : Nat} {x : V} (h : (tV R)[i]? = some x) : ∃ o,R[i]? = some o∧x = oV o:=by
  unfold tV at h
  rw [List.getElem?_map] at h
  obtain ⟨o,ho,rfl⟩:=Option.map_eq_some_iff.mp h
  exact ⟨o,ho,rfl⟩
theorem pK (F : DefAt K mg "check_rule" bR ["game","hand","rule"]) (T : Txt mg) (D_is_whole : Dn P w K mg base "is_whole" 1 ["value"] fR) : Dn P w K mg base "check_rule" 2 ["game","hand","rule"] nZ:=by
  have sc:=gS
  refine F.ok sc (fun vs H Q E h=>?_) (fun f cdv A outer s H vs Q E hr h=>?_)
  · obtain ⟨_,_,_,_,_,rfl,_⟩:=h; rfl
  obtain ⟨g0,r,gv,hand,R,rfl,hg0,hR,hlen,hRO,q⟩:=h
  have hlen2 : gv.length = (tV R).length:=by rw [bz]; exact hlen
  refine ⟨_,(ac (aZ (PW.pt (eB (c8 (bV (aF (ib (K:=K) rfl (T := "list")) rfl T.b_isinstance PyProof.Rows.boot_isinstance (aa (pv 2) (aa (dJ (v:=.ty "list") rfl T.b_list PyProof.Rows.boot_list rfl) ad))))) (dF (aG gD (aF (cD (K:=K) rfl) rfl T.b_len PySem.boot_len (aa (pv 2) ad)) (aF (cD (K:=K) rfl) rfl T.b_len PySem.boot_len (aa (pv 0) ad)) (aB _)))))
      (ag cG)
      aE)
      (ag (bu PassesOwn.never rfl (jk (K:=K) rfl rfl T.b_zip (aa (pv 0) (aa (pv 2) ad))) (dE rfl (aO (aD (i:=3) sc.nd rfl (Or.inl rfl)) (aO (aD (i:=4) sc.nd rfl (Or.inl rfl)) cO)))
      (ac (aZ (b8 (dZ (pv 4)))
      (ag fD)
      aE)
      (ac (aZ (aG gD (ax (ixT (K:=K) rfl) (pv 3) ab (fun _ _=>rfl)) (pv 1) (aB _))
      (ag cG)
      aE)
      (ag (aZ (PW.pt (eB (c8 (bV (az D_is_whole hr (aa (pv 4) ad)))) (dF (aG (oQ (K:=K) rfl) (pv 4) (ax (ixT (K:=K) rfl) (pv 3) ab (fun _ _=>rfl)) rfl))))
      (ag cG)
      aE))))))),?_⟩
  refine ⟨_,rfl,_,"list",_,rfl,.inl ⟨rfl,.inl ⟨_,hR⟩⟩,eV _,_,rfl,?_⟩
  refine bj ?_
  refine ⟨_,rfl,r,_,rfl,.inl (SqL.of hR),_,rfl,g0,_,rfl,.inl (SqL.of hg0),rfl,_,rfl,?_⟩
  refine cL (fun c=>?_) (fun c=>?_)
  · exfalso; simp [hlen2] at c
  refine ⟨_,rfl,_,rfl,g0,r,rfl,⟨_,SqL.of hg0⟩,⟨_,SqL.of hR⟩,fQ (K:=K) (a:=g0) (b:=r) (xs:=gv) (ys:=tV R) hlen2 (fun i σ H2=>Same H H2∧∃ y1 y2 : Option V,σ = [some (.ref g0),some (.int hand),some (.ref r),y1,y2])
    ⟨Same.refl _,_,_,rfl⟩ (fun i σ H2 _ h=>⟨SqL.of (h.1 _ _ hg0),SqL.of (h.1 _ _ hR)⟩) (fun i x y σ H2 Tt hi hj h hT=>?_) (fun σ H2 h=>?_)⟩
  · obtain ⟨s2,y1,y2,rfl⟩:=h
    obtain ⟨o,ho,rfl⟩:=j5 hj
    have s3:=s2.trans (ah hT (.tup [x,oV o]))
    refine ⟨Tt,_,rfl,SqT.of ae,rfl,_,_,rfl,_,_,rfl,rfl,?_⟩
    cases o with
    | none =>
      refine ⟨_,rfl,_,rfl,?_⟩
      refine cS ?_
      exact ⟨s3,_,_,rfl⟩
    | some z =>
      obtain ⟨t,wa,ps,p1,p2,p3,hz⟩:=hRO i z ho
      rw [hi] at p1; cases p1
      refine ⟨_,rfl,_,rfl,?_⟩
      refine bj ?_
      refine ⟨_,rfl,t,_,_,_,rfl,rfl,SqT.of (s3 _ _ p2),ar (j:=0) rfl,_,rfl,rfl,_,rfl,?_⟩
      refine cL (fun c=>?_) (fun c=>?_)
      · exfalso; simp at c
      refine ⟨_,rfl,z,rfl,_,rfl,?_⟩
      refine bj ?_
      refine ⟨_,rfl,_,rfl,t,_,_,_,rfl,rfl,SqT.of (s3 _ _ p2),ar (j:=2) rfl,wa,_,rfl,.inl (SqL.of (s3 _ _ p3)),rfl,iJ _,_,rfl,?_⟩
      show if (!inV (.int z) (ps.map V.int)) = true then _ else _
      rw [jD]
      refine cL (fun c=>?_) (fun c=>?_)
      · exfalso; simp [hz] at c
      · exact ⟨s3,_,_,rfl⟩
  · exact q _ h.1
def tR (H : Hp) (row : ak) (v : V) : Prop:=∃ (t wa : Addr),v = .ref t∧H t = some (.tup [.int row.1,.int 0,.ref wa])∧H wa = some (.lst ((row.2.map (·.1)).map V.int))
def lC : Sp:=fun vs H Q _=>∃ (v : V) (G : List ak) (ra : Addr) (r : List (Option Int)),vs = [v,.ref ra]∧rPu H G v∧H ra = some (.lst (tV r))∧RlP G r∧G.length ≤ 16∧(∀ row ∈ G,row.2.length ≤ 100)∧∀ H',Same H H'→Q .non H'
theorem kc (F : DefAt K mg "check_spender" aY ["game","rule"]) (T : Txt mg) (D_check_rule : Dn P w K mg base "check_rule" 2 ["game","hand","rule"] nZ) : Dn P w K mg base "check_spender" 3 ["game","rule"] lC:=by
  have sc:=fu
  refine F.ok sc (fun vs H Q E h=>?_) (fun f cdv A outer s H vs Q E hr h=>?_)
  · obtain ⟨_,_,_,_,rfl,_⟩:=h; rfl
  obtain ⟨v,G,ra,r,rfl,hv,hra,rl,few,few2,q⟩:=h
  obtain ⟨a,us,rfl,ha,ul,hat⟩:=cq hv
  refine ⟨_,(ac (aM (az D_check_rule hr (aa (jL (af aY) ["game","rule","row","way"] ["hand","ways"] 2 [] (cf (pv 0)) (fun _ _ _ _ _ _=>(pA (K:=K) rfl rfl (show List.Nodup (["hand","ways"] : List Str) by decide +kernel) rfl rfl rfl rfl)) (fun _ _ _ _ _ _=>dg) (fun _ _ _ _ _ _=>(cH (aa (pv 0) (aa ab (aa (by exact (p8  ["hand","ways"] ["place","amount"] 2 [] (nn (pv 1)) (fun _ _ _ _ _ _=>(pA (K:=K) rfl rfl (show List.Nodup (["place","amount"] : List Str) by decide +kernel) rfl rfl rfl rfl)) (fun _ _ _ _ _ _=>dg) (fun _ _ _ _ _ _=>(pv 0)))) ad)))))) (aa ab (aa (pv 1) ad)))))
      (ag (bu PassesOwn.never rfl (jk (K:=K) rfl rfl T.b_zip (aa (pv 0) (aa (pv 1) ad))) (dE rfl (aO (aD (i:=2) sc.nd rfl (Or.inl rfl)) (aO (aD (i:=3) sc.nd rfl (Or.inl rfl)) cO)))
      (ag (aZ (PW.pt (e7 (aG cN (ax (ixT (K:=K) rfl) (pv 2) ab (fun _ _=>rfl)) ab (aB _)) (dG (b8 (dZ (pv 3))))))
      (ag cG)
      aE))))),?_⟩
  refine ⟨_,rfl,_,rfl,⟨_,SqL.of ha⟩,bL (K:=K) (a:=a) (xs:=us) (fun i ys H2=>Same H H2∧ys.length = i∧∀ j row,j < i→G[j]? = some row→∃ y,ys[j]? = some y∧tR H2 row y) ⟨Same.refl _,rfl,fun j row hj=>absurd hj (Nat.not_lt_zero j)⟩ (di (m:=1000) (by omega)) (fun i ys H2 hi h=>?_) (fun i x ys H2 hi h=>?_) (fun ys H2 h lb hlb=>?_)⟩
  · exact ⟨SqL.of (h.1 _ _ ha),by omega⟩
  · obtain ⟨s2,yl,h⟩:=h
    have il : i < G.length:=by rw [← ul]; exact (List.getElem?_eq_some_iff.mp hi).1
    obtain ⟨t,wl,hu,ht,hw⟩:=hat i _ (List.getElem?_eq_getElem il)
    rw [hi] at hu
    injection hu with hu
    subst hu
    have f2:=few2 _ (List.getElem_mem il)
    obtain ⟨row,hrow⟩ : ∃ row,row = G[i]:=⟨_,rfl⟩
    rw [← hrow] at ht hw f2
    obtain ⟨_,wus,e0,hwl,wul,wat⟩:=cC hw
    cases e0
    refine fj (SqT.of (s2 _ _ ht)) rfl ?_
    refine ⟨_,rfl,_,rfl,wl,rfl,⟨_,SqL.of (s2 _ _ hwl)⟩,bL (K:=K0) (a:=wl) (xs:=wus) (fun j zs H3=>H3 = H2∧zs = ((row.2.take j).map (·.1)).map V.int) ⟨rfl,rfl⟩ (di (m:=1000) (by omega)) (fun j zs H3 hj h=>?_) (fun j x zs H3 hj h=>?_) (fun zs H3 h lc hlc=>?_)⟩
    · obtain ⟨rfl,rfl⟩:=h
      exact ⟨SqL.of (s2 _ _ hwl),by rw [List.length_map,List.length_map,List.length_take]; omega⟩
    · obtain ⟨rfl,rfl⟩:=h
      have jl : j < row.2.length:=by rw [← wul]; exact (List.getElem?_eq_some_iff.mp hj).1
      obtain ⟨t2,hu2,ht2⟩:=wat j _ (List.getElem?_eq_getElem jl)
      rw [hj] at hu2
      injection hu2 with hu2
      subst hu2
      refine fj (SqT.of (s2 _ _ ht2)) rfl ?_
      refine ⟨_,rfl,rfl,?_⟩
      rw [List.take_succ,List.getElem?_eq_getElem jl,List.map_append,List.map_append]; rfl
    · obtain ⟨rfl,rfl⟩:=h
      rw [wul,List.take_length]
      refine ⟨(by show 3 ≤ sizeLine; decide),fun tp htp=>?_⟩
      have s4:=(ah hlc (.lst ((row.2.map (·.1)).map V.int)))
      have s5:=s4.trans (ah htp (.tup [V.int row.1,V.int 0,V.ref lc]))
      refine ⟨s2.trans s5,by rw [List.length_append,yl]; rfl,fun j row' hj hr'=>?_⟩
      rcases Nat.lt_or_ge j i with c | c
      · obtain ⟨y,hy,t9,wa9,e9,k1,k2⟩:=h j row' c hr'
        exact ⟨y,by rw [List.getElem?_append_left (by omega)]; exact hy,t9,wa9,e9,s5 _ _ k1,s5 _ _ k2⟩
      · have : j = i:=by omega
        subst this
        rw [List.getElem?_eq_getElem il,← hrow] at hr'
        injection hr' with hr'
        subst hr'
        exact ⟨.ref tp,by rw [List.getElem?_append_right (by omega),yl,Nat.sub_self]; rfl,tp,lc,rfl,ae,ah htp _ _ _ ae⟩
  · obtain ⟨s2,yl,h⟩:=h
    have s3:=s2.trans (ah hlb (.lst ys))
    refine ⟨_,rfl,lb,ra,ys,1,r,rfl,ae,s3 _ _ hra,by rw [yl,ul,rl.1],fun i z hz=>?_,fun H4 s4=>?_⟩
    · have il : i < G.length:=by have:=(List.getElem?_eq_some_iff.mp hz).1; rw [rl.1] at this; exact this
      obtain ⟨y,hy,t9,wa9,rfl,k1,k2⟩:=h i _ (by omega) (List.getElem?_eq_getElem il)
      have sb:=ah hlb (.lst ys)
      rcases fU rl (List.getElem?_eq_getElem il) with ⟨e,_⟩ | ⟨wy,hwy,e,h1⟩
      · rw [hz] at e; cases e
      · rw [hz] at e
        have e : some (some z) = some (some wy.1):=e
        injection e with e
        injection e with e
        rw [h1] at k1
        exact ⟨t9,wa9,_,hy,sb _ _ k1,sb _ _ k2,by rw [e]; exact List.mem_map.mpr ⟨wy,hwy,rfl⟩⟩
    · have s5:=s3.trans s4
      refine ⟨_,rfl,_,rfl,a,ra,rfl,⟨_,SqL.of (s5 _ _ ha)⟩,⟨_,SqL.of (s5 _ _ hra)⟩,fQ (K:=K) (a:=a) (b:=ra) (xs:=us) (ys:=tV r) (by rw [bz,ul,rl.1]) (fun i σ H5=>Same H H5∧∃ y1 y2 : Option V,σ = [some (.ref a),some (.ref ra),y1,y2])
        ⟨s5,_,_,rfl⟩ (fun i σ H5 _ h=>⟨SqL.of (h.1 _ _ ha),SqL.of (h.1 _ _ hra)⟩) (fun i x y σ H5 Tt hi hj h hT=>?_) (fun σ H5 h=>?_)⟩
      · obtain ⟨s6,y1,y2,rfl⟩:=h
        have il : i < G.length:=by rw [← ul]; exact (List.getElem?_eq_some_iff.mp hi).1
        obtain ⟨t,wl,hu,ht,hw⟩:=hat i _ (List.getElem?_eq_getElem il)
        rw [hi] at hu
        injection hu with hu
        subst hu
        obtain ⟨o,ho,rfl⟩:=j5 hj
        have s7:=s6.trans (ah hT (.tup [V.ref t,oV o]))
        refine ⟨Tt,_,rfl,SqT.of ae,rfl,_,_,rfl,_,_,rfl,rfl,?_⟩
        refine ⟨_,rfl,t,_,_,_,rfl,rfl,SqT.of (s7 _ _ ht),ar (j:=0) rfl,rfl,_,rfl,?_⟩
        rcases fU rl (List.getElem?_eq_getElem il) with ⟨e,h1⟩ | ⟨wy,hwy,e,h1⟩
        · refine cL (fun c=>?_) (fun c=>?_)
          · exfalso; exact h1 (by have:=of_decide_eq_true c; injection this)
          · exact bj ⟨s7,_,_,rfl⟩
        · rw [ho] at e
          injection e with e
          subst e
          refine cL (fun c=>?_) (fun c=>?_)
          · refine ⟨_,rfl,_,rfl,?_⟩
            exact bj ⟨s7,_,_,rfl⟩
          · exact bj ⟨s7,_,_,rfl⟩
      · exact q _ h.1
theorem Sm.free {H H' : Hp} {l : Addr} (s : Sm H H') (h : nt H' l = none) : nt H l = none:=by
  cases e : nt H l with
  | none=>rfl
  | some o=>have:=s _ _ e; rw [h] at this; cases this
theorem fL {α : Type} {R : Rel α} (m : ∀ H x v,R H x v→R (nt H) x v) {H : Hp} : ∀ {xs : List α} {vs : List V},Paired (R H) xs vs→Paired (R (nt H)) xs vs
  | _,_,.nil=>.nil
  | _,_,.cons h t=>.cons (m _ _ _ h) (fL m t)
theorem qW {H : Hp} {ws : List Wy} {v : V} (h : rWs H ws v) : rWs (nt H) ws v:=by
  obtain ⟨a,us,rfl,h,p⟩:=h
  exact ⟨a,us,rfl,bM h,fL (fun H x v ⟨t,y1,y2,e,ht,r1,r2⟩=>⟨t,y1,y2,e,gQ ht,r1,r2⟩) p⟩
theorem sO {H : Hp} {W : Lf} {v : V} (h : rLf H W v) : rLf (nt H) W v:=by
  obtain ⟨a,us,rfl,h,p⟩:=h
  exact ⟨a,us,rfl,bM h,fL (fun H x v r=>qW r) p⟩
theorem sB {H : Hp} {G : List ak} {v : V} (h : rPu H G v) : rPu (nt H) G v:=by
  obtain ⟨a,us,rfl,h,p⟩:=h
  exact ⟨a,us,rfl,bM h,fL (fun H x v ⟨t,y1,y2,e,ht,r1,r2⟩=>⟨t,y1,y2,e,gQ ht,r1,qW r2⟩) p⟩
def ls (K : PySem.W.Frag) : Sp:=fun vs H Q _=>∃ (v : V) (G : List ak) (ra : Addr) (r : List (Option Int)),vs = [v,.ref ra]∧rPu (nt H) G v∧nt H ra = some (.lst (tV r))∧GPk G∧RlP G r∧G.length ≤ 16∧(∀ row ∈ G,row.2.length ≤ 100)∧Tbs K H∧∀ (l : Addr) (T : List (Option Int)) (H' : Hp),Sm H H'→Tbs K H'→nt H l = none→nt H' l = some (.lst (tV T))→T.length = G.length→Nds (av G r) G.length (tbF T)→Q (.ref l) H'
theorem qE {G : List ak} {r : List (Option Int)} (g : GPk G) : ∀ x ∈ av G r,x ≠ []:=fun x hx=>by
  unfold av at hx
  obtain ⟨i,hi⟩:=List.getElem?_of_mem hx
  rw [List.getElem?_zipWith] at hi
  cases e1 : G[i]? with
  | none=>rw [e1] at hi; cases hi
  | some row =>
    cases e2 : r[i]? with
    | none=>rw [e1,e2] at hi; cases hi
    | some o =>
      rw [e1,e2] at hi
      have gm:=g _ (List.mem_of_getElem? e1)
      cases o with
      | none=>cases hi; exact gm.1
      | some p=>cases hi; simp
theorem nT {G : List ak} {r : List (Option Int)} (f : ∀ row ∈ G,row.2.length ≤ 100) : ∀ x ∈ av G r,x.length ≤ 100:=fun x hx=>by
  unfold av at hx
  obtain ⟨i,hi⟩:=List.getElem?_of_mem hx
  rw [List.getElem?_zipWith] at hi
  cases e1 : G[i]? with
  | none=>rw [e1] at hi; cases hi
  | some row =>
    cases e2 : r[i]? with
    | none=>rw [e1,e2] at hi; cases hi
    | some o =>
      rw [e1,e2] at hi
      have gm:=f _ (List.mem_of_getElem? e1)
      cases o with
      | none=>cases hi; exact gm
      | some p=>cases hi; simp
theorem oK (F : DefAt K mg "needs" eM ["game","rule"]) (T : Txt mg) (D_check_spender : Dn P w K mg base "check_spender" 3 ["game","rule"] lC) (D_ways_left : Dn P w K mg base "ways_left" 1 ["game","rule"] oU) (D_needs_left : Dn P w K mg base "needs_left" 5 ["left"] (sR K)) : Dn P w K mg base "needs" 6 ["game","rule"] (ls K):=by
  have sc:=oX
  refine F.ok sc (fun vs H Q E h=>?_) (fun f cdv A outer s H vs Q E hr h=>?_)
  · obtain ⟨_,_,_,_,rfl,_⟩:=h; rfl
  obtain ⟨v,G,ra,r,rfl,hv,hra,g,rl,few,few2,tb,q⟩:=h
  refine ⟨_,(ac (aM (az D_check_spender hr (aa (pv 0) (aa (pv 1) ad))))
      (ag (aC (az D_needs_left hr (aa (az D_ways_left hr (aa (pv 0) (aa (pv 1) ad))) ad))))),?_⟩
  have hvH:=mono_pu.up aj hv
  have hrH:=aj _ _ hra
  refine ⟨_,rfl,_,rfl,v,G,ra,r,rfl,hvH,hrH,rl,few,few2,fun H1 s1=>?_⟩
  refine ⟨_,rfl,_,rfl,v,G,ra,r,rfl,mono_pu.up s1 hvH,s1 _ _ hrH,g,rl,few,few2,fun u H2 s2 hu=>?_⟩
  have s3:=s1.trans s2
  have ll:=jX rl.1
  refine ⟨u,av G r,rfl,?_,⟨by omega,nT few2,by rw [ll]; exact b9 g rl⟩,qE g,tb.up s3,fun l TT H3 S3 tb3 l0 l1 tl N=>?_⟩
  · exact sO hu
  · rw [ll] at N tl
    exact q l TT H3 ((Sm.of s3).trans S3) tb3 ((Sm.of s3).free l0) l1 tl N
def BtAt (G : List ak) (r : List (Option Int)) (T : Tb) (r' : List (Option Int)) (i : Nat) : Prop:=∀ row,G[i]? = some row→(row.1 ≠ 1→r'[i]? = some none)∧(row.1 = 1→∃ own most,own ∈ row.2∧most ∈ row.2∧r[i]? = some (some own.1)∧(∀ w ∈ row.2,leO (ao T w) (ao T most))∧(leO (ao T most) (ao T own)∧r'[i]? = some (some own.1) ∨ ¬ leO (ao T most) (ao T own)∧r'[i]? = some (some most.1)))
theorem BtAt.snoc {G : List ak} {r r' : List (Option Int)} {T : Tb} {i : Nat} {o : Option Int} (hl : r'.length = i) (h : ∀ j,j < i→BtAt G r T r' j) (ho : BtAt G r T (r' ++ [o]) i) : ∀ j,j < i + 1→BtAt G r T (r' ++ [o]) j:=fun j hj=>by
  rcases Nat.lt_or_ge j i with c | c
  · intro row hrow
    rw [List.getElem?_append_left (by omega)]
    exact h j c row hrow
  · have : j = i:=by omega
    rw [this]; exact ho
theorem eC {α : Type} {l : List α} {i : Nat} {o : α} (hl : l.length = i) : (l ++ [o])[i]? = some o:=by
  rw [List.getElem?_append_right (by omega),hl,Nat.sub_self]; rfl
theorem eP (T : List (Option Int)) (o : Option Int) : tV T ++ [oV o] = tV (T ++ [o]):=by unfold tV; rw [List.map_append]; rfl
def qN (K : PySem.W.Frag) : Sp:=fun vs H Q _=>∃ (v : V) (G : List ak) (ra ta : Addr) (r T : List (Option Int)),vs = [v,.ref ra,.ref ta]∧rPu (nt H) G v∧nt H ra = some (.lst (tV r))∧nt H ta = some (.lst (tV T))∧GPk G∧RlP G r∧T.length = G.length∧G.length ≤ 16∧(∀ row ∈ G,row.2.length ≤ 100)∧Tbs K H∧∀ (l : Addr) (r' : List (Option Int)) (H' : Hp),Sm H H'→Tbs K H'→nt H l = none→nt H' l = some (.lst (tV r'))→Btr G r (tbF T) r'→Q (.ref l) H'
theorem jC (F : DefAt K mg "bettered" cJ ["game","rule","table"]) (T : Txt mg) (D_most_needy : Dn P w K mg base "most_needy" 4 ["ways","purses"] (nJ K true)) (D_need_by : Dn P w K mg base "need_by" 1 ["purses","place","amount"] dm) (D_is_more : Dn P w K mg base "is_more" 2 ["need","other"] i7) : Dn P w K mg base "bettered" 5 ["game","rule","table"] (qN K):=by
  have sc:=j6
  refine F.ok sc (fun vs H Q E h=>?_) (fun f cdv A outer s H vs Q E hr h=>?_)
  · obtain ⟨_,_,_,_,_,_,rfl,_⟩:=h; rfl
  obtain ⟨v,G,ra,ta,r,TT,rfl,hv,hra,hta,g,rl,tl,few,few2,tb,q⟩:=h
  obtain ⟨a,us,rfl,ha,ul,hat⟩:=cq hv
  refine ⟨_,(ac (au (i:=3) sc.nd rfl (Or.inl rfl) (bU ad))
      (ac (bu PassesOwn.never rfl (jk (K:=K) rfl rfl T.b_zip (aa (pv 0) (aa (pv 1) ad))) (dE rfl (aO (aD (i:=4) sc.nd rfl (Or.inl rfl)) (aO (aD (i:=5) sc.nd rfl (Or.inl rfl)) cO)))
      (ac (aZ (b8 (dZ (pv 5)))
      (ac (aM (dq PySem.F.plainAttrs_list PySem.F.slot_list_append PySem.F.type_list_append bg (pv 3) (aa fb ad)))
      (ag fD))
      aE)
      (ac (au (i:=6) sc.nd rfl (Or.inl rfl) (az D_most_needy hr (aa (ax (ixT (K:=K) rfl) (pv 4) ab (fun _ _=>rfl)) (aa (pv 2) ad))))
      (ac (au (i:=7) sc.nd rfl (Or.inl rfl) (az D_need_by hr (aa (pv 2) (aa (pv 5) (aa (fT (iW hr 1) (cZ (bK (K:=K) rfl rfl) rfl T.b_dict PyProof.Rows.boot_dict (aa (ax (ixT (K:=K) rfl) (pv 4) ab (fun _ _=>rfl)) ad)) (pv 5) (fun _ _=>rfl)) ad)))))
      (ag (aM (dq PySem.F.plainAttrs_list PySem.F.slot_list_append PySem.F.type_list_append bg (pv 3) (aa (cY (bV (az D_is_more hr (aa (az D_need_by hr (aa (pv 2) (aa (ax (ixT (K:=K) rfl) (pv 6) ab (fun _ _=>rfl)) (aa (ax (ixT (K:=K) rfl) (pv 6) ab (fun _ _=>rfl)) ad)))) (aa (pv 7) ad)))) (ax (ixT (K:=K) rfl) (pv 6) ab (fun _ _=>rfl)) (pv 5)) ad))))))))
      (ag (aC (pv 3))))),?_⟩
  refine ⟨Nat.zero_le _,fun gl hgl=>?_⟩
  have s1:=ah hgl (.lst [])
  have hgn : nt H gl = none:=eF hgl
  have S1:=Sm.of s1
  have tb1:=tb.up s1
  have hg1 : upd H gl (.lst []) gl = some (.lst (tV [])):=ae
  generalize upd H gl (.lst []) = H1 at S1 tb1 hg1 ⊢
  clear s1
  refine ⟨_,rfl,_,rfl,a,ra,rfl,⟨_,SqL.of (S1.lst ha)⟩,⟨_,SqL.of (S1.lst hra)⟩,fQ (K:=K) (a:=a) (b:=ra) (xs:=us) (ys:=tV r) (by rw [bz,ul,rl.1]) (fun i σ H2=>∃ (r' : List (Option Int)) (y1 y2 y3 y4 : Option V),σ = [some (.ref a),some (.ref ra),some (.ref ta),some (.ref gl),y1,y2,y3,y4]∧Sm H H2∧Tbs K H2∧H2 gl = some (.lst (tV r'))∧r'.length = i∧∀ j,j < i→BtAt G r (tbF TT) r' j)
    ⟨[],_,_,_,_,rfl,S1,tb1,hg1,rfl,fun j hj=>absurd hj (Nat.not_lt_zero j)⟩ (fun i σ H2 _ h=>?_) (fun i x y σ H2 tt hx hy h htt=>?_) (fun σ H2 h=>?_)⟩
  · obtain ⟨_,_,_,_,_,_,S2,_⟩:=h
    exact ⟨SqL.of (S2.lst ha),SqL.of (S2.lst hra)⟩
  · clear S1 tb1 hg1
    obtain ⟨r',y1,y2,y3,y4,rfl,S2,tb2,hg2,rl',bt⟩:=h
    have il : i < G.length:=by rw [← ul]; exact (List.getElem?_eq_some_iff.mp hx).1
    have hrow:=List.getElem?_eq_getElem il
    have gk:=g _ (List.getElem_mem il)
    have f2:=few2 _ (List.getElem_mem il)
    obtain ⟨t,wl,hu,ht,hw⟩:=hat i _ hrow
    have ra:=fU rl hrow
    generalize G[i] = row at hrow gk f2 ht hw ra
    rw [hx] at hu
    injection hu with hu
    subst hu
    obtain ⟨o,ho,rfl⟩:=j5 hy
    have s3:=ah htt (.tup [V.ref t,oV o])
    have S3:=S2.trans (Sm.of s3)
    have tb3:=tb2.up s3
    have hg3:=s3 _ _ hg2
    refine ⟨tt,_,rfl,SqT.of ae,rfl,_,_,rfl,_,_,rfl,rfl,?_⟩
    generalize upd H2 tt (.tup [V.ref t,oV o]) = H3 at S3 tb3 hg3 ⊢
    clear S2 tb2 hg2 s3 htt
    refine ⟨_,rfl,_,rfl,?_⟩
    rcases ra with ⟨e,h1⟩ | ⟨own,hown,e,h1⟩
    · rw [ho] at e
      injection e with e
      subst e
      refine cS ?_
      refine ⟨_,rfl,.inl ⟨rfl,_,SqL.of hg3⟩,gl,_,_,rfl,rfl,hg3,fg (m:=1000) (by rw [bz]; omega),?_⟩
      refine ⟨r' ++ [none],_,_,_,_,rfl,S3.put hgn _,tb3.put hg3,by rw [ae,← eP]; rfl,by rw [List.length_append,rl']; rfl,BtAt.snoc rl' bt fun row' hr'=>?_⟩
      rw [hrow] at hr'
      cases hr'
      exact ⟨fun _=>eC rl',fun z=>absurd z h1⟩
    · rw [ho] at e
      injection e with e
      subst e
      refine bj ?_
      have rg : ∀ y ∈ row.2,0 ≤ y.1∧y.1 < TT.length:=fun y hy=>by have:=gk.2.2 y hy; omega
      refine ⟨_,rfl,t,_,_,_,rfl,rfl,SqT.of (S3.tup ht),ar (j:=1) rfl,_,rfl,.ref wl,ta,row.2,TT,rfl,mono_ws.up S3 hw,S3 _ _ hta,gk.1,rg,tb3,fun wt wy H4 S4 tb4 hwy best hwt=>?_⟩
      have S5:=S3.trans S4
      have hg5:=S4.lst (bM hg3)
      have hwt5:=aj _ _ hwt
      obtain ⟨_,wus,e0,hwu,pw⟩:=mono_ws.up aj (mono_ws.up S5 hw)
      cases e0
      obtain ⟨ts,rfl,t2,t3⟩:=j1 pw
      refine ⟨_,rfl,_,rfl,_,rfl,t,_,_,_,rfl,rfl,SqT.of (S5.tup ht),ar (j:=1) rfl,wl,ts,rfl,SqL.of hwu,fun z hz=>SqT.of (t2 z hz),fun dp hdp=>?_⟩
      rw [t3,jn gk.2.1]
      have s6:=ah hdp (.dK (dcW row.2))
      have hd6 : upd H4 dp (.dK (dcW row.2)) dp = some (.dK (dcW row.2)):=ae
      have S6:=S5.trans (Sm.of s6)
      have tb6:=tb4.up s6
      have hg6:=s6 _ _ hg5
      have hwt6:=s6 _ _ hwt5
      generalize upd H4 dp (.dK (dcW row.2)) = H6 at S6 tb6 hg6 hwt6 hd6 ⊢
      refine ⟨_,rfl,dp,V.int own.2,rfl,by rw [← gB gk.2.1 hown]; exact DGet.k (k:=Sum.inl own.1) hd6,ta,TT,own.1,own.2,rfl,S6.lst hta,(rg own hown).1,(rg own hown).2,?_⟩
      refine ⟨_,rfl,.inl ⟨rfl,_,SqL.of hg6⟩,_,rfl,_,rfl,wt,_,_,_,rfl,rfl,SqT.of hwt6,ar (j:=0) rfl,_,rfl,wt,_,_,_,rfl,rfl,SqT.of hwt6,ar (j:=1) rfl,ta,TT,wy.1,wy.2,rfl,S6.lst hta,(rg wy hwy).1,(rg wy hwy).2,_,rfl,ao (tbF TT) wy,ao (tbF TT) own,rfl,fun b H7 s7 hb=>⟨b,rfl,?_⟩⟩
      have S7:=S6.trans (Sm.of s7)
      have tb7:=tb6.up s7
      have hg7:=s7 _ _ hg6
      have best' : ∀ w' ∈ row.2,leO (ao (tbF TT) w') (ao (tbF TT) wy):=fun w' hw'=>by
        have:=best w' hw'
        rwa [if_pos rfl] at this
      have fin : ∀ z : Int,(leO (ao (tbF TT) wy) (ao (tbF TT) own)∧z = own.1 ∨ ¬ leO (ao (tbF TT) wy) (ao (tbF TT) own)∧z = wy.1)→BtAt G r (tbF TT) (r' ++ [some z]) i:=fun z hz row' hr'=>by
        rw [hrow] at hr'
        cases hr'
        refine ⟨fun y=>absurd h1 y,fun _=>⟨own,wy,hown,hwy,ho,best',?_⟩⟩
        rcases hz with ⟨k,rfl⟩ | ⟨k,rfl⟩
        · exact .inl ⟨k,eC rl'⟩
        · exact .inr ⟨k,eC rl'⟩
      cases b with
      | true =>
        refine cS ?_
        refine ⟨_,rfl,wt,_,_,_,rfl,rfl,SqT.of (s7 _ _ hwt6),ar (j:=0) rfl,gl,_,_,rfl,rfl,hg7,fg (m:=1000) (by rw [bz]; omega),?_⟩
        exact ⟨r' ++ [some wy.1],_,_,_,_,rfl,S7.put hgn _,tb7.put hg7,by rw [ae,← eP]; rfl,by rw [List.length_append,rl']; rfl,BtAt.snoc rl' bt (fin wy.1 (.inr ⟨hb.mp rfl,rfl⟩))⟩
      | false =>
        refine bj ?_
        refine ⟨_,rfl,gl,_,_,rfl,rfl,hg7,fg (m:=1000) (by rw [bz]; omega),?_⟩
        exact ⟨r' ++ [some own.1],_,_,_,_,rfl,S7.put hgn _,tb7.put hg7,by rw [ae,← eP],by rw [List.length_append,rl']; rfl,BtAt.snoc rl' bt (fin own.1 (.inl ⟨(Classical.byContradiction fun z=>absurd (hb.mpr z) Bool.false_ne_true),rfl⟩))⟩
  · obtain ⟨r',y1,y2,y3,y4,rfl,S2,tb2,hg2,rl',bt⟩:=h
    rw [ul] at rl' bt
    exact ⟨_,rfl,q gl r' H2 S2 tb2 hgn (bM hg2) ⟨rl',fun i row hrow=>bt i (List.getElem?_eq_some_iff.mp hrow).1 row hrow⟩⟩
inductive Chn (G : List ak) : List (List (Option Int))→List (Option Int)→Tb→Prop
  | start {r : List (Option Int)} {T : Tb} : RlP G r→Nds (av G r) G.length T→Chn G [r] r T
  | next {L : List (List (Option Int))} {r r' : List (Option Int)} {T T' : Tb} : Chn G L r T→Btr G r T r'→r' ≠ r→Nds (av G r') G.length T'→Chn G (r' :: L) r' T'
def ChB (G : List ak) : Prop:=∃ M,M < 16777216∧∀ L r T,Chn G L r T→L.length ≤ M
theorem Chn.rl {G : List ak} {L : List (List (Option Int))} {r : List (Option Int)} {T : Tb} (h : Chn G L r T) : RlP G r:=by
  cases h with
  | start h _=>exact h
  | next _ b _ _=>exact b.rule
theorem Chn.nds {G : List ak} {L : List (List (Option Int))} {r : List (Option Int)} {T : Tb} (h : Chn G L r T) : Nds (av G r) G.length T:=by
  cases h with
  | start _ h=>exact h
  | next _ _ _ h=>exact h
theorem nI {T : List (Option Int)} {a : Addr} : V.ref a ∉ tV T:=fun h=>by
  unfold tV at h
  obtain ⟨o,_,e⟩:=List.mem_map.mp h
  cases o <;> cases e
theorem qS {T : List (Option Int)} {ys : List V} {a : Addr} (h : ys ++ [V.ref a] = tV T) : False:=nI (T:=T) (a:=a) (by rw [← h]; simp)
theorem lB {H : Hp} : ∀ T : List (Option Int),Paired (r6 cg H) T (tV T)
  | []=>.nil
  | o :: T=>.cons (by cases o <;> rfl) (lB T)
theorem rOL {H : Hp} {a : Addr} {T : List (Option Int)} (h : H a = some (.lst (tV T))) : jG (r6 cg) H T (.ref a):=⟨a,_,rfl,h,lB T⟩
theorem eZ {H : Hp} {a c : Addr} {o : HO} (h : c ≠ a) : nt (upd H a o) c = nt H c:=by unfold nt; rw [aq h]
theorem px {ys : List V} {x : V} : atI (ys ++ [x]) (-1) = some x:=by
  unfold atI
  rw [List.length_append,List.length_singleton]
  have e : ixN (ys.length + 1) (-1) = some ys.length:=by
    unfold ixN
    split
    · exfalso; omega
    · split
      · congr 1; omega
      · exfalso; omega
  rw [e]
  show (ys ++ [x])[ys.length]? = _
  simp
def n9 (K : PySem.W.Frag) : Sp:=fun vs H Q _=>∃ (v : V) (G : List ak),vs = [v]∧rPu (nt H) G v∧GPk G∧G.length ≤ 16∧(∀ row ∈ G,row.2.length ≤ 100)∧ChB G∧Tbs K H∧∀ (l lt ra ta : Addr) (ys : List V) (r T : List (Option Int)) (H' : Hp),Sm H H'→Tbs K H'→nt H' l = some (.lst (ys ++ [.ref lt]))→nt H' lt = some (.tup [.ref ra,.ref ta])→nt H' ra = some (.lst (tV r))→nt H' ta = some (.lst (tV T))→RlP G r→T.length = G.length→Nds (av G r) G.length (tbF T)→Btr G r (tbF T) r→Q (.ref l) H'
theorem qx (F : DefAt K mg "betterings" bC ["game"]) (T : Txt mg) (D_needs : Dn P w K mg base "needs" 6 ["game","rule"] (ls K)) (D_bettered : Dn P w K mg base "bettered" 5 ["game","rule","table"] (qN K)) : Dn P w K mg base "betterings" 7 ["game"] (n9 K):=by
  have sc:=ia
  refine F.ok sc (fun vs H Q E h=>?_) (fun f cdv A outer s H vs Q E hr h=>?_)
  · obtain ⟨_,_,rfl,_⟩:=h; rfl
  obtain ⟨v,G,rfl,hv,g,few,few2,⟨M,hM,cM⟩,tb,q⟩:=h
  obtain ⟨a,us,rfl,ha,ul,hat⟩:=cq hv
  refine ⟨_,(ac (q5 (i:=1) (af bC) ["game","rule","table","told","better"] ["hand","ways"] 2 [] sc.nd rfl rfl (cf (pv 0)) (fun _ _ _ _ _ _=>(pA (K:=K) rfl rfl (show List.Nodup (["hand","ways"] : List Str) by decide +kernel) rfl rfl rfl rfl)) (fun _ _ _ _ _ _=>dg) (fun _ _ _ _ _ _=>(cY (aG cN (pv 0) ab (aB _)) (ax (ixT (K:=K) rfl) (ax (ixL (K:=K) rfl) (pv 1) ab (fun _ _=>rfl)) ab (fun _ _=>rfl)) fb)))
      (ac (au (i:=2) sc.nd rfl (Or.inl rfl) (az D_needs hr (aa (pv 0) (aa (pv 1) ad))))
      (ac (au (i:=3) sc.nd rfl (Or.inl rfl) (bU (aa (cH (aa (pv 1) (aa (pv 2) ad))) ad)))
      (ac (au (i:=4) sc.nd rfl (Or.inl rfl) (az D_bettered hr (aa (pv 0) (aa (pv 1) (aa (pv 2) ad)))))
      (ac (jJ PassesOwn.never (aG (rR (qe mQ) (iW hr 1)) (pv 4) (pv 1) (aB _))
      (ac (au (i:=1) sc.nd rfl (Or.inl rfl) (pv 4))
      (ac (au (i:=2) sc.nd rfl (Or.inl rfl) (az D_needs hr (aa (pv 0) (aa (pv 1) ad))))
      (ac (aM (dq PySem.F.plainAttrs_list PySem.F.slot_list_append PySem.F.type_list_append bg (pv 3) (aa (cH (aa (pv 1) (aa (pv 2) ad))) ad)))
      (ag (au (i:=4) sc.nd rfl (Or.inl rfl) (az D_bettered hr (aa (pv 0) (aa (pv 1) (aa (pv 2) ad))))))))))
      (ag (aC (pv 3)))))))),?_⟩
  refine ⟨_,rfl,a,rfl,⟨_,SqL.of (aj _ _ ha)⟩,bL (K:=K) (a:=a) (xs:=us) (fun i ys H2=>H2 = H∧∃ R : List (Option Int),ys = tV R∧R.length = i∧∀ j row,j < i→G[j]? = some row→(row.1 ≠ 1→R[j]? = some none)∧(row.1 = 1→∃ w ∈ row.2,R[j]? = some (some w.1))) ⟨rfl,[],rfl,rfl,fun j row hj=>absurd hj (Nat.not_lt_zero j)⟩ (di (m:=1000) (by omega)) (fun i ys H2 hi h=>?_) (fun i x ys H2 hi h=>?_) (fun ys H2 h ra hra=>?_)⟩
  · obtain ⟨rfl,R,rfl,rfl,_⟩:=h
    exact ⟨SqL.of (aj _ _ ha),by rw [bz]; exact Nat.le_refl _⟩
  · obtain ⟨rfl,R,rfl,Rl,h⟩:=h
    have il : i < G.length:=by rw [← ul]; exact (List.getElem?_eq_some_iff.mp hi).1
    have hrow:=List.getElem?_eq_getElem il
    have gk:=g _ (List.getElem_mem il)
    obtain ⟨t,wl,hu,ht,hw⟩:=hat i _ hrow
    generalize G[i] = row at hrow gk ht hw
    rw [hi] at hu
    injection hu with hu
    subst hu
    obtain ⟨_,wus,e0,hwl,wul,wat⟩:=cC hw
    cases e0
    refine fj (SqT.of (aj _ _ ht)) rfl ?_
    have fin : ∀ o : Option Int,((row.1 ≠ 1→o = none)∧(row.1 = 1→∃ w ∈ row.2,o = some w.1))→H2 = H2∧∃ R' : List (Option Int),tV R ++ [oV o] = tV R'∧R'.length = i + 1∧∀ j row,j < i + 1→G[j]? = some row→(row.1 ≠ 1→R'[j]? = some none)∧(row.1 = 1→∃ w ∈ row.2,R'[j]? = some (some w.1)):=fun o ho=>by
      refine ⟨rfl,R ++ [o],eP R o,by rw [List.length_append,Rl]; rfl,fun j row' hj hr'=>?_⟩
      rcases Nat.lt_or_ge j i with c | c
      · rw [List.getElem?_append_left (by omega)]; exact h j row' c hr'
      · have : j = i:=by omega
        subst this
        rw [hrow] at hr'
        cases hr'
        rw [eC Rl]
        exact ⟨fun z=>by rw [ho.1 z],fun z=>by obtain ⟨w,hw,e⟩:=ho.2 z; exact ⟨w,hw,by rw [e]⟩⟩
    refine ⟨_,rfl,rfl,_,rfl,?_⟩
    refine cL (fun c=>?_) (fun c=>?_)
    · have c : row.1 = 1:=by have:=of_decide_eq_true c; injection this
      have wne : 0 < row.2.length:=List.length_pos_iff.mpr gk.1
      obtain ⟨wt,hwt,hwt2⟩:=wat 0 _ (List.getElem?_eq_getElem wne)
      refine ⟨_,rfl,wl,_,_,_,rfl,rfl,SqL.of (aj _ _ hwl),ar (j:=0) hwt,wt,_,_,_,rfl,rfl,SqT.of (aj _ _ hwt2),ar (j:=0) rfl,?_⟩
      exact fin (some row.2[0].1) ⟨fun z=>absurd c z,fun _=>⟨row.2[0],List.getElem_mem wne,rfl⟩⟩
    · exact fin none ⟨fun _=>rfl,fun z=>absurd (decide_eq_true (by rw [z])) c⟩
  obtain ⟨rfl,R,rfl,Rl,h⟩:=h
  have rl0 : RlP G R:=⟨by omega,fun i row hr=>h i row (by rw [ul]; exact (List.getElem?_eq_some_iff.mp hr).1) hr⟩
  have s1:=ah hra (.lst (tV R))
  have S1:=Sm.of s1
  have tb1:=tb.up s1
  have hr1 : nt (upd H2 ra (.lst (tV R))) ra = some (.lst (tV R)):=bM ae
  generalize upd H2 ra (.lst (tV R)) = H1 at S1 tb1 hr1 ⊢
  refine ⟨_,rfl,_,rfl,.ref a,G,ra,R,rfl,mono_pu.up S1 hv,hr1,g,rl0,few,few2,tb1,fun ta TT H3 S3 tb3 hta0 hta tl N=>?_⟩
  refine ⟨_,rfl,_,rfl,(by show 2 ≤ sizeLine; decide),fun lt hlt=>⟨(by show 1 ≤ sizeLine; decide),fun l hl=>?_⟩⟩
  have s4:=(ah hlt (.tup [V.ref ra,V.ref ta])).trans (ah hl (.lst [V.ref lt]))
  have hlt4 : nt (upd (upd H3 lt (.tup [V.ref ra,V.ref ta])) l (.lst [V.ref lt])) lt = some (.tup [V.ref ra,V.ref ta]):=gQ (ah hl _ _ _ ae)
  have hl4 : nt (upd (upd H3 lt (.tup [V.ref ra,V.ref ta])) l (.lst [V.ref lt])) l = some (.lst ([] ++ [V.ref lt])):=bM ae
  have hln : nt H2 l = none:=(S1.trans S3).free ((Sm.of (ah hlt (.tup [V.ref ra,V.ref ta]))).free (eF hl))
  have S4:=(S1.trans S3).trans (Sm.of s4)
  have hr4:=(S3.trans (Sm.of s4)) _ _ hr1
  have ht4:=(Sm.of s4) _ _ hta
  have tb4:=tb3.up s4
  generalize upd (upd H3 lt (.tup [V.ref ra,V.ref ta])) l (.lst [V.ref lt]) = H4 at S4 hr4 ht4 tb4 hlt4 hl4 ⊢
  clear S1 tb1 hr1 S3 tb3 hta0 hta s4 hlt hl s1 hra
  have body : ∀ (ra ta l lt ba : Addr) (L : List (List (Option Int))) (r TT r' : List (Option Int)) (ys : List V) (m : Nat) (H5 : Hp),True:=fun _ _ _ _ _ _ _ _ _ _ _ _=>trivial
  refine ⟨_,rfl,_,rfl,_,rfl,.ref a,G,ra,ta,R,TT,rfl,mono_pu.up S4 hv,hr4,ht4,g,rl0,tl,few,few2,tb4,fun ba r' H5 S5 tb5 hb0 hb bt=>?_⟩
  refine ⟨fun m σ H6=>∃ (ra ta lt ba : Addr) (L : List (List (Option Int))) (r TT r' : List (Option Int)) (ys : List V),m = M - L.length∧σ = [some (.ref a),some (.ref ra),some (.ref ta),some (.ref l),some (.ref ba)]∧Sm H2 H6∧Tbs K H6∧nt H6 ra = some (.lst (tV r))∧nt H6 ta = some (.lst (tV TT))∧nt H6 l = some (.lst (ys ++ [.ref lt]))∧nt H6 lt = some (.tup [.ref ra,.ref ta])∧nt H6 ba = some (.lst (tV r'))∧ys.length + 1 = L.length∧TT.length = G.length∧Chn G L r (tbF TT)∧Btr G r (tbF TT) r',
    ⟨_,ra,ta,lt,ba,[R],R,TT,r',[],rfl,rfl,S4.trans S5,tb5,S5 _ _ hr4,S5 _ _ ht4,S5 _ _ hl4,S5 _ _ hlt4,hb,rfl,tl,.start rl0 N,bt⟩,fun m σ H6 h=>?_⟩
  clear S4 hr4 ht4 tb4 hlt4 hl4 S5 tb5 hb0 hb bt body tl N rl0
  obtain ⟨ra,ta,lt,ba,L,r,TT,r',ys,rfl,rfl,S6,tb6,hr6,ht6,hl6,hlt6,hb6,yl,tl,ch,bt⟩:=h
  refine ⟨_,rfl,_,rfl,r',r,rOL (aj _ _ hb6),rOL (aj _ _ hr6),_,rfl,?_⟩
  refine cL (fun c=>?_) (fun c=>?_)
  · have ne : r' ≠ r:=fun z=>by rw [z] at c; simp at c
    refine ⟨fun σ H9=>∃ (ra ta lt ba : Addr) (L' : List (List (Option Int))) (r TT r' : List (Option Int)) (ys : List V),L'.length = L.length + 1∧σ = [some (.ref a),some (.ref ra),some (.ref ta),some (.ref l),some (.ref ba)]∧Sm H2 H9∧Tbs K H9∧nt H9 ra = some (.lst (tV r))∧nt H9 ta = some (.lst (tV TT))∧nt H9 l = some (.lst (ys ++ [.ref lt]))∧nt H9 lt = some (.tup [.ref ra,.ref ta])∧nt H9 ba = some (.lst (tV r'))∧ys.length + 1 = L'.length∧TT.length = G.length∧Chn G L' r (tbF TT)∧Btr G r (tbF TT) r',fun σ' H9 h=>?_,?_⟩
    · obtain ⟨ra,ta,lt,ba,L',r,TT,r',ys,e,rfl,h1,h2,h3,h4,h5,h6,h7,h8,h9,h10,h11⟩:=h
      have:=cM _ _ _ h10
      exact ⟨M - L'.length,by omega,ra,ta,lt,ba,L',r,TT,r',ys,rfl,rfl,h1,h2,h3,h4,h5,h6,h7,h8,h9,h10,h11⟩
    refine ⟨_,rfl,_,rfl,_,rfl,.ref a,G,ba,r',rfl,mono_pu.up S6 hv,hb6,g,bt.rule,few,few2,tb6,fun tb' TT' H7 S7 tb7 ht0 ht7 tl7 N7=>?_⟩
    have ch':=Chn.next ch bt ne N7
    have lM:=cM _ _ _ ch'
    have lM : L.length + 1 ≤ M:=lM
    have hl7:=S7 _ _ hl6
    refine ⟨_,rfl,.inl ⟨rfl,_,SqL.of (aj _ _ hl7)⟩,_,rfl,_,rfl,(by show 2 ≤ sizeLine; decide),fun lt' hlt'=>?_⟩
    have s8:=ah hlt' (.tup [V.ref ba,V.ref tb'])
    have hlt8 : nt (upd H7 lt' (.tup [V.ref ba,V.ref tb'])) lt' = some (.tup [V.ref ba,V.ref tb']):=gQ ae
    have S8:=(S6.trans S7).trans (Sm.of s8)
    have tb8:=tb7.up s8
    have hb8:=(S7.trans (Sm.of s8)) _ _ hb6
    have ht8:=(Sm.of s8) _ _ ht7
    have hl8:=(Sm.of s8) _ _ hl7
    generalize upd H7 lt' (.tup [V.ref ba,V.ref tb']) = H8 at hlt8 S8 tb8 hb8 ht8 hl8 ⊢
    clear hlt' s8 S7 tb7 ht0 ht7 hl7
    have n1 : ba ≠ l:=fun z=>by
      rw [z,hl8] at hb8
      injection hb8 with e
      injection e with e
      exact qS e
    have n2 : tb' ≠ l:=fun z=>by
      rw [z,hl8] at ht8
      injection ht8 with e
      injection e with e
      exact qS e
    have n3 : lt' ≠ l:=fun z=>by
      rw [z,hl8] at hlt8
      injection hlt8 with e
      cases e
    refine ⟨l,ys ++ [.ref lt],_,rfl,rfl,aj _ _ hl8,by rw [List.length_append]; show ys.length + 1 < 16777216; omega,?_⟩
    have hl9 : nt (upd H8 l (.lst ((ys ++ [V.ref lt]) ++ [V.ref lt']))) l = some (.lst ((ys ++ [V.ref lt]) ++ [V.ref lt'])):=bM ae
    have S9 : Sm H2 (upd H8 l (.lst ((ys ++ [V.ref lt]) ++ [V.ref lt']))):=S8.put hln _
    have tb9 : Tbs K (upd H8 l (.lst ((ys ++ [V.ref lt]) ++ [V.ref lt']))):=tb8.put (aj _ _ hl8)
    have hb9 : nt (upd H8 l (.lst ((ys ++ [V.ref lt]) ++ [V.ref lt']))) ba = some (.lst (tV r')):=by rw [eZ n1]; exact hb8
    have ht9 : nt (upd H8 l (.lst ((ys ++ [V.ref lt]) ++ [V.ref lt']))) tb' = some (.lst (tV TT')):=by rw [eZ n2]; exact ht8
    have hlt9 : nt (upd H8 l (.lst ((ys ++ [V.ref lt]) ++ [V.ref lt']))) lt' = some (.tup [V.ref ba,V.ref tb']):=by rw [eZ n3]; exact hlt8
    generalize upd H8 l (.lst ((ys ++ [V.ref lt]) ++ [V.ref lt'])) = H9 at hl9 S9 tb9 hb9 ht9 hlt9 ⊢
    refine ⟨_,rfl,_,rfl,_,rfl,.ref a,G,ba,tb',r',TT',rfl,mono_pu.up S9 hv,hb9,ht9,g,bt.rule,tl7,few,few2,tb9,fun bb r'' H10 S10 tb10 hb0 hb10 bt10=>?_⟩
    exact ⟨ba,tb',lt',bb,r' :: L,r',TT',r'',ys ++ [.ref lt],rfl,rfl,S9.trans S10,tb10,S10 _ _ hb9,S10 _ _ ht9,S10 _ _ hl9,S10 _ _ hlt9,hb10,by rw [List.length_append]; show ys.length + 1 + 1 = L.length + 1; omega,tl7,ch',bt10⟩
  · have e : r' = r:=by
      by_cases z : r' = r
      · exact z
      · exact absurd (by rw [decide_eq_false z]; rfl) c
    rw [e] at bt
    exact ⟨_,rfl,q l lt ra ta ys r TT H6 S6 tb6 hl6 hlt6 hr6 ht6 ch.rl tl ch.nds bt⟩
def nq (G : List ak) (T ws : List (Option Int)) : Prop:=∃ r,T.length = G.length∧RlP G r∧Nds (av G r) G.length (tbF T)∧Btr G r (tbF T) r∧ws.length = G.length∧∀ (i : Nat) row,G[i]? = some row→(row.1 = 0∧tbF T (i : Int) ≠ none→∃ w ∈ row.2,(∀ w' ∈ row.2,leO (ao (tbF T) w) (ao (tbF T) w'))∧ws[i]? = some (some w.1))∧(¬ (row.1 = 0∧tbF T (i : Int) ≠ none)→ws[i]? = r[i]?)
def kR (K : PySem.W.Frag) : Sp:=fun vs H Q _=>∃ (v : V) (G : List ak),vs = [v]∧rPu (nt H) G v∧GPk G∧G.length ≤ 16∧(∀ row ∈ G,row.2.length ≤ 100)∧ChB G∧Tbs K H∧∀ (t ta wa : Addr) (T ws : List (Option Int)) (H' : Hp),Sm H H'→Tbs K H'→nt H' t = some (.tup [.ref ta,.ref wa])→nt H' ta = some (.lst (tV T))→nt H' wa = some (.lst (tV ws))→nq G T ws→Q (.ref t) H'
theorem pV (F : DefAt K mg "solved_purses" bn ["game"]) (T : Txt mg) (D_betterings : Dn P w K mg base "betterings" 7 ["game"] (n9 K)) (D_least_needy : Dn P w K mg base "least_needy" 4 ["ways","purses"] (nJ K false)) : Dn P w K mg base "solved_purses" 8 ["game"] (kR K):=by
  have sc:=fo
  refine F.ok sc (fun vs H Q E h=>?_) (fun f cdv A outer s H vs Q E hr h=>?_)
  · obtain ⟨_,_,rfl,_⟩:=h; rfl
  obtain ⟨v,G,rfl,hv,g,few,few2,cb,tb,q⟩:=h
  obtain ⟨a,us,rfl,ha,ul,hat⟩:=cq hv
  refine ⟨_,(ac (au (i:=1) sc.nd rfl (Or.inl rfl) (ax (ixL (K:=K) rfl) (az D_betterings hr (aa (pv 0) ad)) (qH oT ab) (fun _ _=>rfl)))
      (ac (au (i:=2) sc.nd rfl (Or.inl rfl) (ax (ixT (K:=K) rfl) (pv 1) ab (fun _ _=>rfl)))
      (ac (au (i:=3) sc.nd rfl (Or.inl rfl) (ax (ixT (K:=K) rfl) (pv 1) ab (fun _ _=>rfl)))
      (ac (au (i:=4) sc.nd rfl (Or.inl rfl) (bU ad))
      (ac (bu PassesOwn.never rfl (o9 (K:=K) rfl rfl T.b_zip (aa (pv 0) (aa (pv 2) (aa (pv 3) ad)))) (dE rfl (aO (aD (i:=5) sc.nd rfl (Or.inl rfl)) (aO (aD (i:=6) sc.nd rfl (Or.inl rfl)) (aO (aD (i:=7) sc.nd rfl (Or.inl rfl)) cO))))
      (ag (aZ (PW.pt (e7 (aG cN (ax (ixT (K:=K) rfl) (pv 5) ab (fun _ _=>rfl)) ab (aB _)) (dG (b8 (eK (pv 7))))))
      (ag (aM (dq PySem.F.plainAttrs_list PySem.F.slot_list_append PySem.F.type_list_append bg (pv 4) (aa (ax (ixT (K:=K) rfl) (az D_least_needy hr (aa (ax (ixT (K:=K) rfl) (pv 5) ab (fun _ _=>rfl)) (aa (pv 3) ad))) ab (fun _ _=>rfl)) ad))))
      (ag (aM (dq PySem.F.plainAttrs_list PySem.F.slot_list_append PySem.F.type_list_append bg (pv 4) (aa (pv 6) ad)))))))
      (ag (aC (cH (aa (pv 3) (aa (pv 4) ad)))))))))),?_⟩
  refine ⟨_,rfl,.ref a,G,rfl,hv,g,few,few2,cb,tb,fun l lt ra ta ys r TT H1 S1 tb1 hl1 hlt1 hr1 ht1 rl tl N bt=>?_⟩
  refine ⟨1,rfl,l,_,_,_,rfl,rfl,SqL.of (aj _ _ hl1),px,?_⟩
  refine ⟨_,rfl,lt,_,_,_,rfl,rfl,SqT.of (aj _ _ hlt1),ar (j:=0) rfl,?_⟩
  refine ⟨_,rfl,lt,_,_,_,rfl,rfl,SqT.of (aj _ _ hlt1),ar (j:=1) rfl,?_⟩
  refine ⟨Nat.zero_le _,fun wa hwa=>?_⟩
  have s2:=ah hwa (.lst [])
  have hwn : nt H1 wa = none:=eF hwa
  have S2:=Sm.of s2
  have tb2:=tb1.up s2
  have hw2 : upd H1 wa (.lst []) wa = some (.lst (tV [])):=ae
  generalize upd H1 wa (.lst []) = H2 at S2 tb2 hw2 ⊢
  clear s2
  have ha1:=S1 _ _ ha
  refine ⟨_,rfl,_,rfl,_,rfl,a,ra,ta,rfl,⟨_,SqL.of (S2.lst ha1)⟩,⟨_,SqL.of (S2.lst hr1)⟩,⟨_,SqL.of (S2.lst ht1)⟩,mZ (K:=K) (a:=a) (b:=ra) (d:=ta) (xs:=us) (ys:=tV r) (zs:=tV TT) (by rw [bz,ul,rl.1]) (by rw [bz,ul,tl]) (fun i σ H3=>∃ (ws : List (Option Int)) (y1 y2 y3 : Option V),σ = [some (.ref a),some (.ref lt),some (.ref ra),some (.ref ta),some (.ref wa),y1,y2,y3]∧Sm H1 H3∧Tbs K H3∧H3 wa = some (.lst (tV ws))∧ws.length = i∧∀ j row,j < i→G[j]? = some row→(row.1 = 0∧tbF TT (j : Int) ≠ none→∃ w ∈ row.2,(∀ w' ∈ row.2,leO (ao (tbF TT) w) (ao (tbF TT) w'))∧ws[j]? = some (some w.1))∧(¬ (row.1 = 0∧tbF TT (j : Int) ≠ none)→ws[j]? = r[j]?))
    ⟨[],_,_,_,rfl,S2,tb2,hw2,rfl,fun j row hj=>absurd hj (Nat.not_lt_zero j)⟩ (fun i σ H3 _ h=>?_) (fun i x y z σ H3 tt hx hy hz h htt=>?_) (fun σ H3 h=>?_)⟩
  · obtain ⟨_,_,_,_,_,S3,_⟩:=h
    exact ⟨SqL.of (S3.lst ha1),SqL.of (S3.lst hr1),SqL.of (S3.lst ht1)⟩
  · clear S2 tb2 hw2
    obtain ⟨ws,y1,y2,y3,rfl,S3,tb3,hw3,wl3,h⟩:=h
    have il : i < G.length:=by rw [← ul]; exact (List.getElem?_eq_some_iff.mp hx).1
    have hrow:=List.getElem?_eq_getElem il
    have gk:=g _ (List.getElem_mem il)
    obtain ⟨t,wl,hu,ht,hw⟩:=hat i _ hrow
    generalize G[i] = row at hrow gk ht hw
    rw [hx] at hu
    injection hu with hu
    subst hu
    obtain ⟨o,ho,rfl⟩:=j5 hy
    obtain ⟨u,hu,rfl⟩:=j5 hz
    have ht1:=S1 _ _ ht
    have hw1:=mono_ws.up S1 hw
    have eu : tbF TT (i : Int) = u:=by rw [pU,hu]; rfl
    have s4:=ah htt (.tup [V.ref t,oV o,oV u])
    have S4:=S3.trans (Sm.of s4)
    have tb4:=tb3.up s4
    have hw4:=s4 _ _ hw3
    refine ⟨tt,_,rfl,SqT.of ae,rfl,_,_,rfl,_,_,rfl,_,_,rfl,rfl,?_⟩
    generalize upd H3 tt (.tup [V.ref t,oV o,oV u]) = H4 at S4 tb4 hw4 ⊢
    clear S3 tb3 hw3 s4 htt
    have fin : ∀ (p : Option Int) (H5 : Hp) (y1 y2 y3 : Option V),Sm H1 H5→Tbs K H5→H5 wa = some (.lst (tV ws))→((row.1 = 0∧u ≠ none→∃ w ∈ row.2,(∀ w' ∈ row.2,leO (ao (tbF TT) w) (ao (tbF TT) w'))∧p = some w.1)∧(¬ (row.1 = 0∧u ≠ none)→p = o))→∃ (ws' : List (Option Int)) (z1 z2 z3 : Option V),[some (V.ref a),some (.ref lt),some (.ref ra),some (.ref ta),some (.ref wa),y1,y2,y3] = [some (V.ref a),some (.ref lt),some (.ref ra),some (.ref ta),some (.ref wa),z1,z2,z3]∧Sm H1 (upd H5 wa (.lst (tV ws ++ [oV p])))∧Tbs K (upd H5 wa (.lst (tV ws ++ [oV p])))∧upd H5 wa (.lst (tV ws ++ [oV p])) wa = some (.lst (tV ws'))∧ws'.length = i + 1∧∀ j row,j < i + 1→G[j]? = some row→(row.1 = 0∧tbF TT (j : Int) ≠ none→∃ w ∈ row.2,(∀ w' ∈ row.2,leO (ao (tbF TT) w) (ao (tbF TT) w'))∧ws'[j]? = some (some w.1))∧(¬ (row.1 = 0∧tbF TT (j : Int) ≠ none)→ws'[j]? = r[j]?):=fun p H5 y1 y2 y3 S5 tb5 hw5 hp=>by
      refine ⟨ws ++ [p],y1,y2,y3,rfl,S5.put hwn _,tb5.put hw5,by rw [ae,eP],by rw [List.length_append,wl3]; rfl,fun j row' hj hr'=>?_⟩
      rcases Nat.lt_or_ge j i with c | c
      · rw [List.getElem?_append_left (by omega)]; exact h j row' c hr'
      · have : j = i:=by omega
        subst this
        rw [hrow] at hr'
        cases hr'
        rw [eC wl3,eu,ho]
        exact ⟨fun z=>by obtain ⟨w,k1,k2,k3⟩:=hp.1 z; exact ⟨w,k1,k2,by rw [k3]⟩,fun z=>by rw [hp.2 z]⟩
    refine ⟨_,rfl,t,_,_,_,rfl,rfl,SqT.of (S4.tup ht1),ar (j:=0) rfl,rfl,_,rfl,?_⟩
    have wll : (tV ws).length ≤ 1000:=by rw [bz]; omega
    refine cL (fun c=>?_) (fun c=>?_)
    · have c : row.1 = 0:=by have:=of_decide_eq_true c; injection this
      refine ⟨_,rfl,_,rfl,?_⟩
      cases u with
      | none =>
        refine bj ?_
        exact ⟨_,rfl,.inl ⟨rfl,_,SqL.of hw4⟩,_,rfl,wa,_,_,rfl,rfl,hw4,fg (m:=1000) wll,fin o H4 _ _ _ S4 tb4 hw4 ⟨fun z=>absurd rfl z.2,fun _=>rfl⟩⟩
      | some u =>
        refine cS ?_
        have rg : ∀ y ∈ row.2,0 ≤ y.1∧y.1 < TT.length:=fun y hy=>by have:=gk.2.2 y hy; omega
        refine ⟨_,rfl,.inl ⟨rfl,_,SqL.of hw4⟩,_,rfl,t,_,_,_,rfl,rfl,SqT.of (S4.tup ht1),ar (j:=1) rfl,_,rfl,.ref wl,ta,row.2,TT,rfl,mono_ws.up S4 hw1,S4 _ _ ‹nt H1 ta = _›,gk.1,rg,tb4,fun wt wy H5 S5 tb5 hwy best hwt=>?_⟩
        have hw5:=S5.lst (bM hw4)
        refine ⟨wt,_,_,_,rfl,rfl,SqT.of (aj _ _ hwt),ar (j:=0) rfl,wa,_,_,rfl,rfl,hw5,fg (m:=1000) wll,fin (some wy.1) H5 _ _ _ (S4.trans S5) tb5 hw5 ⟨fun _=>⟨wy,hwy,fun w' hw'=>?_,rfl⟩,fun z=>absurd ⟨c,fun z=>by cases z⟩ z⟩⟩
        have:=best w' hw'
        rwa [if_neg (by decide)] at this
    · have c : ¬ row.1 = 0:=fun z=>c (decide_eq_true (by rw [z]))
      refine bj ?_
      exact ⟨_,rfl,.inl ⟨rfl,_,SqL.of hw4⟩,_,rfl,wa,_,_,rfl,rfl,hw4,fg (m:=1000) wll,fin o H4 _ _ _ S4 tb4 hw4 ⟨fun z=>absurd z.1 c,fun _=>rfl⟩⟩
  · obtain ⟨ws,y1,y2,y3,rfl,S3,tb3,hw3,wl3,h⟩:=h
    rw [ul] at wl3 h
    refine ⟨_,rfl,_,rfl,(by show 2 ≤ sizeLine; decide),fun t ht=>?_⟩
    have s4:=ah ht (.tup [V.ref ta,V.ref wa])
    exact q t ta wa TT ws _ ((S1.trans S3).trans (Sm.of s4)) (tb3.up s4) (gQ ae) ((S3.trans (Sm.of s4)) _ _ ht1) (bM (s4 _ _ hw3)) ⟨r,tl,rl,N,bt,wl3,fun i row hrow=>h i row (List.getElem?_eq_some_iff.mp hrow).1 hrow⟩
theorem pB {G : List ak} {L : List (List (Option Int))} {r : List (Option Int)} {T : Tb} (h : Chn G L r T) : ∃ S,L.length = S.length + 1∧ChU G S r T:=by
  induction h with
  | start rl N=>exact ⟨[],rfl,.start rl N⟩
  | next c b ne N' ih =>
    obtain ⟨S,e,hc⟩:=ih
    exact ⟨_ :: S,by rw [List.length_cons,List.length_cons,e],.next hc b ne N'⟩
theorem pQ {G : List ak} (g : GPk G) {k M : Nat} (k1 : 1 ≤ k) (hk : ∀ row ∈ G,row.2.length ≤ k) (hM : k ^ G.length + G.length * k ^ (G.length - 1) < G.length * M) (h24 : M < 16777216) : ChB G:=⟨M,h24,fun L r T h=>by
  obtain ⟨S,e,hc⟩:=pB h
  have:=hc.few g k1 hk
  have:=Nat.lt_of_mul_lt_mul_left (Nat.lt_of_le_of_lt this hM)
  omega⟩
theorem si {G : List ak} (g : GPk G) (h0 : 0 < G.length) (h11 : G.length ≤ 11) (hk : ∀ row ∈ G,row.2.length ≤ 5) : ChB G:=by
  have cs : G.length = 1 ∨ G.length = 2 ∨ G.length = 3 ∨ G.length = 4 ∨ G.length = 5 ∨ G.length = 6 ∨ G.length = 7 ∨ G.length = 8 ∨ G.length = 9 ∨ G.length = 10 ∨ G.length = 11:=by omega
  refine pQ g (k:=5) (M:=14300000) (by decide) hk ?_ (by decide)
  rcases cs with e | e | e | e | e | e | e | e | e | e | e <;> rw [e] <;> decide
def lA : Sp:=fun vs H Q _=>∃ (z n : Int),vs = [.int z,.int n]∧0 ≤ z∧z < n∧Q .non H
theorem nU (F : DefAt K mg "check_start" bJ ["start","count"]) (T : Txt mg) (D_is_place : Dn P w K mg base "is_place" 2 ["value","count"] k9) : Dn P w K mg base "check_start" 3 ["start","count"] lA:=by
  have sc:=gL
  refine F.ok sc (fun vs H Q E h=>?_) (fun f cdv A outer s H vs Q E hr h=>?_)
  · obtain ⟨_,_,rfl,_⟩:=h; rfl
  obtain ⟨z,n,rfl,z0,z1,q⟩:=h
  refine ⟨_,(ag (aZ (c8 (bV (az D_is_place hr (aa (pv 0) (aa (pv 1) ad)))))
      (ag cG)
      aE)),?_⟩
  refine ⟨_,rfl,_,rfl,z,n,rfl,?_⟩
  rw [decide_eq_true (⟨z0,z1⟩ : 0 ≤ z∧z < n)]
  exact ⟨_,rfl,bj q⟩
def kj : Sp:=fun vs H Q _=>vs = [.bl true]∧Q .non H
theorem pq (F : DefAt K mg "check_due" ck ["due"]) (T : Txt mg) : Dn P w K mg base "check_due" 1 ["due"] kj:=by
  have sc:=i6
  refine F.ok sc (fun vs H Q E h=>?_) (fun f cdv A outer s H vs Q E hr h=>?_)
  · obtain ⟨rfl,_⟩:=h; rfl
  obtain ⟨rfl,q⟩:=h
  refine ⟨_,(ag (aZ (c8 (bV (pv 0)))
      (ag cG)
      aE)),?_⟩
  exact ⟨_,rfl,_,rfl,bj q⟩
def qQ : Sp:=fun vs H Q _=>∃ (z : Int) (d : Addr) (ws : List Wy) (x : Wy),vs = [.int z,.ref d]∧H d = some (.dK (dcW ws))∧(ws.map (·.1)).Nodup∧x ∈ ws∧x.1 = z∧Q .non H
theorem rL (F : DefAt K mg "check_way" ci ["place","outs"]) (T : Txt mg) (D_is_whole : Dn P w K mg base "is_whole" 1 ["value"] fR) : Dn P w K mg base "check_way" 2 ["place","outs"] qQ:=by
  have sc:=iR
  refine F.ok sc (fun vs H Q E h=>?_) (fun f cdv A outer s H vs Q E hr h=>?_)
  · obtain ⟨_,_,_,_,rfl,_⟩:=h; rfl
  obtain ⟨z,d,ws,x,rfl,hd,nd,hx,rfl,q⟩:=h
  refine ⟨_,(ag (aZ (PW.pt (eB (c8 (bV (az D_is_whole hr (aa (pv 0) ad)))) (dF (b8 (lT (iW hr 1) (pv 0) (pv 1))))))
      (ag cG)
      aE)),?_⟩
  refine ⟨_,rfl,x.1,rfl,_,rfl,bj ?_⟩
  refine ⟨_,rfl,_,rfl,d,some (.int x.2),rfl,by rw [← gB nd hx]; exact DGet.k (k:=Sum.inl x.1) hd,_,rfl,bj q⟩
def SolR (G : List ak) (T ws r : List (Option Int)) : Prop:=T.length = G.length∧RlP G r∧Nds (av G r) G.length (tbF T)∧Btr G r (tbF T) r∧ws.length = G.length∧∀ (i : Nat) row,G[i]? = some row→(row.1 = 0∧tbF T (i : Int) ≠ none→∃ w ∈ row.2,(∀ w' ∈ row.2,leO (ao (tbF T) w) (ao (tbF T) w'))∧ws[i]? = some (some w.1))∧(¬ (row.1 = 0∧tbF T (i : Int) ≠ none)→ws[i]? = r[i]?)
def RH (T : Tb) (W : Lf) (h : Int) : Int→Wy→Prop:=fun x w=>if h = 0 then leO (ao T w) (T x)∧T x ≠ none else w ∈ aV W x∧T x ≠ some 0
def GdP (T : Tb) (h x c : Int) : Prop:=if h = 0 then leO (T x) (some c) else ¬ leO (T x) (some c)
theorem kz {o : Option Int} {c : Int} (h : leO o (some c)) : ∃ v,o = some v∧v ≤ c:=by
  cases o with
  | none=>exact h.elim
  | some v=>exact ⟨v,rfl,h⟩
theorem li {ws : List Wy} (nd : (ws.map (·.1)).Nodup) {x y : Wy} (hx : x ∈ ws) (hy : y ∈ ws) (e : x.1 = y.1) : x = y:=by
  induction ws with
  | nil=>cases hx
  | cons z ws ih =>
    rw [List.map_cons,List.nodup_cons] at nd
    rcases List.mem_cons.mp hx with a | a <;> rcases List.mem_cons.mp hy with b | b
    · rw [a,b]
    · exact absurd (by rw [← a,e]; exact List.mem_map.mpr ⟨y,b,rfl⟩) nd.1
    · exact absurd (by rw [← b,← e]; exact List.mem_map.mpr ⟨x,a,rfl⟩) nd.1
    · exact ih nd.2 a b
section
variable {G : List ak} {T ws r : List (Option Int)}
theorem SolR.way (g : GPk G) (s : SolR G T ws r) {i : Nat} {row : ak} (hr : G[i]? = some row) (ht : tbF T (i : Int) ≠ none) : (row.1 = 0→∃ w ∈ row.2,ws[i]? = some (some w.1)∧leO (ao (tbF T) w) (tbF T (i : Int)))∧(row.1 = 1→∀ w ∈ row.2,leO (ao (tbF T) w) (tbF T (i : Int))):=by
  obtain ⟨tl,rl,N,bt,wl,h⟩:=s
  have il:=(List.getElem?_eq_some_iff.mp hr).1
  refine ⟨fun e=>?_,fun e w hw=>bt.last g N hr e hw⟩
  obtain ⟨w,hw,best,hws⟩:=(h i row hr).1 ⟨e,ht⟩
  refine ⟨w,hw,hws,?_⟩
  cases et : tbF T (i : Int) with
  | none=>exact absurd et ht
  | some v =>
    obtain ⟨w',hw',hle⟩:=N.way (i : Int) v (by omega) (by omega) et
    rw [bO rl hr (by rw [e]; decide)] at hw'
    exact (best w' hw').trans hle
theorem SolR.spend (g : GPk G) (s : SolR G T ws r) {i : Nat} {row : ak} (hr : G[i]? = some row) (e : row.1 = 1) : ∃ w ∈ row.2,ws[i]? = some (some w.1)∧r[i]? = some (some w.1):=by
  obtain ⟨w,hw,h⟩:=(s.2.1.2 i row hr).2 e
  exact ⟨w,hw,by rw [(s.2.2.2.2.2 i row hr).2 (by rw [e]; exact fun z=>absurd z.1 (by decide)),h],h⟩
theorem SolR.told (g : GPk G) (s : SolR G T ws r) {h c : Int} (h01 : h = 0 ∨ h = 1) {i : Nat} {row : ak} (hr : G[i]? = some row) (gd : GdP (tbF T) h (i : Int) c) (e : row.1 = h) : ∃ w ∈ row.2,ws[i]? = some (some w.1):=by
  rcases h01 with z | z
  · subst z
    obtain ⟨v,hv,_⟩:=kz (show leO (tbF T (i : Int)) (some c) from gd)
    obtain ⟨w,hw,h1,_⟩:=(s.way g hr (by rw [hv]; exact fun z=>by cases z)).1 e
    exact ⟨w,hw,h1⟩
  · subst z
    obtain ⟨w,hw,h1,_⟩:=s.spend g hr e
    exact ⟨w,hw,h1⟩
theorem SolR.step (g : GPk G) (hh : ∀ row ∈ G,row.1 = 0 ∨ row.1 = 1) (s : SolR G T ws r) {h c : Int} (h01 : h = 0 ∨ h = 1) {i : Nat} {row : ak} (hr : G[i]? = some row) (gd : GdP (tbF T) h (i : Int) c) (c0 : 0 ≤ c) {w : Wy} (hw : w ∈ row.2) (ho : row.1 = h→ws[i]? = some (some w.1)) : RH (tbF T) (av G r) h (i : Int) w∧GdP (tbF T) h w.1 (c + w.2):=by
  have nd:=(g row (List.mem_of_getElem? hr)).2.1
  have il:=(List.getElem?_eq_some_iff.mp hr).1
  have o:=hh row (List.mem_of_getElem? hr)
  rcases h01 with z | z
  · subst z
    obtain ⟨v,hv,vc⟩:=kz (show leO (tbF T (i : Int)) (some c) from gd)
    have tn : tbF T (i : Int) ≠ none:=by rw [hv]; exact fun z=>by cases z
    have le : leO (ao (tbF T) w) (tbF T (i : Int)):=by
      rcases o with o | o
      · obtain ⟨w',hw',h1,h2⟩:=(s.way g hr tn).1 o
        have:=ho o
        rw [h1] at this
        have e : w'.1 = w.1:=by injection this with this; injection this
        rw [← li nd hw' hw e]; exact h2
      · exact (s.way g hr tn).2 o w hw
    obtain ⟨v',e',hv'⟩:=dO le hv vc
    refine ⟨?_,?_⟩
    · unfold RH; rw [if_pos rfl]; exact ⟨le,tn⟩
    · unfold GdP; rw [if_pos rfl,e']; exact hv'
  · subst z
    have gd : ¬ leO (tbF T (i : Int)) (some c):=gd
    have tn : tbF T (i : Int) ≠ some 0:=fun z=>gd (by rw [z]; exact c0)
    have wo : w ∈ aV (av G r) (i : Int):=by
      rcases o with o | o
      · rw [bO s.2.1 hr (by rw [o]; decide)]; exact hw
      · obtain ⟨w',hw',h1,h2⟩:=s.spend g hr o
        have:=ho o
        rw [h1] at this
        have e : w'.1 = w.1:=by injection this with this; injection this
        rw [aP g hr hw' h2,li nd hw' hw e]; exact List.mem_singleton.mpr rfl
    refine ⟨?_,?_⟩
    · unfold RH; rw [if_neg (by decide)]; exact ⟨wo,tn⟩
    · unfold GdP; rw [if_neg (by decide)]
      exact kD (s.2.2.1.low (i : Int) (by omega) (by omega) w wo) c0 gd
theorem SolR.ring (s : SolR G T ws r) {h y : Int} (h01 : h = 0 ∨ h = 1) {l : List Wy} (hl : l ≠ []) (hw : WkR (RH (tbF T) (av G r) h) y l y) : sm l < 0 ↔ h = 1:=by
  rcases h01 with z | z
  · subst z
    have:=iP (T:=tbF T) (dN (fun x w h=>by unfold RH at h; rw [if_pos rfl] at h; exact h) hw)
    constructor
    · intro z; omega
    · intro z; cases z
  · subst z
    have:=jS s.2.2.1 hl (dN (fun x w h=>by unfold RH at h; rw [if_neg (by decide)] at h; exact h) hw)
    exact ⟨fun _=>rfl,fun _=>this⟩
theorem SolR.pos (s : SolR G T ws r) {x c : Int} (gd : GdP (tbF T) 0 x c) : 0 ≤ c:=by
  obtain ⟨v,hv,vc⟩:=kz (show leO (tbF T x) (some c) from gd)
  have:=s.2.2.1.pos x v hv
  omega
theorem SolR.high (g : GPk G) (hh : ∀ row ∈ G,row.1 = 0 ∨ row.1 = 1) (s : SolR G T ws r) {T' ws' r' : List (Option Int)} (s' : SolR G T' ws' r') {x : Int} (x0 : 0 ≤ x) (x1 : x < (G.length : Int)) : leO (tbF T' x) (tbF T x) :=
  dv (b9 g s'.2.1) s'.2.2.1 s.2.2.1.pos (fun x x0 x1 tn=>by
    obtain ⟨i,row,rfl,hr⟩:=kK x0 x1
    rcases hh row (List.mem_of_getElem? hr) with o | o
    · obtain ⟨w,hw,_,h2⟩:=(s.way g hr tn).1 o
      exact ⟨w,by rw [bO s'.2.1 hr (by rw [o]; decide)]; exact hw,h2⟩
    · obtain ⟨w,hw,_,h2⟩:=s'.spend g hr o
      exact ⟨w,by rw [aP g hr hw h2]; exact List.mem_singleton.mpr rfl,(s.way g hr tn).2 o w hw⟩) x0 x1
theorem kZ (g : GPk G) (hh : ∀ row ∈ G,row.1 = 0 ∨ row.1 = 1) (s : nq G T ws) {T' ws' : List (Option Int)} (s' : nq G T' ws') {x : Int} (x0 : 0 ≤ x) (x1 : x < (G.length : Int)) : tbF T x = tbF T' x:=by
  obtain ⟨r,s⟩:=s
  obtain ⟨r',s'⟩:=s'
  have s : SolR G T ws r:=s
  have s' : SolR G T' ws' r':=s'
  exact leO.anti (s'.high g hh s x0 x1) (s.high g hh s' x0 x1)
end
abbrev fk : List Str:=["hand","at","left","rule","owners","amounts"]
structure PlF (fl : List (Str × V)) (h p c : Int) (ra oa ma : Addr) (m : Nat) : Prop where
  hand : fl.lookup ("hand" : Str) = some (.int h)
  at_ : fl.lookup ("at" : Str) = some (.int p)
  left : fl.lookup ("left" : Str) = some (.int c)
  rule : fl.lookup ("rule" : Str) = some (.ref ra)
  own : fl.lookup ("owners" : Str) = some (.ref oa)
  amts : fl.lookup ("amounts" : Str) = some (.ref ma)
  go : fl.lookup ("go" : Str) = none
  oth : fl.lookup ("other" : Str) = none
  pas : fl.lookup ("pass_on" : Str) = none
  len : fl.length ≤ m
theorem PlF.putA {fl : List (Str × V)} {h p c : Int} {ra oa ma : Addr} {m : Nat} (f : PlF fl h p c ra oa ma m) (q : Int) : PlF (aI "at" (.int q) fl) h q c ra oa ma (m + 1):=by
  have no : ∀ (k : Str) (o : Option V),¬ k = "at"→fl.lookup k = o→(aI "at" (.int q) fl).lookup k = o:=fun k o h e=>by rw [aL,if_neg h]; exact e
  exact ⟨no _ _ (by decide +kernel) f.hand,by rw [aL,if_pos rfl],no _ _ (by decide +kernel) f.left,no _ _ (by decide +kernel) f.rule,no _ _ (by decide +kernel) f.own,no _ _ (by decide +kernel) f.amts,no _ _ (by decide +kernel) f.go,no _ _ (by decide +kernel) f.oth,no _ _ (by decide +kernel) f.pas,by have:=cn "at" (.int q) fl; have:=f.len; omega⟩
theorem PlF.putL {fl : List (Str × V)} {h p c : Int} {ra oa ma : Addr} {m : Nat} (f : PlF fl h p c ra oa ma m) (d : Int) : PlF (aI "left" (.int d) fl) h p d ra oa ma (m + 1):=by
  have no : ∀ (k : Str) (o : Option V),¬ k = "left"→fl.lookup k = o→(aI "left" (.int d) fl).lookup k = o:=fun k o h e=>by rw [aL,if_neg h]; exact e
  exact ⟨no _ _ (by decide +kernel) f.hand,no _ _ (by decide +kernel) f.at_,by rw [aL,if_pos rfl],no _ _ (by decide +kernel) f.rule,no _ _ (by decide +kernel) f.own,no _ _ (by decide +kernel) f.amts,no _ _ (by decide +kernel) f.go,no _ _ (by decide +kernel) f.oth,no _ _ (by decide +kernel) f.pas,by have:=cn "left" (.int d) fl; have:=f.len; omega⟩
theorem rX (h p c : Int) (ra oa ma : Addr) : PlF (aI "amounts" (.ref ma) (aI "owners" (.ref oa) (aI "rule" (.ref ra) (aI "left" (.int c) (aI "at" (.int p) (aI "hand" (.int h) [])))))) h p c ra oa ma 6:=by
  have l : ∀ k : Str,(aI "amounts" (.ref ma) (aI "owners" (.ref oa) (aI "rule" (.ref ra) (aI "left" (.int c) (aI "at" (.int p) (aI "hand" (.int h) [])))))).lookup k = if k = "amounts" then some (.ref ma) else if k = "owners" then some (.ref oa) else if k = "rule" then some (.ref ra) else if k = "left" then some (.int c) else if k = "at" then some (.int p) else if k = "hand" then some (.int h) else none:=fun k=>by
    rw [aL,aL,aL,aL,aL,aL]; rfl
  refine ⟨?_,?_,?_,?_,?_,?_,?_,?_,?_,Nat.le_refl 6⟩ <;> rw [l]
  · rw [if_neg (by decide +kernel),if_neg (by decide +kernel),if_neg (by decide +kernel),if_neg (by decide +kernel),if_neg (by decide +kernel),if_pos rfl]
  · rw [if_neg (by decide +kernel),if_neg (by decide +kernel),if_neg (by decide +kernel),if_neg (by decide +kernel),if_pos rfl]
  · rw [if_neg (by decide +kernel),if_neg (by decide +kernel),if_neg (by decide +kernel),if_pos rfl]
  · rw [if_neg (by decide +kernel),if_neg (by decide +kernel),if_pos rfl]
  · rw [if_neg (by decide +kernel),if_pos rfl]
  · rw [if_pos rfl]
  all_goals rw [if_neg (by decide +kernel),if_neg (by decide +kernel),if_neg (by decide +kernel),if_neg (by decide +kernel),if_neg (by decide +kernel),if_neg (by decide +kernel)]
structure PlD (B : Hp) (G : List ak) (ws : List (Option Int)) (ra oa ma : Addr) : Prop where
  rule : B ra = some (.lst (tV ws))
  own : B oa = some (.lst ((G.map (·.1)).map V.int))
  amts : ∃ us,B ma = some (.lst us)∧us.length = G.length∧∀ (i : Nat) row,G[i]? = some row→∃ d,us[i]? = some (.ref d)∧B d = some (.dK (dcW row.2))
theorem PlD.up {B B' : Hp} {G : List ak} {ws : List (Option Int)} {ra oa ma : Addr} (d : PlD B G ws ra oa ma) (s : Same B B') : PlD B' G ws ra oa ma:=by
  obtain ⟨h1,h2,us,h3,h4,h5⟩:=d
  exact ⟨s _ _ h1,s _ _ h2,us,s _ _ h3,h4,fun i row hr=>by
    obtain ⟨d,e1,e2⟩:=h5 i row hr
    exact ⟨d,e1,s _ _ e2⟩⟩
variable {R : Addr}
abbrev fl2 (fl : List (Str × V)) (c q : Int) : List (Str × V):=aI "at" (.int q) (aI "left" (.int c) fl)
def kE (R : Addr) : Sp:=fun vs H Q _=>∃ (x dx : Addr) (fl : List (Str × V)) (G : List ak) (ws : List (Option Int)) (h c : Int) (i : Nat) (row : ak) (w : Wy) (ra oa ma : Addr) (m : Nat),vs = [.ref x,.int w.1]∧H x = some (.ins R dx fl)∧PlF fl h (i : Int) c ra oa ma m∧m < 900∧PlD H G ws ra oa ma∧GPk G∧G[i]? = some row∧w ∈ row.2∧Q .non (upd H x (.ins R dx (fl2 fl (c + w.2) w.1)))
theorem pF (F : MeAt K R "pass_on" "PursePlay.pass_on" aR ["self","place"]) (T : Txt mg) (CL_PursePlay : ClsAt K mg "PursePlay" R fk) : DnM P w K mg base R "pass_on" 1 ["self","place"] (kE R):=by
  have sc:=dy
  refine F.ok sc (fun vs H Q E h=>?_) (fun f cdv A outer s H vs Q E hr h=>?_)
  · obtain ⟨_,_,_,_,_,_,_,_,_,_,_,_,_,_,rfl,_⟩:=h; rfl
  obtain ⟨x,dx,fl,G,ws,h,c,i,row,w,ra,oa,ma,m,rfl,hx,hF,hm,hD,g,hr0,hw,q⟩:=h
  have hl:=hF.len
  obtain ⟨us,hu,ul,hus⟩:=hD.amts
  obtain ⟨d,hd1,hd2⟩:=hus i row hr0
  have nd:=(g row (List.mem_of_getElem? hr0)).2.1
  have a1 : atI us (i : Int) = some (.ref d):=gO (by omega) hd1
  have hl1:=cn "left" (.int (c + w.2)) fl
  refine ⟨_,(ac (kr (K:=K) rfl (pv 0) (fT (iW hr 1) (ax (ixL (K:=K) rfl) (aK (K:=K) rfl (pv 0) rfl) (aK (K:=K) rfl (pv 0) rfl) (fun _ _=>rfl)) (pv 1) (fun _ _=>rfl)) rM)
      (ag (dh (K:=K) rfl (pv 0) (pv 1) rfl))),?_⟩
  refine ⟨_,rfl,x,R,dx,fl,_,rfl,hx,CL_PursePlay.cl,CL_PursePlay.na _ (by decide +kernel),hF.left,?_⟩
  refine ⟨_,rfl,x,R,_,_,_,rfl,hx,CL_PursePlay.cl,CL_PursePlay.na _ (by decide +kernel),hF.amts,_,rfl,x,R,_,_,_,rfl,hx,CL_PursePlay.cl,CL_PursePlay.na _ (by decide +kernel),hF.at_,ma,_,_,_,rfl,rfl,SqL.of hu,a1,?_⟩
  refine ⟨_,rfl,d,V.int w.2,rfl,by rw [← gB nd hw]; exact DGet.k (k:=Sum.inl w.1) hd2,?_⟩
  refine ⟨_,_,rfl,rfl,dx,fl,hx,by omega,?_⟩
  refine ⟨_,rfl,_,rfl,x,R,dx,_,rfl,ae,CL_PursePlay.cl,CL_PursePlay.na _ (by decide +kernel),(by show (aI "left" (.int (c + w.2)) fl).length < 1000; omega),?_⟩
  rw [dM]; exact q
def qZ (R : Addr) : Sp:=fun vs H Q _=>∃ (x dx : Addr) (fl : List (Str × V)) (G : List ak) (ws : List (Option Int)) (h c : Int) (i : Nat) (row : ak) (w : Wy) (ra oa ma : Addr) (m : Nat),vs = [.ref x]∧H x = some (.ins R dx fl)∧PlF fl h (i : Int) c ra oa ma m∧m < 900∧PlD H G ws ra oa ma∧GPk G∧G[i]? = some row∧w ∈ row.2∧0 ≤ c∧row.1 = h∧ws[i]? = some (some w.1)∧Q (.int w.1) (upd H x (.ins R dx (fl2 fl (c + w.2) w.1)))
theorem nR {G : List ak} {i : Nat} {row : ak} (hr : G[i]? = some row) : atI ((G.map (·.1)).map V.int) (i : Int) = some (.int row.1):=gO (by omega) (by rw [Int.toNat_natCast,List.getElem?_map,List.getElem?_map,hr]; rfl)
theorem rG (F : MeAt K R "go" "PursePlay.go" bv ["self"]) (T : Txt mg) (CL_PursePlay : ClsAt K mg "PursePlay" R fk) (D_check_due : Dn P w K mg base "check_due" 1 ["due"] kj) (D_PursePlay_pass_on : DnM P w K mg base R "pass_on" 1 ["self","place"] (kE R)) : DnM P w K mg base R "go" 2 ["self"] (qZ R):=by
  have sc:=fH
  refine F.ok sc (fun vs H Q E h=>?_) (fun f cdv A outer s H vs Q E hr h=>?_)
  · obtain ⟨_,_,_,_,_,_,_,_,_,_,_,_,_,_,rfl,_⟩:=h; rfl
  obtain ⟨x,dx,fl,G,ws,h,c,i,row,w,ra,oa,ma,m,rfl,hx,hF,hm,hD,g,hr0,hw,c0,ho,hws,q⟩:=h
  have a1 : atI (tV ws) (i : Int) = some (.int w.1):=gO (by omega) (by unfold tV; rw [Int.toNat_natCast,List.getElem?_map,hws]; rfl)
  refine ⟨_,(ac (aM (az D_check_due hr (aa (gK (bQ jO (aK (K:=K) rfl (pv 0) rfl) ab (aB _)) (eX (bQ cN (ax (ixL (K:=K) rfl) (aK (K:=K) rfl (pv 0) rfl) (aK (K:=K) rfl (pv 0) rfl) (fun _ _=>rfl)) (aK (K:=K) rfl (pv 0) rfl) (aB _)))) ad)))
      (ac (aM (kA CL_PursePlay.cl D_PursePlay_pass_on hr (pv 0) (aa (ax (ixL (K:=K) rfl) (aK (K:=K) rfl (pv 0) rfl) (aK (K:=K) rfl (pv 0) rfl) (fun _ _=>rfl)) ad)))
      (ag (aC (aK (K:=K) rfl (pv 0) rfl))))),?_⟩
  refine ⟨_,rfl,x,R,_,_,_,rfl,hx,CL_PursePlay.cl,CL_PursePlay.na _ (by decide +kernel),hF.left,_,_,rfl,rfl,_,rfl,?_⟩
  rw [decide_eq_true (show (0 : Int) ≤ c from c0)]
  refine cS ?_
  refine ⟨_,rfl,x,R,_,_,_,rfl,hx,CL_PursePlay.cl,CL_PursePlay.na _ (by decide +kernel),hF.own,_,rfl,x,R,_,_,_,rfl,hx,CL_PursePlay.cl,CL_PursePlay.na _ (by decide +kernel),hF.at_,oa,_,_,_,rfl,rfl,SqL.of hD.own,nR hr0,_,rfl,x,R,_,_,_,rfl,hx,CL_PursePlay.cl,CL_PursePlay.na _ (by decide +kernel),hF.hand,rfl,?_⟩
  refine ⟨by rw [decide_eq_true (by rw [ho])]; rfl,?_⟩
  refine ⟨_,rfl,x,dx,fl,rfl,hx,hF.pas,?_⟩
  refine ⟨_,rfl,x,R,_,_,_,rfl,hx,CL_PursePlay.cl,CL_PursePlay.na _ (by decide +kernel),hF.rule,_,rfl,x,R,_,_,_,rfl,hx,CL_PursePlay.cl,CL_PursePlay.na _ (by decide +kernel),hF.at_,ra,_,_,_,rfl,rfl,SqL.of hD.rule,a1,?_⟩
  refine ⟨x,dx,fl,G,ws,h,c,i,row,w,ra,oa,ma,m,rfl,hx,hF,hm,hD,g,hr0,hw,?_⟩
  exact ⟨_,rfl,x,R,_,_,_,rfl,ae,CL_PursePlay.cl,CL_PursePlay.na _ (by decide +kernel),((hF.putL (c + w.2)).putA w.1).at_,q⟩
def oG (R : Addr) : Sp:=fun vs H Q _=>∃ (x dx : Addr) (fl : List (Str × V)) (G : List ak) (ws : List (Option Int)) (h c : Int) (i : Nat) (row : ak) (w : Wy) (ra oa ma : Addr) (m : Nat),vs = [.ref x,.int w.1]∧H x = some (.ins R dx fl)∧PlF fl h (i : Int) c ra oa ma m∧m < 900∧PlD H G ws ra oa ma∧GPk G∧G[i]? = some row∧w ∈ row.2∧0 ≤ c∧row.1 ≠ h∧Q .non (upd H x (.ins R dx (fl2 fl (c + w.2) w.1)))
theorem pc (F : MeAt K R "other" "PursePlay.other" be ["self","place"]) (T : Txt mg) (CL_PursePlay : ClsAt K mg "PursePlay" R fk) (D_check_due : Dn P w K mg base "check_due" 1 ["due"] kj) (D_check_way : Dn P w K mg base "check_way" 2 ["place","outs"] qQ) (D_PursePlay_pass_on : DnM P w K mg base R "pass_on" 1 ["self","place"] (kE R)) : DnM P w K mg base R "other" 3 ["self","place"] (oG R):=by
  have sc:=d7
  refine F.ok sc (fun vs H Q E h=>?_) (fun f cdv A outer s H vs Q E hr h=>?_)
  · obtain ⟨_,_,_,_,_,_,_,_,_,_,_,_,_,_,rfl,_⟩:=h; rfl
  obtain ⟨x,dx,fl,G,ws,h,c,i,row,w,ra,oa,ma,m,rfl,hx,hF,hm,hD,g,hr0,hw,c0,ho,q⟩:=h
  obtain ⟨us,hu,ul,hus⟩:=hD.amts
  obtain ⟨d,hd1,hd2⟩:=hus i row hr0
  have nd:=(g row (List.mem_of_getElem? hr0)).2.1
  have a1 : atI us (i : Int) = some (.ref d):=gO (by omega) hd1
  refine ⟨_,(ac (aM (az D_check_due hr (aa (gK (bQ jO (aK (K:=K) rfl (pv 0) rfl) ab (aB _)) (eX (bQ gD (ax (ixL (K:=K) rfl) (aK (K:=K) rfl (pv 0) rfl) (aK (K:=K) rfl (pv 0) rfl) (fun _ _=>rfl)) (aK (K:=K) rfl (pv 0) rfl) (aB _)))) ad)))
      (ac (aM (az D_check_way hr (aa (pv 1) (aa (ax (ixL (K:=K) rfl) (aK (K:=K) rfl (pv 0) rfl) (aK (K:=K) rfl (pv 0) rfl) (fun _ _=>rfl)) ad))))
      (ag (aM (kA CL_PursePlay.cl D_PursePlay_pass_on hr (pv 0) (aa (pv 1) ad)))))),?_⟩
  refine ⟨_,rfl,x,R,_,_,_,rfl,hx,CL_PursePlay.cl,CL_PursePlay.na _ (by decide +kernel),hF.left,_,_,rfl,rfl,_,rfl,?_⟩
  rw [decide_eq_true (show (0 : Int) ≤ c from c0)]
  refine cS ?_
  refine ⟨_,rfl,x,R,_,_,_,rfl,hx,CL_PursePlay.cl,CL_PursePlay.na _ (by decide +kernel),hF.own,_,rfl,x,R,_,_,_,rfl,hx,CL_PursePlay.cl,CL_PursePlay.na _ (by decide +kernel),hF.at_,oa,_,_,_,rfl,rfl,SqL.of hD.own,nR hr0,_,rfl,x,R,_,_,_,rfl,hx,CL_PursePlay.cl,CL_PursePlay.na _ (by decide +kernel),hF.hand,rfl,?_⟩
  refine ⟨by rw [decide_eq_false (by intro z; cases z; exact ho rfl)]; rfl,?_⟩
  refine ⟨_,rfl,_,rfl,x,R,_,_,_,rfl,hx,CL_PursePlay.cl,CL_PursePlay.na _ (by decide +kernel),hF.amts,_,rfl,x,R,_,_,_,rfl,hx,CL_PursePlay.cl,CL_PursePlay.na _ (by decide +kernel),hF.at_,ma,_,_,_,rfl,rfl,SqL.of hu,a1,_,d,row.2,w,rfl,hd2,nd,hw,rfl,?_⟩
  refine ⟨_,rfl,x,dx,fl,rfl,hx,hF.pas,_,rfl,x,dx,fl,G,ws,h,c,i,row,w,ra,oa,ma,m,rfl,hx,hF,hm,hD,g,hr0,hw,q⟩
theorem ly {H : Hp} {x C dx : Addr} {fs : List (Str × V)} {p : Addr} {pos : Pos} {qual : Str} (t : TabOk H p pos qual) (h : H x = some (.ins C dx fs)) : TabOk (L2.del H x) p pos qual:=by
  obtain ⟨ps,h1,h2,h3⟩:=t
  refine ⟨ps,by rw [aU (fun z=>by rw [z,h] at h1; cases h1)]; exact h1,h2,?_⟩
  rcases h3 with z | ⟨c,o',vs,t,h4,h5,h6⟩
  · exact .inl z
  · exact .inr ⟨c,o',vs,t,h4,by rw [aU (fun z=>by rw [z,h] at h5; cases h5)]; exact h5,h6⟩
theorem Tbs.del {H : Hp} {x C dx : Addr} {fs : List (Str × V)} (t : Tbs K H) (h : H x = some (.ins C dx fs)) : Tbs K (L2.del H x):=⟨ly t.l h,ly t.m h,t.ne⟩
theorem sH {d : Bool} {a b : Int} {σ : St} {H : Hp} {Q : VK} (h : Q (.int (if d = true then a else b)) H) : if d = true then tC (.int a) σ H Q else tC (.int b) σ H Q:=by
  cases d
  · exact h
  · exact h
def lj (K : PySem.W.Frag) (R : Addr) : Sp:=fun vs H Q _=>∃ (x dx : Addr) (v : V) (G : List ak) (p c : Int) (H0 : Hp),vs = [.ref x,v,.int p,.int c]∧Same H0 H∧H0 x = none∧H x = some (.ins R dx [])∧rPu (nt H0) G v∧GPk G∧G.length ≤ 16∧(∀ row ∈ G,row.2.length ≤ 100)∧ChB G∧Tbs K H0∧0 ≤ p∧p < (G.length : Int) ∧
  ∀ (dx : Addr) (fl : List (Str × V)) (T ws : List (Option Int)) (ra oa ma : Addr) (h : Int) (H' : Hp),Sm H0 (L2.del H' x)→Tbs K (L2.del H' x)→PlD (L2.del H' x) G ws ra oa ma→H' x = some (.ins R dx fl)→PlF fl h p c ra oa ma 6→nq G T ws→(h = 0 ∨ h = 1)→GdP (tbF T) h p c→Q .non H'
theorem n6 (F : MkAt K R "PursePlay.__init__" aA ["self","game","start","purse"]) (T : Txt mg) (CL_PursePlay : ClsAt K mg "PursePlay" R fk) (D_check_start : Dn P w K mg base "check_start" 3 ["start","count"] lA) (D_solved_purses : Dn P w K mg base "solved_purses" 8 ["game"] (kR K)) (D_is_more : Dn P w K mg base "is_more" 2 ["need","other"] i7) : DnK P w K mg base R 9 ["self","game","start","purse"] (lj K R):=by
  have sc:=dk
  refine F.ok sc (fun vs H Q E h=>?_) (fun f cdv A outer s H vs Q E hr h=>?_)
  · obtain ⟨_,_,_,_,_,_,_,rfl,_⟩:=h; rfl
  obtain ⟨x,dx,v,G,p,c,H0,rfl,s0,hx0,hx,hG,g,few,few2,cb,tb0,p0,p1,q⟩:=h
  obtain ⟨g0,gv,rfl,hg0,hgl,hrow⟩:=cq hG
  have hG1 : rPu (nt H) G (.ref g0):=mono_pu.up (Sm.of s0) hG
  refine ⟨_,(ac (aM (az D_check_start hr (aa (pv 2) (aa (aF (cD (K:=K) rfl) rfl T.b_len PySem.boot_len (aa (pv 1) ad)) ad))))
      (ac (au (i:=4) sc.nd rfl (Or.inl rfl) (az D_solved_purses hr (aa (pv 1) ad)))
      (ac (dh (K:=K) rfl (pv 0) (cY (bV (az D_is_more hr (aa (ax (ixL (K:=K) rfl) (ax (ixT (K:=K) rfl) (pv 4) ab (fun _ _=>rfl)) (pv 2) (fun _ _=>rfl)) (aa (pv 3) ad)))) ab ab) rfl)
      (ac (dh (K:=K) rfl (pv 0) (pv 2) rfl)
      (ac (dh (K:=K) rfl (pv 0) (pv 3) rfl)
      (ac (dh (K:=K) rfl (pv 0) (ax (ixT (K:=K) rfl) (pv 4) ab (fun _ _=>rfl)) rfl)
      (ac (dh (K:=K) rfl (pv 0) (jL (af aA) ["self","game","start","purse","answer"] ["row"] 1 [] (cf (pv 1)) (fun _ _ _ _ _ _=>(eU (show List.Nodup (["row"] : List Str) by decide +kernel) rfl rfl)) (fun _ _ _ _ _ _=>dg) (fun _ _ _ _ _ _=>(ax (ixT (K:=K) rfl) (pv 0) ab (fun _ _=>rfl)))) rfl)
      (ag (dh (K:=K) rfl (pv 0) (jL (af aA) ["self","game","start","purse","answer"] ["row"] 1 [] (cf (pv 1)) (fun _ _ _ _ _ _=>(eU (show List.Nodup (["row"] : List Str) by decide +kernel) rfl rfl)) (fun _ _ _ _ _ _=>dg) (fun _ _ _ _ _ _=>(cZ (bK (K:=K) rfl rfl) rfl T.b_dict PyProof.Rows.boot_dict (aa (ax (ixT (K:=K) rfl) (pv 0) ab (fun _ _=>rfl)) ad)))) rfl))))))))),?_⟩
  refine ⟨_,rfl,_,rfl,g0,_,rfl,.inl (SqL.of (s0 _ _ (aj _ _ hg0))),p,_,rfl,p0,by rw [hgl]; exact p1,?_⟩
  refine ⟨_,rfl,.ref g0,G,rfl,hG1,g,few,few2,cb,tb0.up s0,fun t ta wa TT ws H1 S1 tb1 ht hta hwa sol=>?_⟩
  have hx1 : H1 x = some (.ins R dx []):=aj _ _ (S1 _ _ (fE hx fun _ z=>by cases z))
  have z1 : Sm H0 (L2.del H1 x):=fun b o e=>by
    have nb : b ≠ x:=fun z=>by rw [z,eF hx0] at e; cases e
    obtain ⟨e1,e2⟩:=j2 (S1 _ _ (Sm.of s0 _ _ e))
    exact fE (by rw [aU nb]; exact e1) e2
  have tb1':=tb1.del hx1
  have ntx : t ≠ x:=fun z=>by have:=aj _ _ ht; rw [z,hx1] at this; cases this
  have nwx : wa ≠ x:=fun z=>by have:=aj _ _ hwa; rw [z,hx1] at this; cases this
  have a0 : atI [V.ref ta,V.ref wa] 0 = some (.ref ta):=ar (j:=0) rfl
  have a1 : atI [V.ref ta,V.ref wa] 1 = some (.ref wa):=ar (j:=1) rfl
  have a2 : atI (tV TT) p = some (oV (tbF TT p)):=fA p0 (by obtain ⟨_,l,_⟩:=sol; omega)
  refine ⟨_,rfl,t,_,_,_,rfl,rfl,SqT.of (aj _ _ ht),a0,_,rfl,ta,_,_,_,rfl,rfl,SqL.of (aj _ _ hta),a2,_,rfl,tbF TT p,some c,rfl,fun r H2 s2 hr2=>?_⟩
  refine ⟨r,rfl,?_⟩
  refine sH ?_
  obtain ⟨hv,ehv,h01,gd⟩ : ∃ hv : Int,(if r = true then (1 : Int) else 0) = hv∧(hv = 0 ∨ hv = 1)∧GdP (tbF TT) hv p c:=by
    cases r with
    | false=>exact ⟨0,rfl,.inl rfl,Classical.byContradiction fun z=>absurd (hr2.mpr (fun y=>z y)) (by decide)⟩
    | true=>exact ⟨1,rfl,.inr rfl,fun y=>hr2.mp rfl y⟩
  rw [ehv]
  have hx2:=s2 _ _ hx1
  refine ⟨_,rfl,x,R,dx,[],rfl,hx2,CL_PursePlay.cl,CL_PursePlay.na _ (by decide +kernel),(by show 0 < 1000; decide),?_⟩
  refine ⟨_,rfl,_,rfl,x,R,dx,_,rfl,ae,CL_PursePlay.cl,CL_PursePlay.na _ (by decide +kernel),(by show 1 < 1000; decide),?_⟩
  rw [dM]
  refine ⟨_,rfl,_,rfl,x,R,dx,_,rfl,ae,CL_PursePlay.cl,CL_PursePlay.na _ (by decide +kernel),(by show 2 < 1000; decide),?_⟩
  rw [dM]
  have ht2 : upd H2 x (.ins R dx (aI "left" (.int c) (aI "at" (.int p) (aI "hand" (.int hv) [])))) t = some (.tup [.ref ta,.ref wa]):=by rw [aq ntx]; exact s2 _ _ (aj _ _ ht)
  refine ⟨_,rfl,t,_,_,_,rfl,rfl,SqT.of ht2,a1,_,rfl,x,R,dx,_,rfl,ae,CL_PursePlay.cl,CL_PursePlay.na _ (by decide +kernel),(by show 3 < 1000; decide),?_⟩
  rw [dM]
  have e3 : L2.del (upd H2 x (.ins R dx (aI "rule" (.ref wa) (aI "left" (.int c) (aI "at" (.int p) (aI "hand" (.int hv) [])))))) x = L2.del H2 x:=bY
  have hx3 : upd H2 x (.ins R dx (aI "rule" (.ref wa) (aI "left" (.int c) (aI "at" (.int p) (aI "hand" (.int hv) []))))) x = some (.ins R dx (aI "rule" (.ref wa) (aI "left" (.int c) (aI "at" (.int p) (aI "hand" (.int hv) []))))):=ae
  generalize upd H2 x (.ins R dx (aI "rule" (.ref wa) (aI "left" (.int c) (aI "at" (.int p) (aI "hand" (.int hv) []))))) = H3 at e3 hx3 ⊢
  have y3 : Same (L2.del H1 x) (L2.del H3 x):=by rw [e3]; exact bI s2 x
  have y3' : Same (L2.del H1 x) H3:=y3.trans (bG _ _)
  have w1 : ∀ {b : Addr} {o : HO},nt H0 b = some o→L2.del H1 x b = some o:=fun e=>aj _ _ (z1 _ _ e)
  have hw1 : L2.del H1 x wa = some (.lst (tV ws)):=by rw [aU nwx]; exact aj _ _ hwa
  refine ⟨_,rfl,g0,rfl,⟨_,SqL.of (y3' _ _ (w1 hg0))⟩,bL (K:=K) (a:=g0) (xs:=gv) (fun i ys Hx=>Hx = H3∧ys = ((G.take i).map fun r=>r.1).map V.int) ⟨rfl,rfl⟩ (di (m:=1000) (by omega)) (fun i ys Hx hi h=>?_) (fun i y ys Hx hi h=>?_) (fun ys Hx h oa hoa=>?_)⟩
  · obtain ⟨rfl,rfl⟩:=h
    exact ⟨SqL.of (y3' _ _ (w1 hg0)),by rw [List.length_map,List.length_map]; simp; omega⟩
  · obtain ⟨rfl,rfl⟩:=h
    have hil : i < G.length:=by have:=(List.getElem?_eq_some_iff.mp hi).1; omega
    obtain ⟨row,hrw⟩ : ∃ row,G[i]? = some row:=⟨G[i],by simp⟩
    obtain ⟨t5,w5,p1,p2,p3⟩:=hrow i row hrw
    rw [hi] at p1; cases p1
    refine eG ?_
    refine ⟨_,rfl,t5,_,_,_,rfl,rfl,SqT.of (y3' _ _ (w1 p2)),ar (j:=0) rfl,rfl,?_⟩
    rw [List.take_add_one,hrw]; simp
  obtain ⟨rfl,rfl⟩:=h
  rw [hgl,List.take_length]
  have nox : oa ≠ x:=fun z=>by rw [z,hx3] at hoa; cases hoa
  refine ⟨_,rfl,x,R,dx,_,rfl,(by rw [aq (Ne.symm nox)]; exact hx3),CL_PursePlay.cl,CL_PursePlay.na _ (by decide +kernel),(by show 4 < 1000; decide),?_⟩
  generalize hfl4 : aI "owners" (.ref oa) (aI "rule" (.ref wa) (aI "left" (.int c) (aI "at" (.int p) (aI "hand" (.int hv) [])))) = fl4
  have z4 : Same (L2.del Hx x) (L2.del (upd (upd Hx oa (.lst ((G.map fun r=>r.1).map V.int))) x (.ins R dx fl4)) x):=by rw [bY]; exact bI (ah hoa _) x
  have ho4 : L2.del (upd (upd Hx oa (.lst ((G.map fun r=>r.1).map V.int))) x (.ins R dx fl4)) x oa = some (.lst ((G.map fun r=>r.1).map V.int)):=by rw [bY,aU nox,ae]
  have hx4 : upd (upd Hx oa (.lst ((G.map fun r=>r.1).map V.int))) x (.ins R dx fl4) x = some (.ins R dx fl4):=ae
  generalize upd (upd Hx oa (.lst ((G.map fun r=>r.1).map V.int))) x (.ins R dx fl4) = H4 at z4 ho4 hx4 ⊢
  have y4:=y3.trans z4
  have y4' : Same (L2.del H1 x) H4:=y4.trans (bG _ _)
  refine ⟨_,rfl,g0,rfl,⟨_,SqL.of (y4' _ _ (w1 hg0))⟩,bL (K:=K) (a:=g0) (xs:=gv) (fun i ys Hy=>Same H4 Hy∧ys.length = i∧∀ (j : Nat) row,j < i→G[j]? = some row→∃ d,ys[j]? = some (.ref d)∧Hy d = some (.dK (dcW row.2))∧d ≠ x) ⟨Same.refl _,rfl,fun j _ z=>by omega⟩ (di (m:=1000) (by omega)) (fun i ys Hy hi h=>?_) (fun i y ys Hy hi h=>?_) (fun ys Hy h ma hma=>?_)⟩
  · exact ⟨SqL.of ((y4'.trans h.1) _ _ (w1 hg0)),by have:=h.2.1; omega⟩
  · obtain ⟨s5,yl,hys⟩:=h
    have hil : i < G.length:=by have:=(List.getElem?_eq_some_iff.mp hi).1; omega
    obtain ⟨row,hrw⟩ : ∃ row,G[i]? = some row:=⟨G[i],by simp⟩
    obtain ⟨t5,w5,p1,p2,p3⟩:=hrow i row hrw
    rw [hi] at p1; cases p1
    have s05:=y4'.trans s5
    obtain ⟨w5',us,e5,hu5,pr5⟩:=mono_ws.up s05 (mono_ws.up (fun _ _ e=>w1 e) p3)
    cases e5
    obtain ⟨ts,rfl,h6,h7⟩:=j1 pr5
    refine eG ?_
    refine ⟨_,rfl,t5,_,_,_,rfl,rfl,SqT.of (s05 _ _ (w1 p2)),ar (j:=1) rfl,w5,ts,rfl,SqL.of hu5,fun t ht=>SqT.of (h6 t ht),fun d hd=>?_⟩
    rw [h7,jn (g row (List.mem_of_getElem? hrw)).2.1]
    have ndx : d ≠ x:=fun z=>by rw [z,s5 _ _ hx4] at hd; cases hd
    refine ⟨s5.trans (ah hd _),by rw [List.length_append,yl]; rfl,fun j row' hj hrj=>?_⟩
    by_cases cj : j < i
    · obtain ⟨d',h1,h2,h3⟩:=hys j row' cj hrj
      exact ⟨d',by rw [List.getElem?_append_left (by omega)]; exact h1,ah hd _ _ _ h2,h3⟩
    · have ej : j = i:=by omega
      subst ej
      rw [hrw] at hrj; cases hrj
      exact ⟨d,by rw [← yl]; simp,ae,ndx⟩
  obtain ⟨s5,yl,hys⟩:=h
  have nux : ma ≠ x:=fun z=>by rw [z,s5 _ _ hx4] at hma; cases hma
  have hx5:=s5 _ _ hx4
  refine ⟨_,rfl,x,R,dx,_,rfl,(by rw [aq (Ne.symm nux)]; exact hx5),CL_PursePlay.cl,CL_PursePlay.na _ (by decide +kernel),(by rw [← hfl4]; show 5 < 1000; decide),?_⟩
  have zD : Same (L2.del Hy x) (L2.del (upd (upd Hy ma (.lst ys)) x (.ins R dx (aI "amounts" (.ref ma) fl4))) x):=by rw [bY]; exact bI (ah hma _) x
  have zE:=(bI s5 x).trans zD
  have yE:=y4.trans zE
  refine q dx _ TT ws wa oa ma hv _ (z1.trans (Sm.of yE)) (tb1'.up yE) ⟨yE _ _ hw1,zE _ _ ho4,ys,?_,by omega,fun i row hr=>?_⟩ ae ?_ sol h01 gd
  · rw [bY,aU nux,ae]
  · obtain ⟨d,h1,h2,h3⟩:=hys i row (by have:=(List.getElem?_eq_some_iff.mp hr).1; omega) hr
    exact ⟨d,h1,zD _ _ (by rw [aU h3]; exact h2)⟩
  · rw [← hfl4]; exact rX _ _ _ _ _ _
theorem lq {α : Type} {R : α→V→Prop} : ∀ {xs : List α} {vs : List V} (k : Nat),Paired R xs vs→Paired R (xs.take k) (vs.take k)
  | _,_,0,_=>.nil
  | _,_,_ + 1,.nil=>.nil
  | _,_,k + 1,.cons h t=>.cons h (lq k t)
def Clo (ps : List (Int × Int)) (y c : Int) (ps' : List (Int × Int)) (o : Option Int) : Prop:=(∃ (k : Nat) (b : Int),ps[k]? = some (y,b)∧ps' = ps.take (k + 1)∧o = some (c - b)) ∨ (o = none∧ps' = ps ++ [(y,c)])
def j0 : Sp:=fun vs H Q _=>∃ (pa : Addr) (y c : Int) (us : List V) (ps : List (Int × Int)),vs = [.ref pa,.int y,.int c]∧H pa = some (.lst us)∧Paired (rT2 cg cg (L2.del H pa)) ps us∧ps.length ≤ 500 ∧
  ∀ (H' : Hp) (us' : List V) (ps' : List (Int × Int)) (o : Option Int),Same (L2.del H pa) (L2.del H' pa)→H' pa = some (.lst us')→Paired (rT2 cg cg (L2.del H' pa)) ps' us'→Clo ps y c ps' o→Q (oV o) H'
theorem mt (F : DefAt K mg "_law_closed" bW ["_law_pile","_law_place","_law_purse"]) (T : Txt mg) : Dn P w K mg base "_law_closed" 1 ["_law_pile","_law_place","_law_purse"] j0:=by
  have sc:=gZ
  refine F.ok sc (fun vs H Q E h=>?_) (fun f cdv A outer s H vs Q E hr h=>?_)
  · obtain ⟨_,_,_,_,_,rfl,_⟩:=h; rfl
  obtain ⟨pa,y,c,us,ps,rfl,hpa,pr,few,q⟩:=h
  have ul : us.length = ps.length:=(dt pr).symm
  have hat : ∀ (i : Nat) (u : V),us[i]? = some u→∃ (t : Addr) (z b : Int),u = .ref t∧ps[i]? = some (z,b)∧H t = some (.tup [.int z,.int b]):=fun i u hu=>by
    have il:=(List.getElem?_eq_some_iff.mp hu).1
    obtain ⟨p,hp⟩ : ∃ p,ps[i]? = some p:=⟨ps[i]'(by omega),by simp⟩
    obtain ⟨u',hu',t,v1,v2,rfl,ht,rfl,rfl⟩:=L2.Paired.at pr hp
    rw [hu] at hu'; cases hu'
    exact ⟨t,p.1,p.2,rfl,hp,(bG _ _) _ _ ht⟩
  refine ⟨_,(ac (bu PassesOwn.never rfl (bB rfl T.b_range (aa (aF (cD (K:=K) rfl) rfl T.b_len PySem.boot_len (aa (pv 0) ad)) ad)) (aD (i:=3) sc.nd rfl (Or.inl rfl))
      (ag (aZ (aG cN (ax (ixT (K:=K) rfl) (ax (ixL (K:=K) rfl) (pv 0) (pv 3) (fun _ _=>rfl)) ab (fun _ _=>rfl)) (pv 1) (aB _))
      (ac (au (i:=4) sc.nd rfl (Or.inl rfl) (ax (ixT (K:=K) rfl) (ax (ixL (K:=K) rfl) (pv 0) (pv 3) (fun _ _=>rfl)) ab (fun _ _=>rfl)))
      (ac (jJ PassesOwn.never (aG qU (aF (cD (K:=K) rfl) rfl T.b_len PySem.boot_len (aa (pv 0) ad)) (ai aS (pv 3) ab) (aB _))
      (ag (aM (re PySem.F.plainAttrs_list PySem.F.slot_list_pop PySem.F.type_list_pop rO (pv 0)))))
      (ag (aC (ai d6 (pv 2) (pv 4))))))
      aE)))
      (ac (aM (dq PySem.F.plainAttrs_list PySem.F.slot_list_append PySem.F.type_list_append bg (pv 0) (aa (cH (aa (pv 1) (aa (pv 2) ad))) ad)))
      (ag (aC fb)))),?_⟩
  refine ⟨_,rfl,pa,_,rfl,.inl (SqL.of hpa),_,rfl,by omega,by omega,bP (lo:=0) (n:=us.length) (fun i σ Hy=>∃ (y3 y4 : Option V),σ = [some (.ref pa),some (.int y),some (.int c),y3,y4]∧Hy = H∧∀ (j : Nat) (b : Int),j < i→ps[j]? ≠ some (y,b))
    ⟨_,_,rfl,rfl,fun j _ z=>by omega⟩ (fun i σ Hy hi h=>?_) (fun σ Hy h=>?_)⟩
  · obtain ⟨y3,y4,rfl,rfl,no⟩:=h
    obtain ⟨u,hu⟩ : ∃ u,us[i]? = some u:=⟨us[i]'(by omega),by simp⟩
    obtain ⟨t,z,b,rfl,hp,ht⟩:=hat i u hu
    have a1 : atI us (0 + (i : Int)) = some (.ref t):=gO (by omega) (by rw [show (0 + (i : Int)).toNat = i by omega]; exact hu)
    refine ⟨_,rfl,_,rfl,pa,_,_,_,rfl,rfl,SqL.of hpa,a1,t,_,_,_,rfl,rfl,SqT.of ht,ar (j:=0) rfl,_,rfl,rfl,_,rfl,?_⟩
    refine cL (fun cc=>?_) (fun cc=>?_)
    · have ezy : z = y:=by have:=of_decide_eq_true cc; injection this
      subst ezy
      refine ⟨_,rfl,_,rfl,pa,_,_,_,rfl,rfl,SqL.of hpa,a1,t,_,_,_,rfl,rfl,SqT.of ht,ar (j:=1) rfl,?_⟩
      obtain ⟨W,hW⟩ : ∃ W : Nat→St→Hp→Prop,W = fun k σ' Hz=>i + 1 ≤ k∧k ≤ us.length∧σ' = [some (.ref pa),some (.int z),some (.int c),some (.int (0 + (i : Int))),some (.int b)]∧L2.del Hz pa = L2.del Hy pa∧Hz pa = some (.lst (us.take k)):=⟨_,rfl⟩
      refine ⟨W,⟨us.length,by rw [hW]; exact ⟨by omega,Nat.le_refl _,rfl,rfl,by rw [List.take_length]; exact hpa⟩⟩,fun k σ' Hz w=>?_⟩
      have w':=w
      rw [hW] at w'
      obtain ⟨k0,k1,rfl,ez,hpz⟩:=w'
      have hlk : (us.take k).length = k:=by rw [List.length_take]; omega
      refine ⟨_,rfl,pa,_,rfl,.inl (SqL.of hpz),_,rfl,_,_,rfl,rfl,_,_,rfl,rfl,_,rfl,?_⟩
      refine cL (fun c9=>?_) (fun c9=>?_)
      · have c':=of_decide_eq_true c9
        rw [hlk] at c'
        obtain ⟨v9,hv9⟩ : ∃ v9,(us.take k)[(us.take k).length - 1]? = some v9:=⟨_,List.getElem?_eq_getElem (by omega)⟩
        refine ⟨W (k - 1),fun σ2 H2 w2=>⟨k - 1,by omega,w2⟩,?_⟩
        refine ⟨_,rfl,.inl ⟨rfl,_,SqL.of hpz⟩,pa,_,v9,rfl,rfl,hpz,hv9,?_⟩
        show W (k - 1) _ _
        rw [hW]
        refine ⟨by omega,by omega,rfl,by rw [bY]; exact ez,?_⟩
        rw [ae,List.dropLast_eq_take,hlk,List.take_take]
        congr 4
        omega
      · have c' : ¬ ((0 + (i : Int)) + 1 < ((us.take k).length : Nat)):=fun z=>c9 (decide_eq_true z)
        rw [hlk] at c'
        have ek : k = i + 1:=by omega
        subst ek
        refine ⟨_,rfl,_,rfl,_,_,rfl,rfl,?_⟩
        refine q Hz _ (ps.take (i + 1)) (some (c - b)) (by rw [ez]; exact Same.refl _) hpz (by rw [ez]; exact lq _ pr) (.inl ⟨i,b,hp,rfl,rfl⟩)
    · refine ⟨_,_,rfl,rfl,fun j b' hj=>?_⟩
      by_cases cj : j < i
      · exact no j b' cj
      · have ej : j = i:=by omega
        subst ej
        rw [hp]
        intro e
        injection e with e
        injection e with e1 e2
        exact cc (decide_eq_true (by rw [e1]))
  · obtain ⟨y3,y4,rfl,rfl,no⟩:=h
    refine ⟨_,rfl,.inl ⟨rfl,_,SqL.of hpa⟩,_,rfl,_,rfl,(by show 2 ≤ sizeLine; decide),fun t ht=>?_⟩
    have ntp : t ≠ pa:=fun z=>by rw [z,hpa] at ht; cases ht
    have h1:=ah ht (.tup [V.int y,V.int c])
    refine ⟨pa,_,_,rfl,rfl,h1 _ _ hpa,(fg (m:=1000) (by omega)),?_⟩
    refine q _ (us ++ [.ref t]) (ps ++ [(y,c)]) none ?_ ae ?_ (.inr ⟨rfl,rfl⟩)
    · rw [bY]; exact bI h1 pa
    · rw [bY]
      refine Paired.app (bi (cw aQ aQ) (bI h1 pa) pr) (.cons ⟨t,_,_,rfl,by rw [aU ntp,ae],rfl,rfl⟩ .nil)
theorem nS {H : Hp} {x pa R dx : Addr} {fl : List (Str × V)} {o : HO} {ps : List (Int × Int)} {us : List V} (hx : H x = some (.ins R dx fl)) (pr : Paired (rT2 cg cg (L2.del H pa)) ps us) : Paired (rT2 cg cg (L2.del (upd H x o) pa)) ps us:=L2.Paired.imp' (fun p u h=>by
  obtain ⟨t,v1,v2,e,ht,h1,h2⟩:=h
  have h3:=(bG _ _) _ _ ht
  have ntp : t ≠ pa:=fun z=>by rw [z] at ht; unfold L2.del at ht; rw [if_pos rfl] at ht; cases ht
  refine ⟨t,v1,v2,e,?_,h1,h2⟩
  rw [aU ntp,aq (fun z=>by rw [z,hx] at h3; cases h3)]; exact h3) pr
theorem qg {α : Type} (l : List α) (a : α) {us : List V} {R : α→V→Prop} (pr : Paired R (l ++ [a]) us) : ∃ u,R a u∧atI us (-1) = some u:=by
  have hl:=dt pr
  rw [List.length_append] at hl; simp at hl
  obtain ⟨u,hu,hR⟩:=L2.Paired.at pr (i:=l.length) (x:=a) (by simp)
  refine ⟨u,hR,?_⟩
  have : us = us.take l.length ++ [u]:=by
    have:=List.take_append_drop l.length us
    rw [List.drop_eq_getElem_cons (by omega)] at this
    have e : us[l.length]'(by omega) = u:=by have:=(List.getElem?_eq_some_iff.mp hu).2; exact this
    rw [e,List.drop_eq_nil_of_le (by omega)] at this
    exact this.symm
  rw [this]; exact oR _ _
def oH (R : Addr) : Sp:=fun vs H Q _=>∃ (x dx : Addr) (v : V) (h p c : Int) (ca : Addr) (cs : List Int) (fl : List (Str × V)) (G : List ak) (T ws r : List (Option Int)) (ra oa ma : Addr),vs = [.ref x,v,.int h,.ref ca]∧H x = some (.ins R dx fl)∧PlF fl h p c ra oa ma 6∧rPu (L2.del H x) G v∧GPk G∧(∀ row ∈ G,row.1 = 0 ∨ row.1 = 1)∧(∀ row ∈ G,row.2.length ≤ 100)∧PlD (L2.del H x) G ws ra oa ma∧L2.del H x ca = some (.lst (cs.map V.int))∧cs.length ≤ 100∧SolR G T ws r∧(h = 0 ∨ h = 1)∧0 ≤ p∧p < (G.length : Int)∧GdP (tbF T) h p c ∧
  ∀ H',Same (L2.del H x) H'→Q (.bl true) H'
theorem qt (F : DefAt K mg "_law_gone" b7 ["_law_play","_law_game_here","_law_hand","_law_cells"]) (T : Txt mg) (CL_PursePlay : ClsAt K mg "PursePlay" R fk) (D_PursePlay_go : DnM P w K mg base R "go" 2 ["self"] (qZ R)) (D_PursePlay_other : DnM P w K mg base R "other" 3 ["self","place"] (oG R)) (D_law_closed : Dn P w K mg base "_law_closed" 1 ["_law_pile","_law_place","_law_purse"] j0) : Dn P w K mg base "_law_gone" 4 ["_law_play","_law_game_here","_law_hand","_law_cells"] (oH R):=by
  have sc:=jY
  refine F.ok sc (fun vs H Q E h=>?_) (fun f cdv A outer s H vs Q E hr h=>?_)
  · obtain ⟨_,_,_,_,_,_,_,_,_,_,_,_,_,_,_,_,rfl,_⟩:=h; rfl
  obtain ⟨x,dx,v,h,p,c,ca,cs,fl,G,TT,ws,r,ra,oa,ma,rfl,hx,hF,hG,g,hh,few2,hD,hca,hcl,sol,h01,p0,p1,gd,q⟩:=h
  obtain ⟨g0,gv,rfl,hg0,hgl,hrow⟩:=cq hG
  refine ⟨_,(ac (au (i:=4) sc.nd rfl (Or.inl rfl) (bU (aa (cH (aa (aK (K:=K) rfl (pv 0) rfl) (aa (aK (K:=K) rfl (pv 0) rfl) ad))) ad)))
      (ac (bu PassesOwn.never rfl (cf (pv 3)) (aD (i:=5) sc.nd rfl (Or.inl rfl))
      (ac (aZ (aG j9 (aK (K:=K) rfl (pv 0) rfl) ab (aB _))
      (ag (aC (bQ cN (pv 2) ab (aB _))))
      aE)
      (ac (au (i:=6) sc.nd rfl (Or.inl rfl) (aK (K:=K) rfl (pv 0) rfl))
      (ac (au (i:=7) sc.nd rfl (Or.inl rfl) (ax (ixT (K:=K) rfl) (ax (ixL (K:=K) rfl) (pv 1) (pv 6) (fun _ _=>rfl)) ab (fun _ _=>rfl)))
      (fO (aZ (aG cN (ax (ixT (K:=K) rfl) (ax (ixL (K:=K) rfl) (pv 1) (pv 6) (fun _ _=>rfl)) ab (fun _ _=>rfl)) (pv 2) (aB _))
      (ag (au (i:=8) sc.nd rfl (Or.inl rfl) (qC CL_PursePlay.cl D_PursePlay_go hr (pv 0))))
      (ac (au (i:=8) sc.nd rfl (Or.inl rfl) (ax (ixT (K:=K) rfl) (ax (ixL (K:=K) rfl) (pv 7) (ai aN (pv 5) (aF (cD (K:=K) rfl) rfl T.b_len PySem.boot_len (aa (pv 7) ad))) (fun _ _=>rfl)) ab (fun _ _=>rfl)))
      (ag (aM (kA CL_PursePlay.cl D_PursePlay_other hr (pv 0) (aa (pv 8) ad))))))
      (ac (aZ (PW.pt (eB (aG gD (aK (K:=K) rfl (pv 0) rfl) (pv 8) (aB _)) (dF (aG (oQ (K:=K) rfl) (pv 8) (jL (af b7) ["_law_play","_law_game_here","_law_hand","_law_cells","_law_pile","_law_cell","_law_at_here","_law_ways","_law_place","_law_ring"] ["_law_way"] 1 [] (cf (pv 7)) (fun _ _ _ _ _ _=>(eU (show List.Nodup (["_law_way"] : List Str) by decide +kernel) rfl rfl)) (fun _ _ _ _ _ _=>dg) (fun _ _ _ _ _ _=>(ax (ixT (K:=K) rfl) (pv 0) ab (fun _ _=>rfl)))) rfl))))
      (ag (aC dU))
      aE)
      (ac (au (i:=9) sc.nd rfl (Or.inl rfl) (az D_law_closed hr (aa (pv 4) (aa (pv 8) (aa (ai aS (ax (ixT (K:=K) rfl) (ax (ixL (K:=K) rfl) (pv 4) (qH oT ab) (fun _ _=>rfl)) ab (fun _ _=>rfl)) (fT (iW hr 1) (cZ (bK (K:=K) rfl rfl) rfl T.b_dict PyProof.Rows.boot_dict (aa (pv 7) ad)) (pv 8) (fun _ _=>rfl))) ad)))))
      (ag (aZ (PW.pt (e7 (b8 (eK (pv 9))) (dG (aG gD (bQ j9 (pv 9) ab (aB _)) (bQ cN (pv 2) ab (aB _)) (aB _)))))
      (ag (aC dU))
      aE)))))))))
      (ag (aC (sG (bQ cN (pv 2) ab (aB _)) (eX (bQ jO (aK (K:=K) rfl (pv 0) rfl) ab (aB _)))))))),?_⟩
  have bx : L2.del H x x = none:=by unfold L2.del; rw [if_pos rfl]
  have bs : Same (L2.del H x) H:=bG _ _
  generalize L2.del H x = B at hG hD hca hg0 hrow q bx bs
  refine ⟨_,rfl,x,R,_,_,_,rfl,hx,CL_PursePlay.cl,CL_PursePlay.na _ (by decide +kernel),hF.at_,_,rfl,x,R,_,_,_,rfl,hx,CL_PursePlay.cl,CL_PursePlay.na _ (by decide +kernel),hF.left,(by show 2 ≤ sizeLine; decide),fun t0 ht0=>⟨(by show 1 ≤ sizeLine; decide),fun pa hpa=>?_⟩⟩
  have s1:=ah ht0 (.tup [V.int p,V.int c])
  have s2:=s1.trans (ah hpa (.lst [V.ref t0]))
  have q1 : upd (upd H t0 (.tup [V.int p,V.int c])) pa (.lst [V.ref t0]) pa = some (.lst [V.ref t0]):=ae
  have bp : B pa = none:=(bs.trans s1).free hpa
  have ntp : t0 ≠ pa:=fun z=>by rw [← z,ae] at hpa; cases hpa
  have pr1 : Paired (rT2 cg cg (L2.del (upd (upd H t0 (.tup [V.int p,V.int c])) pa (.lst [V.ref t0])) pa)) [(p,c)] [V.ref t0]:=.cons ⟨t0,_,_,rfl,by rw [bY,aU ntp,ae],rfl,rfl⟩ .nil
  have nxp : x ≠ pa:=fun z=>by rw [← z,s1 _ _ hx] at hpa; cases hpa
  have hx1:=s2 _ _ hx
  generalize upd (upd H t0 (.tup [V.int p,V.int c])) pa (.lst [V.ref t0]) = H1 at s2 q1 pr1 hx1 ⊢
  have bs1:=bs.trans s2
  refine ⟨_,rfl,ca,rfl,⟨_,SqL.of (bs1 _ _ hca)⟩,gP (K:=K) (a:=ca) (xs:=cs.map V.int) (fun i σ Hy=>∃ (y5 y6 y7 y8 y9 : Option V) (fl' : List (Str × V)) (p c d : Int) (ps : List (Int × Int)) (us : List V),σ = [some (.ref x),some (.ref g0),some (.int h),some (.ref ca),some (.ref pa),y5,y6,y7,y8,y9]∧Same B Hy∧Hy x = some (.ins R dx fl')∧PlF fl' h p c ra oa ma (6 + 2 * i)∧0 ≤ p∧p < (G.length : Int)∧GdP (tbF TT) h p c∧Hy pa = some (.lst us)∧Paired (rT2 cg cg (L2.del Hy pa)) (ps ++ [(p,d)]) us∧PiI (RH (tbF TT) (av G r) h) (ps ++ [(p,d)])∧ps.length ≤ i)
    ⟨_,_,_,_,_,fl,p,c,c,[],_,rfl,bs1,hx1,hF,p0,p1,gd,q1,pr1,PiI.one _ _,Nat.le_refl _⟩ (fun i σ Hy hi h=>?_) (fun i cell σ Hy hi h=>?_) (fun σ Hy h=>?_)⟩
  · obtain ⟨_,_,_,_,_,_,_,_,_,_,_,_,sy,_⟩:=h
    exact SqL.of (sy _ _ hca)
  · obtain ⟨y5,y6,y7,y8,y9,fl',p,c,d,ps,us,rfl,sy,hxy,hFy,p0,p1,gd,hpy,pry,PI,pl⟩:=h
    obtain ⟨cz,hcz,rfl⟩:=ig hi
    have icl : i < 100:=by have:=(List.getElem?_eq_some_iff.mp hcz).1; omega
    refine ⟨_,rfl,x,R,_,_,_,rfl,hxy,CL_PursePlay.cl,CL_PursePlay.na _ (by decide +kernel),hFy.left,_,_,rfl,rfl,_,rfl,?_⟩
    refine cL (fun cc=>?_) (fun cc=>?_)
    · have c0:=of_decide_eq_true cc
      refine ⟨_,rfl,rfl,?_⟩
      have h1 : h = 1:=h01.resolve_left fun z=>by subst z; have:=sol.pos gd; omega
      rw [decide_eq_true (by rw [h1])]
      exact q _ sy
    have c0 : 0 ≤ c:=Int.not_lt.mp fun z=>cc (decide_eq_true z)
    obtain ⟨j,row,rfl,hrw⟩:=kK p0 p1
    obtain ⟨tw,wl,r1,r2,r3⟩:=hrow j row hrw
    have a1 : atI gv (j : Int) = some (.ref tw):=ar r1
    obtain ⟨wl',wus,ew,hwu,wul,hwat⟩:=cC r3
    cases ew
    have gr:=g row (List.mem_of_getElem? hrw)
    refine ⟨_,rfl,x,R,_,_,_,rfl,hxy,CL_PursePlay.cl,CL_PursePlay.na _ (by decide +kernel),hFy.at_,?_⟩
    refine ⟨_,rfl,_,rfl,g0,_,_,_,rfl,rfl,SqL.of (sy _ _ hg0),a1,tw,_,_,_,rfl,rfl,SqT.of (sy _ _ r2),ar (j:=1) rfl,?_⟩
    refine ⟨fun σ' H'=>∃ w ∈ row.2,σ' = [some (.ref x),some (.ref g0),some (.int h),some (.ref ca),some (.ref pa),some (.int cz),some (.int (j : Int)),some (.ref wl),some (.int w.1),y9]∧H' = upd Hy x (.ins R dx (fl2 fl' (c + w.2) w.1))∧(row.1 = h→ws[j]? = some (some w.1)),?_,?_⟩
    · refine ⟨_,rfl,_,rfl,g0,_,_,_,rfl,rfl,SqL.of (sy _ _ hg0),a1,tw,_,_,_,rfl,rfl,SqT.of (sy _ _ r2),ar (j:=0) rfl,_,rfl,rfl,_,rfl,?_⟩
      refine cL (fun c1=>?_) (fun c1=>?_)
      · have ho : row.1 = h:=by have:=of_decide_eq_true c1; injection this
        obtain ⟨w,hw,hws⟩:=sol.told g h01 hrw gd ho
        exact ⟨_,rfl,x,dx,fl',rfl,hxy,hFy.go,x,dx,fl',G,ws,h,c,j,row,w,ra,oa,ma,_,rfl,hxy,hFy,by omega,hD.up sy,g,hrw,hw,c0,ho,hws,w,hw,rfl,rfl,fun _=>hws⟩
      · have ho : row.1 ≠ h:=fun z=>c1 (decide_eq_true (by rw [z]))
        have hl0 : 0 < row.2.length:=List.length_pos_iff.mpr gr.1
        have i0:=Int.emod_nonneg cz (show ((wus.length : Nat) : Int) ≠ 0 by omega)
        have i1:=Int.emod_lt_of_pos cz (show 0 < ((wus.length : Nat) : Int) by omega)
        obtain ⟨w,hw⟩ : ∃ w,row.2[(cz % ((wus.length : Nat) : Int)).toNat]? = some w:=⟨row.2[(cz % ((wus.length : Nat) : Int)).toNat]'(by omega),by simp⟩
        obtain ⟨tq,k1,k2⟩:=hwat _ w hw
        have hwm:=List.mem_of_getElem? hw
        refine ⟨_,rfl,_,rfl,_,rfl,wl,_,rfl,.inl (SqL.of (sy _ _ hwu)),_,_,rfl,rfl,(by omega),wl,_,_,_,rfl,rfl,SqL.of (sy _ _ hwu),gO i0 k1,tq,_,_,_,rfl,rfl,SqT.of (sy _ _ k2),ar (j:=0) rfl,?_⟩
        exact ⟨_,rfl,x,dx,fl',rfl,hxy,hFy.oth,_,rfl,x,dx,fl',G,ws,h,c,j,row,w,ra,oa,ma,_,rfl,hxy,hFy,by omega,hD.up sy,g,hrw,hwm,c0,ho,w,hwm,rfl,rfl,fun z=>absurd z ho⟩
    rintro σ' H2 ⟨w,hw,rfl,rfl,ho⟩
    obtain ⟨rh,gd2⟩:=sol.step g hh h01 hrw gd c0 hw ho
    have hF2:=(hFy.putL (c + w.2)).putA w.1
    have sy2 : Same B (upd Hy x (.ins R dx (fl2 fl' (c + w.2) w.1))):=sy.put bx _
    have hx2 : upd Hy x (.ins R dx (fl2 fl' (c + w.2) w.1)) x = some (.ins R dx (fl2 fl' (c + w.2) w.1)):=ae
    have hp2 : upd Hy x (.ins R dx (fl2 fl' (c + w.2) w.1)) pa = some (.lst us):=by rw [aq (Ne.symm nxp)]; exact hpy
    have pr2:=nS (o:=.ins R dx (fl2 fl' (c + w.2) w.1)) hxy pry
    generalize upd Hy x (.ins R dx (fl2 fl' (c + w.2) w.1)) = H2 at sy2 hx2 hp2 pr2 ⊢
    have g9:=gr.2.2 w hw
    have f9:=few2 row (List.mem_of_getElem? hrw)
    refine ⟨_,rfl,x,R,_,_,_,rfl,hx2,CL_PursePlay.cl,CL_PursePlay.na _ (by decide +kernel),hF2.at_,_,rfl,rfl,?_⟩
    rw [decide_eq_true rfl]
    refine ⟨false,rfl,?_⟩
    refine bj ?_
    refine ⟨_,rfl,_,rfl,wl,rfl,⟨_,SqL.of (sy2 _ _ hwu)⟩,bL (K:=K) (a:=wl) (xs:=wus) (fun k ys H3=>H3 = H2∧ys = ((row.2.take k).map (·.1)).map V.int) ⟨rfl,rfl⟩ (di (m:=1000) (by omega)) (fun k ys H3 hk h=>?_) (fun k y ys H3 hk h=>?_) (fun ys H3 h la hla=>?_)⟩
    · obtain ⟨rfl,rfl⟩:=h
      exact ⟨SqL.of (sy2 _ _ hwu),by rw [List.length_map,List.length_map]; simp; omega⟩
    · obtain ⟨rfl,rfl⟩:=h
      have kl : k < row.2.length:=by have:=(List.getElem?_eq_some_iff.mp hk).1; omega
      obtain ⟨w',hw'⟩ : ∃ w',row.2[k]? = some w':=⟨row.2[k],by simp⟩
      obtain ⟨tq,k1,k2⟩:=hwat k w' hw'
      rw [hk] at k1; cases k1
      refine eG ?_
      refine ⟨_,rfl,tq,_,_,_,rfl,rfl,SqT.of (sy2 _ _ k2),ar (j:=0) rfl,rfl,?_⟩
      rw [List.take_add_one,hw']; simp
    obtain ⟨rfl,rfl⟩:=h
    rw [wul,List.take_length]
    refine ⟨la,_,rfl,.inl (SqL.of ae),rfl,iJ _,?_⟩
    rw [jD,decide_eq_true (show w.1 ∈ row.2.map (·.1) from List.mem_map.mpr ⟨w,hw,rfl⟩)]
    refine ⟨false,rfl,?_⟩
    refine bj ?_
    have s3:=ah hla (.lst ((row.2.map (·.1)).map V.int))
    generalize upd H3 la (.lst ((row.2.map (·.1)).map V.int)) = H4 at s3 ⊢
    have sy4:=sy2.trans s3
    have pr4:=bi (cw aQ aQ) (bI s3 pa) pr2
    have hp4:=s3 _ _ hp2
    have hx4:=s3 _ _ hx2
    obtain ⟨u,⟨tl,v1,v2,rfl,htl,rfl,rfl⟩,hu⟩:=qg ps ((j : Int),d) pr4
    have htl:=(bG _ _) _ _ htl
    obtain ⟨wl2,wus2,e5,hu5,pr5⟩:=mono_ws.up sy4 r3
    cases e5
    obtain ⟨ts,rfl,h6,h7⟩:=j1 pr5
    refine ⟨_,rfl,_,rfl,_,rfl,_,rfl,pa,_,_,_,rfl,rfl,SqL.of hp4,hu,tl,_,_,_,rfl,rfl,SqT.of htl,ar (j:=1) rfl,_,rfl,wl,ts,rfl,SqL.of hu5,fun t ht=>SqT.of (h6 t ht),fun da hda=>?_⟩
    rw [h7,jn gr.2.1]
    have s5:=ah hda (.dK (dcW row.2))
    refine ⟨_,rfl,da,V.int w.2,rfl,by rw [← gB gr.2.1 hw]; exact DGet.k (k:=Sum.inl w.1) ae,_,_,rfl,rfl,?_⟩
    have hp5:=s5 _ _ hp4
    have hx5:=s5 _ _ hx4
    have pr5:=bi (cw aQ aQ) (bI s5 pa) pr4
    have sy5:=sy4.trans s5
    generalize upd H4 da (.dK (dcW row.2)) = H5 at hp5 hx5 pr5 sy5 ⊢
    refine ⟨pa,w.1,d + w.2,us,ps ++ [((j : Int),d)],rfl,hp5,pr5,by rw [List.length_append]; simp; omega,fun H6 us' ps' o s6 hp6 pr6 clo=>?_⟩
    have hx6 : H6 x = some (.ins R dx (fl2 fl' (c + w.2) w.1)):=(bG _ pa) _ _ (s6 _ _ (by rw [aU nxp]; exact hx5))
    have sy6 : Same B H6:=fun b o e=>(bG _ pa) _ _ (s6 _ _ (by rw [aU (ay e bp)]; exact sy5 _ _ e))
    rcases clo with ⟨k,b,hk,rfl,rfl⟩ | ⟨rfl,rfl⟩
    · obtain ⟨l,hl0,hl1,hl2⟩:=PI.ring rh hk
      have rg:=sol.ring h01 hl0 hl1
      have kl:=(List.getElem?_eq_some_iff.mp hk).1
      rw [List.length_append] at kl; simp at kl
      refine ⟨_,rfl,?_⟩
      refine ⟨true,rfl,?_⟩
      refine cS ?_
      refine ⟨_,rfl,_,_,rfl,rfl,_,rfl,rfl,rfl,?_⟩
      have e9 : decide (V.bl (decide (d + w.2 - b < 0)) = V.bl (decide (V.int h = V.int 1))) = true:=by
        refine decide_eq_true (congrArg V.bl ?_)
        rw [hl2] at rg
        by_cases z : h = 1
        · rw [decide_eq_true (rg.mpr z),decide_eq_true (by rw [z])]
        · rw [decide_eq_false (fun y=>z (rg.mp y)),decide_eq_false (fun y=>z (by injection y))]
      refine ⟨_,rfl,?_⟩
      rw [e9]
      refine bj ?_
      have etk : (ps ++ [((j : Int),d)]).take (k + 1) = (ps ++ [((j : Int),d)]).take k ++ [(w.1,b)]:=by rw [List.take_add_one,hk]; rfl
      refine ⟨_,_,_,_,_,_,w.1,c + w.2,b,(ps ++ [((j : Int),d)]).take k,us',rfl,sy6,hx6,?_,g9.1,g9.2,gd2,hp6,by rw [← etk]; exact pr6,by rw [← etk]; exact PI.cut _,by rw [List.length_take]; omega⟩
      rw [show 6 + 2 * (i + 1) = 6 + 2 * i + 1 + 1 by omega]; exact hF2
    · refine ⟨_,rfl,?_⟩
      refine ⟨false,rfl,?_⟩
      refine bj ?_
      refine ⟨_,_,_,_,_,_,w.1,c + w.2,d + w.2,ps ++ [((j : Int),d)],us',rfl,sy6,hx6,?_,g9.1,g9.2,gd2,hp6,pr6,PI.push rh,by rw [List.length_append]; simp; omega⟩
      rw [show 6 + 2 * (i + 1) = 6 + 2 * i + 1 + 1 by omega]; exact hF2
  · obtain ⟨y5,y6,y7,y8,y9,fl',p,c,d,ps,us,rfl,sy,hxy,hFy,p0,p1,gd,hpy,pry,PI,pl⟩:=h
    refine ⟨_,rfl,rfl,_,rfl,?_⟩
    refine cL (fun c1=>q _ sy) (fun c1=>?_)
    have h0 : h = 0:=h01.resolve_right fun z=>c1 (decide_eq_true (by rw [z]))
    subst h0
    refine ⟨_,rfl,x,R,_,_,_,rfl,hxy,CL_PursePlay.cl,CL_PursePlay.na _ (by decide +kernel),hFy.left,_,_,rfl,rfl,?_⟩
    show Q (.bl (decide ((0 : Int) ≤ c))) Hy
    rw [decide_eq_true (show (0 : Int) ≤ c from sol.pos gd)]
    exact q _ sy
def sY (K : PySem.W.Frag) : Sp:=fun vs H Q _=>∃ (v : V) (p more : Int) (ca : Addr) (cs : List Int) (G : List ak) (T ws : List (Option Int)),vs = [v,.int p,oV (tbF T p),.int more,.ref ca]∧rPu (nt H) G v∧GPk G∧(∀ row ∈ G,row.1 = 0 ∨ row.1 = 1)∧G.length ≤ 16∧(∀ row ∈ G,row.2.length ≤ 100)∧ChB G∧Tbs K H∧0 ≤ p∧p < (G.length : Int)∧0 ≤ more∧nq G T ws∧nt H ca = some (.lst (cs.map V.int))∧cs.length ≤ 100 ∧
  ∀ H',Sm H H'→Tbs K H'→Q (.bl true) H'
theorem tm (F : DefAt K mg "_law_at" dD ["_law_game_here","_law_start","_law_least","_law_more","_law_cells"]) (T : Txt mg) (CL_PursePlay : ClsAt K mg "PursePlay" R fk) (D_PursePlay___init__ : DnK P w K mg base R 9 ["self","game","start","purse"] (lj K R)) (D_law_gone : Dn P w K mg base "_law_gone" 4 ["_law_play","_law_game_here","_law_hand","_law_cells"] (oH R)) : Dn P w K mg base "_law_at" 11 ["_law_game_here","_law_start","_law_least","_law_more","_law_cells"] (sY K):=by
  have sc:=my
  refine F.ok sc (fun vs H Q E h=>?_) (fun f cdv A outer s H vs Q E hr h=>?_)
  · obtain ⟨_,_,_,_,_,_,_,_,rfl,_⟩:=h; rfl
  obtain ⟨v,p,more,ca,cs,G,TT,ws,rfl,hG,g,hh,few,few2,cb,tb,p0,p1,m0,sol,hca,hcl,q⟩:=h
  refine ⟨_,(ac (au (i:=5) sc.nd rfl (Or.inl rfl) (pv 3))
      (fO (aZ (b8 (eK (pv 2)))
      (ac (au (i:=6) sc.nd rfl (Or.inl rfl) (oW CL_PursePlay D_PursePlay___init__ hr (aa (pv 0) (aa (pv 1) (aa (ai aS (pv 2) (ai aW (ai aN (pv 3) ab) (pv 3))) ad)))))
      (ac (aZ (PW.pt (eB (aG gD (aK (K:=K) rfl (pv 6) rfl) ab (aB _)) (dF (c8 (bV (az D_law_gone hr (aa (pv 6) (aa (pv 0) (aa ab (aa (pv 4) ad))))))))))
      (ag (aC dU))
      aE)
      (ac (aZ (aG cN (pv 2) ab (aB _))
      (ag (aC dU))
      aE)
      (ag (au (i:=5) sc.nd rfl (Or.inl rfl) (ai d6 (pv 2) ab))))))
      aE)
      (ac (au (i:=7) sc.nd rfl (Or.inl rfl) (oW CL_PursePlay D_PursePlay___init__ hr (aa (pv 0) (aa (pv 1) (aa (pv 5) ad)))))
      (ag (aC (gK (bQ cN (aK (K:=K) rfl (pv 7) rfl) ab (aB _)) (eX (az D_law_gone hr (aa (pv 7) (aa (pv 0) (aa ab (aa (pv 4) ad)))))))))))),?_⟩
  refine ⟨_,rfl,?_⟩
  refine ⟨fun σ' H'=>∃ (c : Int) (y6 : Option V),σ' = [some v,some (.int p),some (oV (tbF TT p)),some (.int more),some (.ref ca),some (.int c),y6,none]∧Sm H H'∧Tbs K H'∧¬ leO (tbF TT p) (some c),?_,?_⟩
  · cases et : tbF TT p with
    | none =>
      refine ⟨_,rfl,?_⟩
      refine ⟨false,rfl,?_⟩
      refine bj ?_
      exact ⟨more,_,rfl,Sm.refl _,tb,fun z=>z⟩
    | some v0 =>
      have v00 : 0 ≤ v0:=by obtain ⟨r,sr⟩:=sol; exact sr.2.2.1.pos p v0 et
      refine ⟨_,rfl,?_⟩
      refine ⟨true,rfl,?_⟩
      refine cS ?_
      have e0:=Int.emod_nonneg more (show (2 : Int) ≠ 0 by decide)
      have e1:=Int.emod_lt_of_pos more (show (0 : Int) < 2 by decide)
      refine ⟨_,rfl,_,rfl,_,rfl,_,rfl,_,_,rfl,rfl,(show (0 : Int) < 2 by decide),_,rfl,_,_,rfl,rfl,.inl ⟨by omega,by omega⟩,_,_,rfl,rfl,?_⟩
      intro x dx hx hdx ndx
      have z0 : Same H (upd (upd H dx (.own x)) x (.ins R dx [])):=fun b o e=>by
        rw [aq (ay e hx),aq (ay e hdx)]; exact e
      refine ⟨x,dx,v,G,p,v0 + more % 2 * more,H,rfl,z0,hx,ae,hG,g,few,few2,cb,tb,p0,p1,fun dx' fl T' ws' ra oa ma h H2 S2 tb2 hD hx2 hF sol' h01 gd=>⟨rfl,?_⟩⟩
      have hm : 0 ≤ more % 2 * more:=Int.mul_nonneg e0 m0
      have h0 : h = 0:=h01.resolve_right fun z=>by
        subst z
        have gd : ¬ leO (tbF T' p) (some (v0 + more % 2 * more)):=gd
        rw [← kZ g hh sol sol' p0 p1,et] at gd
        exact gd (show v0 ≤ v0 + more % 2 * more by omega)
      subst h0
      obtain ⟨r',sr'⟩:=sol'
      refine ⟨_,rfl,x,R,_,_,_,rfl,hx2,CL_PursePlay.cl,CL_PursePlay.na _ (by decide +kernel),hF.hand,rfl,?_⟩
      rw [decide_eq_true rfl]
      refine ⟨false,rfl,?_⟩
      refine bj ?_
      refine ⟨_,rfl,_,rfl,_,rfl,x,dx',v,0,p,_,ca,cs,fl,G,T',ws',r',ra,oa,ma,rfl,hx2,hF,mono_pu.up aj (mono_pu.up S2 hG),g,hh,few2,hD,aj _ _ (S2 _ _ hca),hcl,sr',.inl rfl,p0,p1,gd,fun H3 s3=>?_⟩
      refine ⟨true,rfl,?_⟩
      refine bj ?_
      have S3:=S2.trans (Sm.of s3)
      have tb3:=tb2.up s3
      refine ⟨_,rfl,rfl,_,rfl,?_⟩
      refine cL (fun c1=>q _ S3 tb3) (fun c1=>?_)
      refine ⟨_,rfl,_,_,rfl,rfl,v0 - 1,_,rfl,S3,tb3,?_⟩
      intro z
      have z : v0 ≤ v0 - 1:=z
      omega
  rintro σ' H1 ⟨c,y6,rfl,S1,tb1,hn⟩
  refine ⟨_,rfl,_,rfl,_,rfl,?_⟩
  intro x dx hx hdx ndx
  have z0 : Same H1 (upd (upd H1 dx (.own x)) x (.ins R dx [])):=fun b o e=>by
    rw [aq (ay e hx),aq (ay e hdx)]; exact e
  refine ⟨x,dx,v,G,p,c,H1,rfl,z0,hx,ae,mono_pu.up S1 hG,g,few,few2,cb,tb1,p0,p1,fun dx' fl T' ws' ra oa ma h H2 S2 tb2 hD hx2 hF sol' h01 gd=>⟨rfl,?_⟩⟩
  have h1 : h = 1:=h01.resolve_left fun z=>by
    subst z
    have gd : leO (tbF T' p) (some c):=gd
    rw [← kZ g hh sol sol' p0 p1] at gd
    exact hn gd
  subst h1
  obtain ⟨r',sr'⟩:=sol'
  have S2:=S1.trans S2
  refine ⟨_,rfl,x,R,_,_,_,rfl,hx2,CL_PursePlay.cl,CL_PursePlay.na _ (by decide +kernel),hF.hand,rfl,_,rfl,?_⟩
  rw [decide_eq_true rfl]
  refine cS ?_
  refine ⟨_,rfl,_,rfl,_,rfl,x,dx',v,1,p,_,ca,cs,fl,G,T',ws',r',ra,oa,ma,rfl,hx2,hF,mono_pu.up aj (mono_pu.up S2 hG),g,hh,few2,hD,aj _ _ (S2 _ _ hca),hcl,sr',.inr rfl,p0,p1,gd,fun H3 s3=>?_⟩
  exact q _ (S2.trans (Sm.of s3)) (tb2.up s3)
def i9 (K : PySem.W.Frag) : Sp:=fun vs H Q _=>∃ (a : Addr) (ns : List Int) (k : Int),vs = [.ref a,.int k]∧SqL K H a (ns.map V.int)∧0 ≤ k∧∀ m : Int,Q (.int m) H
theorem qD (F : DefAt K mg "_law_cell_at" bH ["_law_script","_law_k"]) (T : Txt mg) : Dn P w K mg base "_law_cell_at" 1 ["_law_script","_law_k"] (i9 K):=by
  have sc:=gh
  refine F.ok sc (fun vs H Q E h=>?_) (fun f cdv A outer s H vs Q E hr h=>?_)
  · obtain ⟨a,ns,k,rfl,_⟩:=h; rfl
  obtain ⟨a,ns,k,rfl,hS,h0,q⟩:=h
  have hl : (ns.map V.int).length = ns.length:=List.length_map _
  refine ⟨_,(ac (aZ (aG j9 (pv 1) (aF (cD (K:=K) rfl) rfl T.b_len PySem.boot_len (aa (pv 0) ad)) (aB _))
      (ag (aC (ax (ixL (K:=K) rfl) (pv 0) (pv 1) (fun _ _=>rfl))))
      aE)
      (ag (aC ab))),?_⟩
  refine ⟨_,rfl,_,rfl,a,_,rfl,.inl hS,_,_,rfl,rfl,_,rfl,?_⟩
  refine cL (fun c=>?_) (fun c=>?_)
  · have c':=of_decide_eq_true c
    rw [hl] at c'
    obtain ⟨m,hm⟩ : ∃ m,ns[k.toNat]? = some m:=⟨ns[k.toNat]'(by omega),by simp⟩
    exact ⟨_,rfl,_,rfl,a,_,_,_,rfl,rfl,hS,gO h0 (by rw [List.getElem?_map,hm]; rfl),q m⟩
  · exact q 0
def jy (K : PySem.W.Frag) : Sp:=fun vs H Q _=>∃ (a : Addr) (ns : List Int) (k : Int),vs = [.ref a,.int k]∧SqL K H a (ns.map V.int)∧0 ≤ k∧k ≤ 100∧∀ (m : Int) (H' : Hp),Same H H'→Q (.int m) H'
theorem mB (F : DefAt K mg "_law_height" bT ["_law_script","_law_k"]) (T : Txt mg) (D_law_cell_at : Dn P w K mg base "_law_cell_at" 1 ["_law_script","_law_k"] (i9 K)) : Dn P w K mg base "_law_height" 2 ["_law_script","_law_k"] (jy K):=by
  have sc:=hJ
  refine F.ok sc (fun vs H Q E h=>?_) (fun f cdv A outer s H vs Q E hr h=>?_)
  · obtain ⟨a,ns,k,rfl,_⟩:=h; rfl
  obtain ⟨a,ns,k,rfl,hS,h0,h1,q⟩:=h
  refine ⟨_,(ac (au (i:=2) sc.nd rfl (Or.inl rfl) (ai aN (ai aW (az D_law_cell_at hr (aa (pv 0) (aa ab ad))) ab) ab))
      (ag (aC (ai aN (ai d9 (ai aN (ai aW (ai aW (ai aS (pv 1) ab) (ai aS (pv 2) ab)) ab) ab) ab) (ax (ixL (K:=K) rfl) (bU (aa ab (aa ab (aa (ai d9 ab ab) ad)))) (ai aN (pv 2) ab) (fun _ _=>rfl)))))),?_⟩
  refine ⟨_,rfl,a,ns,2,rfl,hS,by decide,fun m0=>?_⟩
  refine ⟨_,_,rfl,rfl,.inr ⟨by decide,by decide⟩,_,_,rfl,rfl,(show (0 : Int) < 65521 by decide),?_⟩
  have c0:=Int.emod_nonneg (m0 * 16807) (show (65521 : Int) ≠ 0 by decide)
  have c1:=Int.emod_lt_of_pos (m0 * 16807) (show (0 : Int) < 65521 by decide)
  have d0:=Int.emod_nonneg ((k + 2) * (m0 * 16807 % 65521 + 3) * 577) (show (10009 : Int) ≠ 0 by decide)
  have d1:=Int.emod_lt_of_pos ((k + 2) * (m0 * 16807 % 65521 + 3) * 577) (show (0 : Int) < 10009 by decide)
  refine ⟨_,rfl,_,_,rfl,rfl,_,rfl,_,_,rfl,rfl,_,_,rfl,rfl,.inl ⟨by omega,by omega⟩,_,_,rfl,rfl,.inr ⟨by decide,by decide⟩,_,_,rfl,rfl,(show (0 : Int) < 10009 by decide),_,_,rfl,rfl,⟨by decide,by decide,by omega⟩,?_⟩
  refine ⟨_,_,rfl,rfl,⟨by decide,by decide,by decide⟩,(by show 3 ≤ sizeLine; decide),fun p0 hp0=>?_⟩
  obtain ⟨tp,htp,ht1⟩ : ∃ t : Int,atI [V.int 5,V.int 90,V.int (10 ^ (58 : Int).toNat)] (m0 * 16807 % 65521 % 3) = some (.int t)∧0 < t:=by
    have : m0 * 16807 % 65521 % 3 = 0 ∨ m0 * 16807 % 65521 % 3 = 1 ∨ m0 * 16807 % 65521 % 3 = 2:=by omega
    rcases this with e | e | e <;> rw [e]
    · exact ⟨5,rfl,by decide⟩
    · exact ⟨90,rfl,by decide⟩
    · exact ⟨_,rfl,by decide⟩
  refine ⟨_,rfl,_,_,rfl,rfl,(show (0 : Int) < 3 by decide),p0,_,_,_,rfl,rfl,SqL.of ae,htp,_,_,rfl,rfl,ht1,?_⟩
  exact q _ _ (ah hp0 _)
def ox (K : PySem.W.Frag) : Sp:=fun vs H Q _=>∃ (a : Addr) (ns : List Int),vs = [.ref a]∧SqL K H a (ns.map V.int)∧∀ (v : V) (H' : Hp) (G : List ak),Same H H'→rPu H' G v→GPk G→(∀ row ∈ G,row.1 = 0 ∨ row.1 = 1)→0 < G.length→G.length ≤ 11→(∀ row ∈ G,row.2.length ≤ 5)→Q v H'
abbrev rPR : Rel ak:=rT2 cg rWs
theorem lm : MonoR rPR:=cw aQ mono_ws
theorem pz (F : DefAt K mg "_law_game" cK ["_law_script"]) (T : Txt mg) (D_law_cell_at : Dn P w K mg base "_law_cell_at" 1 ["_law_script","_law_k"] (i9 K)) (D_law_height : Dn P w K mg base "_law_height" 2 ["_law_script","_law_k"] (jy K)) : Dn P w K mg base "_law_game" 3 ["_law_script"] (ox K):=by
  have sc:=j8
  refine F.ok sc (fun vs H Q E h=>?_) (fun f cdv A outer s H vs Q E hr h=>?_)
  · obtain ⟨_,_,rfl,_⟩:=h; rfl
  obtain ⟨a,ns,rfl,hS,q⟩:=h
  refine ⟨_,(ac (au (i:=1) sc.nd rfl (Or.inl rfl) (ai aN (ai aW (az D_law_cell_at hr (aa (pv 0) (aa ab ad))) ab) ab))
      (ac (au (i:=2) sc.nd rfl (Or.inl rfl) (ai aS ab (ai aN (pv 1) ab)))
      (ac (au (i:=3) sc.nd rfl (Or.inl rfl) (ax (ixL (K:=K) rfl) (bU (aa ab (aa ab (aa (ai d9 ab ab) (aa (ai d6 (ai d9 ab ab) ab) (aa ab (aa ab (aa ab (aa ab ad))))))))) (ai aN (ai fM (pv 1) ab) ab) (fun _ _=>rfl)))
      (fO (aZ (aG cN (ai aN (ai fM (pv 1) ab) ab) ab (aB _))
      (ag (au (i:=2) sc.nd rfl (Or.inl rfl) (ai aS ab (ai aN (ai fM (pv 1) ab) ab))))
      aE)
      (ac (au (i:=4) sc.nd rfl (Or.inl rfl) (ax (ixL (K:=K) rfl) (bU (aa ab (aa ab (aa ab (aa ab ad))))) (ai aN (ai fM (pv 1) ab) ab) (fun _ _=>rfl)))
      (ac (au (i:=5) sc.nd rfl (Or.inl rfl) (bU ad))
      (ac (bu PassesOwn.never rfl (bB rfl T.b_range (aa (pv 2) ad)) (aD (i:=6) sc.nd rfl (Or.inl rfl))
      (ac (au (i:=1) sc.nd rfl (Or.inl rfl) (ai aS (az D_law_cell_at hr (aa (pv 0) (aa (ai aS ab (pv 6)) ad))) (ai aW (ai aW ab (pv 6)) (pv 6))))
      (ac (au (i:=7) sc.nd rfl (Or.inl rfl) (bU (aa (ai aN (ai aN (ai aW (pv 1) ab) ab) (pv 2)) ad)))
      (ac (bu PassesOwn.never rfl (bB rfl T.b_range (aa (ai aN (ai aN (ai aW (pv 1) ab) ab) (pv 4)) ad)) (aD (i:=8) sc.nd rfl (Or.inl rfl))
      (ag (aM (dq PySem.F.plainAttrs_list PySem.F.slot_list_append PySem.F.type_list_append bg (pv 7) (aa (ai aN (ai aN (ai aS (ai aW (ai aW (pv 1) (ai aS (pv 8) ab)) ab) (ai aW ab (pv 8))) ab) (pv 2)) ad)))))
      (ac (au (i:=9) sc.nd rfl (Or.inl rfl) (bU ad))
      (ac (bu PassesOwn.never rfl (cf (gb (K:=K) rfl rfl rfl T.b_sorted rfl T.b_set (aa (pv 7) ad))) (aD (i:=10) sc.nd rfl (Or.inl rfl))
      (ac (au (i:=11) sc.nd rfl (Or.inl rfl) (ai aN (ai aS (ai aS (ai aW (pv 1) ab) (ai aW (ai aW ab (pv 10)) (pv 10))) (ai aW ab (pv 10))) ab))
      (ac (au (i:=12) sc.nd rfl (Or.inl rfl) (ai d6 (ai aN (ai d9 (ai aS (pv 11) ab) ab) (ai aS (ai aW ab (pv 3)) ab)) (pv 3)))
      (fO (aZ (aG cN (pv 3) ab (aB _))
      (ag (au (i:=12) sc.nd rfl (Or.inl rfl) (ai d6 (ai aS (ai d6 (az D_law_height hr (aa (pv 0) (aa (pv 6) ad))) (az D_law_height hr (aa (pv 0) (aa (pv 10) ad)))) (ai aN (pv 11) ab)) ab)))
      aE)
      (ag (aM (dq PySem.F.plainAttrs_list PySem.F.slot_list_append PySem.F.type_list_append bg (pv 9) (aa (cH (aa (pv 10) (aa (pv 12) ad))) ad))))))))
      (ag (aM (dq PySem.F.plainAttrs_list PySem.F.slot_list_append PySem.F.type_list_append bg (pv 5) (aa (cH (aa (ai aN (ai aN (ai aW (pv 1) ab) ab) ab) (aa (pv 9) ad))) ad))))))))))
      (ag (aC (pv 5)))))))))),?_⟩
  refine ⟨_,rfl,a,ns,0,rfl,hS,by decide,fun m0=>?_⟩
  refine ⟨_,_,rfl,rfl,.inr ⟨by decide,by decide⟩,_,_,rfl,rfl,(show (0 : Int) < 104723 by decide),?_⟩
  have c0:=Int.emod_nonneg (m0 * 69621) (show (104723 : Int) ≠ 0 by decide)
  have c1:=Int.emod_lt_of_pos (m0 * 69621) (show (0 : Int) < 104723 by decide)
  refine ⟨_,rfl,_,_,rfl,rfl,(show (0 : Int) < 6 by decide),_,_,rfl,rfl,?_⟩
  refine ⟨_,_,rfl,rfl,⟨by decide,by decide,by decide⟩,_,_,rfl,rfl,⟨by decide,by decide,by decide⟩,_,_,rfl,rfl,(by show 8 ≤ sizeLine; decide),fun b0 hb0=>?_⟩
  obtain ⟨mo,hmo,hm0⟩ : ∃ t : Int,atI [V.int 2,V.int 30,V.int (10 ^ (12 : Int).toNat),V.int (10 ^ (59 : Int).toNat - 1),V.int 0,V.int 0,V.int 0,V.int 0] (m0 * 69621 % 104723 / 6 % 8) = some (.int t)∧0 ≤ t:=by
    have : m0 * 69621 % 104723 / 6 % 8 = 0 ∨ m0 * 69621 % 104723 / 6 % 8 = 1 ∨ m0 * 69621 % 104723 / 6 % 8 = 2 ∨ m0 * 69621 % 104723 / 6 % 8 = 3 ∨ m0 * 69621 % 104723 / 6 % 8 = 4 ∨ m0 * 69621 % 104723 / 6 % 8 = 5 ∨ m0 * 69621 % 104723 / 6 % 8 = 6 ∨ m0 * 69621 % 104723 / 6 % 8 = 7:=by omega
    rcases this with e | e | e | e | e | e | e | e <;> rw [e]
    all_goals exact ⟨_,rfl,by decide⟩
  have s0:=ah hb0 (.lst [V.int 2,V.int 30,V.int (10 ^ (12 : Int).toNat),V.int (10 ^ (59 : Int).toNat - 1),V.int 0,V.int 0,V.int 0,V.int 0])
  refine ⟨_,rfl,_,_,rfl,rfl,⟨by decide,by decide⟩,_,_,rfl,rfl,(show (0 : Int) < 8 by decide),b0,_,_,_,rfl,rfl,SqL.of ae,hmo,?_⟩
  generalize upd H b0 (.lst [V.int 2,V.int 30,V.int (10 ^ (12 : Int).toNat),V.int (10 ^ (59 : Int).toNat - 1),V.int 0,V.int 0,V.int 0,V.int 0]) = H1 at s0 ⊢
  refine ⟨fun σ' H2=>∃ (n c : Int),σ' = [some (.ref a),some (.int c),some (.int n),some (.int mo),none,none,none,none,none,none,none,none,none]∧H2 = H1∧1 ≤ n∧n ≤ 11∧0 ≤ c,?_,?_⟩
  · refine ⟨_,rfl,_,_,rfl,rfl,⟨by decide,by decide⟩,_,_,rfl,rfl,(show (0 : Int) < 6 by decide),rfl,_,rfl,?_⟩
    refine cL (fun c=>?_) (fun c=>?_)
    · refine ⟨_,rfl,_,_,rfl,rfl,⟨by decide,by decide⟩,_,_,rfl,rfl,(show (0 : Int) < 5 by decide),_,_,rfl,rfl,?_⟩
      exact ⟨_,_,rfl,rfl,by omega,by omega,c0⟩
    · exact ⟨_,_,rfl,rfl,by omega,by omega,c0⟩
  rintro σ' H2 ⟨n,c,rfl,rfl,hn0,hn1,c0⟩
  refine ⟨(by show 4 ≤ sizeLine; decide),fun p1 hp1=>?_⟩
  obtain ⟨me,hme,hm1,hm2⟩ : ∃ t : Int,atI [V.int 3,V.int 3,V.int 3,V.int 5] (c / 4000 % 4) = some (.int t)∧3 ≤ t∧t ≤ 5:=by
    have : c / 4000 % 4 = 0 ∨ c / 4000 % 4 = 1 ∨ c / 4000 % 4 = 2 ∨ c / 4000 % 4 = 3:=by omega
    rcases this with e | e | e | e <;> rw [e]
    · exact ⟨3,rfl,by decide,by decide⟩
    · exact ⟨3,rfl,by decide,by decide⟩
    · exact ⟨3,rfl,by decide,by decide⟩
    · exact ⟨5,rfl,by decide,by decide⟩
  have s3:=s0.trans (ah hp1 (.lst [V.int 3,V.int 3,V.int 3,V.int 5]))
  refine ⟨_,rfl,_,_,rfl,rfl,⟨by decide,by decide⟩,_,_,rfl,rfl,(show (0 : Int) < 4 by decide),p1,_,_,_,rfl,rfl,SqL.of ae,hme,?_⟩
  generalize upd H2 p1 (.lst [V.int 3,V.int 3,V.int 3,V.int 5]) = H3 at s3 ⊢
  refine ⟨Nat.zero_le _,fun g hg=>?_⟩
  refine ⟨_,rfl,n,rfl,by omega,by omega,bP (lo:=0) (n:=n.toNat) (fun i σ Hy=>∃ (G' : List ak) (y1 y6 y7 y8 y9 y10 y11 y12 : Option V),σ = [some (.ref a),y1,some (.int n),some (.int mo),some (.int me),some (.ref g),y6,y7,y8,y9,y10,y11,y12]∧Bld rPR H3 Hy g G'∧G'.length = i∧∀ row ∈ G',row.2 ≠ []∧(row.2.map (·.1)).Nodup∧(∀ w ∈ row.2,0 ≤ w.1∧w.1 < n)∧(row.1 = 0 ∨ row.1 = 1)∧row.2.length ≤ 5)
    ⟨[],_,_,_,_,_,_,_,_,rfl,Bld.start (Same.refl _) hg,rfl,fun _ z=>by cases z⟩ (fun i σ Hy hi h=>?_) (fun σ Hy h=>?_)⟩
  · obtain ⟨G',y1,y6,y7,y8,y9,y10,y11,y12,rfl,b,hl,hk⟩:=h
    refine ⟨_,rfl,_,rfl,_,_,rfl,rfl,a,ns,_,rfl,(s3.trans b.s).seq hS,by omega,fun m5=>?_⟩
    have hk0 : (0 : Int) ≤ 0 + ((i : Nat) : Int)∧(0 + ((i : Nat) : Int)) ≤ 11:=by omega
    refine ⟨_,rfl,_,_,rfl,rfl,.inl ⟨by decide,by decide⟩,_,rfl,_,_,rfl,rfl,.inl ⟨by omega,by omega⟩,_,_,rfl,rfl,?_⟩
    obtain ⟨cl,hcl⟩ : ∃ cl : Int,m5 + 13 * (0 + ((i : Nat) : Int)) * (0 + ((i : Nat) : Int)) = cl:=⟨_,rfl⟩
    have e0:=Int.emod_nonneg (cl * 48271 % 32749) (show me ≠ 0 by omega)
    have e1:=Int.emod_lt_of_pos (cl * 48271 % 32749) (show 0 < me by omega)
    have f0:=Int.emod_nonneg (cl * 30011 % 65519) (show n ≠ 0 by omega)
    have f1:=Int.emod_lt_of_pos (cl * 30011 % 65519) (show 0 < n by omega)
    rw [← hcl] at e0 e1 f0 f1
    refine ⟨_,rfl,_,_,rfl,rfl,.inr ⟨by decide,by decide⟩,_,_,rfl,rfl,(show (0 : Int) < 65519 by decide),_,rfl,_,_,rfl,rfl,(show 0 < n by omega),(by show 1 ≤ sizeLine; decide),fun l hl1=>?_⟩
    refine ⟨_,rfl,_,_,rfl,rfl,.inr ⟨by decide,by decide⟩,_,_,rfl,rfl,(show (0 : Int) < 32749 by decide),_,rfl,_,_,rfl,rfl,(show 0 < me by omega),_,rfl,by omega,by omega,bP (lo:=0) (n:=((m5 + 13 * (0 + ((i : Nat) : Int)) * (0 + ((i : Nat) : Int))) * 48271 % 32749 % me).toNat) (fun j σ Hz=>∃ (ws : List Int) (y3 : Option V),σ = [some (.ref a),some (.int (m5 + 13 * (0 + ((i : Nat) : Int)) * (0 + ((i : Nat) : Int)))),some (.int n),some (.int mo),some (.int me),some (.ref g),some (.int (0 + ((i : Nat) : Int))),some (.ref l),y3,y9,y10,y11,y12]∧Same Hy Hz∧Hz l = some (.lst (ws.map V.int))∧ws.length = j + 1∧∀ x ∈ ws,0 ≤ x∧x < n)
      ⟨[(m5 + 13 * (0 + ((i : Nat) : Int)) * (0 + ((i : Nat) : Int))) * 30011 % 65519 % n],_,rfl,ah hl1 _,ae,rfl,fun x hx=>by rw [List.mem_singleton.mp hx]; exact ⟨f0,f1⟩⟩ (fun j σ Hz hj h=>?_) (fun σ Hz h=>?_)⟩
    · obtain ⟨ws,y5,rfl,sz,hz,hwl,hws⟩:=h
      refine ⟨_,rfl,.inl ⟨rfl,_,SqL.of hz⟩,_,rfl,_,rfl,_,_,rfl,rfl,_,_,rfl,rfl,.inr ⟨by omega,by omega⟩,_,_,rfl,rfl,.inr ⟨by decide,by decide⟩,_,rfl,_,_,rfl,rfl,.inl ⟨by decide,by decide⟩,_,_,rfl,rfl,_,_,rfl,rfl,(show (0 : Int) < 50021 by decide),_,rfl,_,_,rfl,rfl,(show 0 < n by omega),l,_,_,rfl,rfl,hz,(fg (m:=1000) (by rw [List.length_map]; omega)),?_⟩
      refine ⟨ws ++ [((m5 + 13 * (0 + ((i : Nat) : Int)) * (0 + ((i : Nat) : Int))) * (0 + ((j : Nat) : Int) + 3) * 40692 + 17 * (0 + ((j : Nat) : Int))) % 50021 % n],_,rfl,sz.put hl1 _,by rw [ae,List.map_append]; rfl,by rw [List.length_append,hwl]; rfl,fun x hx=>?_⟩
      rcases List.mem_append.mp hx with h | h
      · exact hws x h
      · rw [List.mem_singleton.mp h]
        exact ⟨Int.emod_nonneg _ (by omega),Int.emod_lt_of_pos _ (by omega)⟩
    obtain ⟨ws,y5,rfl,sz,hz,hwl,hws⟩:=h
    rw [hcl] at e0 e1 f0 f1 hwl ⊢
    have hw5 : ws.length ≤ 5:=by omega
    refine ⟨Nat.zero_le _,fun wl hwl0=>?_⟩
    have bw0 : Bld (rT2 cg cg) Hy (upd Hz wl (.lst [])) wl []:=Bld.start sz hwl0
    have hz1:=ah hwl0 (.lst []) _ _ hz
    have hw1 : upd Hz wl (.lst []) wl = some (.lst []):=ae
    generalize upd Hz wl (.lst []) = Hw at bw0 hz1 hw1 ⊢
    refine ⟨_,rfl,l,ws,rfl,SqL.of hz1,by omega,(fun ns hn hs=>by have:=cW ns _ hn hs; omega),fun p vs hp pw mem=>?_⟩
    have bw1:=bw0.go (cw aQ aQ) (ah hp (.lst (vs.map V.int)))
    have npw : p ≠ wl:=fun z=>by rw [z,hw1] at hp; cases hp
    have hvl : vs.length ≤ ws.length:=cW vs ws (pw.imp fun h=>by omega) fun k hk=>(mem k).mp hk
    have hq0 : upd Hw p (.lst (vs.map V.int)) p = some (.lst (vs.map V.int)):=ae
    generalize upd Hw p (.lst (vs.map V.int)) = Hv at bw1 hq0 ⊢
    have hvn : ∀ x ∈ vs,0 ≤ x∧x < n:=fun x hx=>hws x ((mem x).mp hx)
    refine ⟨p,rfl,⟨_,SqL.of hq0⟩,gP (K:=K) (a:=p) (xs:=vs.map V.int) (fun k σ Hq=>∃ (W : List Wy) (y10 y11 y12 : Option V),σ = [some (.ref a),some (.int cl),some (.int n),some (.int mo),some (.int me),some (.ref g),some (.int (0 + ((i : Nat) : Int))),some (.ref l),y5,some (.ref wl),y10,y11,y12]∧Bld (rT2 cg cg) Hy Hq wl W∧Hq p = some (.lst (vs.map V.int))∧W.map (·.1) = vs.take k)
      ⟨[],_,_,_,rfl,bw1,hq0,rfl⟩ (fun k σ Hq hk h=>?_) (fun k x σ Hq hk h=>?_) (fun σ Hq h=>?_)⟩
    · obtain ⟨_,_,_,_,_,_,h,_⟩:=h
      exact SqL.of h
    · obtain ⟨W,y10,y11,y12,rfl,bw,hq,hW⟩:=h
      obtain ⟨x,hx,rfl⟩:=ig hk
      obtain ⟨x0,x1⟩:=hvn x (List.mem_of_getElem? hx)
      have kl:=(List.getElem?_eq_some_iff.mp hx).1
      have Wl : W.length = k:=by have:=congrArg List.length hW; rw [List.length_map,List.length_take] at this; omega
      have hSq : SqL K Hq a (ns.map V.int):=((s3.trans b.s).trans bw.s).seq hS
      refine ⟨_,rfl,_,_,rfl,rfl,.inr ⟨by decide,by decide⟩,_,rfl,_,_,rfl,rfl,.inl ⟨by decide,by decide⟩,_,rfl,_,_,rfl,rfl,.inl ⟨by omega,by omega⟩,_,_,rfl,rfl,_,rfl,_,_,rfl,rfl,.inl ⟨by decide,by decide⟩,_,_,rfl,rfl,_,_,rfl,rfl,(show (0 : Int) < 1000003 by decide),?_⟩
      have g0:=Int.emod_nonneg (cl * 69621 + 199 * x * x + 3 * x) (show (1000003 : Int) ≠ 0 by decide)
      have g1:=Int.emod_lt_of_pos (cl * 69621 + 199 * x * x + 3 * x) (show (0 : Int) < 1000003 by decide)
      refine ⟨_,rfl,_,_,rfl,rfl,_,_,rfl,rfl,⟨by decide,by decide,by omega⟩,_,rfl,_,_,rfl,rfl,.inl ⟨by decide,by decide⟩,_,_,rfl,rfl,_,_,rfl,rfl,(show 0 < 2 * mo + 1 by omega),_,rfl,_,_,rfl,rfl,?_⟩
      refine ⟨fun σ' H'=>∃ (am : Int) (y11 : Option V),σ' = [some (.ref a),some (.int cl),some (.int n),some (.int mo),some (.int me),some (.ref g),some (.int (0 + ((i : Nat) : Int))),some (.ref l),y5,some (.ref wl),some (.int x),y11,some (.int am)]∧Same Hq H',?_,?_⟩
      · refine ⟨_,rfl,rfl,_,rfl,?_⟩
        refine cL (fun c=>?_) (fun c=>⟨_,_,rfl,Same.refl _⟩)
        refine ⟨_,rfl,_,rfl,a,ns,_,rfl,hSq,by omega,by omega,fun m7 H7 s7=>⟨_,rfl,_,rfl,a,ns,_,rfl,s7.seq hSq,by omega,by omega,fun m8 H8 s8=>?_⟩⟩
        exact ⟨_,_,rfl,rfl,_,rfl,_,_,rfl,rfl,(show (0 : Int) < 3 by decide),_,_,rfl,rfl,_,_,rfl,rfl,_,_,rfl,s7.trans s8⟩
      rintro σ' H9 ⟨am,z11,rfl,s9⟩
      obtain ⟨vs0,hv0,hv1⟩:=bw.sq
      refine ⟨_,rfl,.inl ⟨rfl,_,SqL.of (s9 _ _ hv0)⟩,_,rfl,_,rfl,(by show 2 ≤ sizeLine; decide),fun t ht=>?_⟩
      obtain ⟨vs4,k1,k2,b4⟩:=bw.push (cw aQ aQ) (s9.trans (ah ht (.tup [.int x,.int am]))) (x:=(x,am)) (v:=.ref t) ⟨t,_,_,rfl,by rw [db (s9.free ht),ae],rfl,rfl⟩
      refine ⟨wl,vs4,_,rfl,rfl,k1,(fg (m:=1000) (by omega)),?_⟩
      refine ⟨W ++ [(x,am)],_,_,_,rfl,b4,by rw [aq npw]; exact (s9.trans (ah ht _)) _ _ hq,?_⟩
      rw [List.map_append,hW,List.take_add_one,hx]; rfl
    obtain ⟨W,y10,y11,y12,rfl,bw,hq,hW⟩:=h
    rw [List.length_map,List.take_length] at hW
    obtain ⟨gvs,hgv,hgl⟩:=b.sq
    refine ⟨_,rfl,.inl ⟨rfl,_,SqL.of (bw.s _ _ hgv)⟩,_,rfl,_,_,rfl,rfl,.inr ⟨by decide,by decide⟩,_,_,rfl,rfl,(show (0 : Int) < 10007 by decide),_,_,rfl,rfl,(show (0 : Int) < 2 by decide),_,rfl,(by show 2 ≤ sizeLine; decide),fun t2 ht2'=>?_⟩
    obtain ⟨vs4,k1,k2,b4⟩:=b.push lm (bw.s.trans (ah ht2' (.tup [.int (cl * 16807 % 10007 % 2),.ref wl]))) (x:=(cl * 16807 % 10007 % 2,W)) (v:=.ref t2) ⟨t2,_,_,rfl,by rw [db (bw.s.free ht2'),ae],rfl,mono_ws.up (pu (ah ht2' _)) (bw.done (cw aQ aQ))⟩
    refine ⟨g,vs4,_,rfl,rfl,k1,(fg (m:=1000) (by omega)),?_⟩
    refine ⟨_,_,_,_,_,_,_,_,_,rfl,b4,by simp [hl],fun rw hrw=>?_⟩
    rcases List.mem_append.mp hrw with h | h
    · exact hk rw h
    · rw [List.mem_singleton.mp h]
      have e0:=Int.emod_nonneg (cl * 16807 % 10007) (show (2 : Int) ≠ 0 by decide)
      have e1:=Int.emod_lt_of_pos (cl * 16807 % 10007) (show (0 : Int) < 2 by decide)
      have Wl : W.length = vs.length:=by have:=congrArg List.length hW; rw [List.length_map] at this; exact this
      obtain ⟨w0,hw0⟩ : ∃ w0,w0 ∈ ws:=by
        cases ws with
        | nil=>simp at hwl
        | cons w0 _=>exact ⟨w0,List.mem_cons_self⟩
      refine ⟨fun z=>?_,by show (W.map (·.1)).Nodup; rw [hW]; exact pw.imp fun h=>by omega,fun w hw=>hvn _ (by rw [← hW]; exact List.mem_map.mpr ⟨w,hw,rfl⟩),by show cl * 16807 % 10007 % 2 = 0 ∨ cl * 16807 % 10007 % 2 = 1; omega,by show W.length ≤ 5; omega⟩
      have z : W = []:=z
      have:=(mem w0).mpr hw0
      rw [← hW,z] at this; cases this
  · obtain ⟨G',y1,y6,y7,y8,y9,y10,y11,y12,rfl,b,hl,hk⟩:=h
    have e : (G'.length : Int) = n:=by omega
    refine ⟨_,rfl,q _ _ G' (s3.trans b.s) (mono_pu.up (mz _ _) (b.done lm)) (fun row hr=>⟨(hk row hr).1,(hk row hr).2.1,by rw [e]; exact (hk row hr).2.2.1⟩) (fun row hr=>(hk row hr).2.2.2.1) (by omega) (by omega) (fun row hr=>(hk row hr).2.2.2.2)⟩
theorem Sm.seq {H H' : Hp} {a : Addr} {xs : List V} (s : Sm H H') (h : SqL K H a xs) : SqL K H' a xs:=by
  rcases h with (h | ⟨o,h⟩) | h
  · exact .inl (.inl (aj _ _ (s _ _ (bM h))))
  · exact .inl (.inr ⟨o,aj _ _ (s _ _ (fE h fun _ z=>by cases z))⟩)
  · exact .inr h
theorem sj {H : Hp} (h : lf ["least_needy","most_needy"] K H) (ne : aH K "least_needy" ≠ aH K "most_needy") : Tbs K H:=⟨⟨#[],h _ (by simp),trivial,.inl rfl⟩,⟨#[],h _ (by simp),trivial,.inl rfl⟩,ne⟩
def spLaw (K : PySem.W.Frag) : Sp:=fun vs H Q _=>∃ (a : Addr) (ns : List Int),vs = [.ref a]∧SqL K H a (ns.map V.int)∧lf ["least_needy","most_needy"] K H∧ns.length ≤ 63∧∀ H',Q (.bl true) H'
theorem rm {f : Addr} {fd : FuncData} (F : Fun K "law" "law" fz f fd) (T : Txt mg) (ne : aH K "least_needy" ≠ aH K "most_needy") (D_law_cell_at : Dn P w K mg base "_law_cell_at" 1 ["_law_script","_law_k"] (i9 K)) (D_law_game : Dn P w K mg base "_law_game" 3 ["_law_script"] (ox K)) (D_solved_purses : Dn P w K mg base "solved_purses" 8 ["game"] (kR K)) (D_law_at : Dn P w K mg base "_law_at" 11 ["_law_game_here","_law_start","_law_least","_law_more","_law_cells"] (sY K)) : FnOk P w K mg base CX0 12 f fd ["_law_script"] (spLaw K):=by
  have sc:=sg
  refine F.ok sc (fun vs H Q E h=>?_) (fun cdv A outer s H vs Q E hr h=>?_)
  · obtain ⟨_,_,rfl,_⟩:=h; rfl
  obtain ⟨a,ns,rfl,hS,hT,hl,q⟩:=h
  have tb:=sj hT ne
  refine ⟨_,(ac (au (i:=1) sc.nd rfl (Or.inl rfl) (az D_law_game hr (aa (pv 0) ad)))
      (ac (au (i:=2) sc.nd rfl (Or.inl rfl) (ax (ixT (K:=K) rfl) (az D_solved_purses hr (aa (pv 1) ad)) ab (fun _ _=>rfl)))
      (ac (aZ (PW.pt (eB (c8 (bV (aF (ib (K:=K) rfl (T := "list")) rfl T.b_isinstance PyProof.Rows.boot_isinstance (aa (pv 2) (aa (dJ (v:=.ty "list") rfl T.b_list PyProof.Rows.boot_list rfl) ad))))) (dF (aG gD (aF (cD (K:=K) rfl) rfl T.b_len PySem.boot_len (aa (pv 2) ad)) (aF (cD (K:=K) rfl) rfl T.b_len PySem.boot_len (aa (pv 1) ad)) (aB _)))))
      (ag (aC dU))
      aE)
      (ac (bu PassesOwn.never rfl (bB rfl T.b_range (aa ab ad)) (aD (i:=3) sc.nd rfl (Or.inl rfl))
      (ac (au (i:=4) sc.nd rfl (Or.inl rfl) (ai aN (ai aW (az D_law_cell_at hr (aa (pv 0) (aa (ai aS ab (pv 3)) ad))) ab) ab))
      (ac (au (i:=5) sc.nd rfl (Or.inl rfl) (ai aN (ai aS (pv 4) (ai aW ab (pv 3))) (aF (cD (K:=K) rfl) rfl T.b_len PySem.boot_len (aa (pv 1) ad))))
      (ac (au (i:=6) sc.nd rfl (Or.inl rfl) (ax (ixL (K:=K) rfl) (pv 2) (pv 5) (fun _ _=>rfl)))
      (ac (aZ (PW.pt (e7 (b8 (eK (pv 6))) (dG (PW.pt (eB (bV (aF (ib (K:=K) rfl (T := "bool")) rfl T.b_isinstance PyProof.Rows.boot_isinstance (aa (pv 6) (aa (dJ (v:=.ty "bool") rfl T.b_bool PyProof.Rows.boot_bool rfl) ad)))) (eB (c8 (bV (aF (ib (K:=K) rfl (T := "int")) rfl T.b_isinstance PyProof.Rows.boot_isinstance (aa (pv 6) (aa (dJ (v:=.ty "int") rfl T.b_int PyProof.Rows.boot_int rfl) ad))))) (dF (aG j9 (pv 6) ab (aB _)))))))))
      (ag (aC dU))
      aE)
      (ac (au (i:=7) sc.nd rfl (Or.inl rfl) (bU ad))
      (ac (bu PassesOwn.never rfl (bB rfl T.b_range (aa ab ad)) (aD (i:=8) sc.nd rfl (Or.inl rfl))
      (ag (aM (dq PySem.F.plainAttrs_list PySem.F.slot_list_append PySem.F.type_list_append bg (pv 7) (aa (ai aN (ai aW (ai aS (az D_law_cell_at hr (aa (pv 0) (aa (ai aS ab (pv 8)) ad))) (ai aW (ai aW (ai aS (pv 3) ab) (pv 8)) (pv 8))) ab) ab) ad)))))
      (ag (aZ (c8 (bV (az D_law_at hr (aa (pv 1) (aa (pv 5) (aa (pv 6) (aa (ai aN (ai d9 (ai aS (pv 4) ab) ab) (ai d9 ab ab)) (aa (pv 7) ad))))))))
      (ag (aC dU))
      aE)))))))))
      (ag (aC dU)))))),?_⟩
  refine ⟨_,rfl,a,ns,rfl,hS,fun v H1 G s1 hG g hh l0 l11 f5=>?_⟩
  have cb:=si g l0 l11 f5
  have few2 : ∀ row ∈ G,row.2.length ≤ 100:=fun row hr=>by have:=f5 row hr; omega
  have hGn:=sB hG
  refine ⟨_,rfl,v,G,rfl,hGn,g,by omega,few2,cb,tb.up s1,fun t ta wa TT ws H2 S2 tb2 ht hta hwa sol=>?_⟩
  refine ⟨t,_,_,_,rfl,rfl,SqT.of (aj _ _ ht),ar (j:=0) rfl,?_⟩
  have hG2:=mono_pu.up S2 hGn
  have hS2:=S2.seq (s1.seq hS)
  obtain ⟨g0,gv,rfl,hg0,hgl,_⟩:=cq hG2
  have tl : TT.length = G.length:=by obtain ⟨_,l,_⟩:=sol; exact l
  refine ⟨_,rfl,_,"list",_,rfl,.inl ⟨rfl,.inl ⟨_,aj _ _ hta⟩⟩,eV _,_,rfl,?_⟩
  refine bj ?_
  refine ⟨_,rfl,ta,_,rfl,.inl (SqL.of (aj _ _ hta)),_,rfl,g0,_,rfl,.inl (SqL.of (aj _ _ hg0)),rfl,?_⟩
  rw [decide_eq_true (show V.int ((tV TT).length : Nat) = V.int (gv.length : Nat) by rw [bz,tl,hgl])]
  refine ⟨_,rfl,?_⟩
  refine bj ?_
  refine ⟨2,rfl,by decide,by decide,bP (lo:=0) (n:=2) (fun i σ Hy=>∃ y3 y4 y5 y6 y7 y8 : Option V,σ = [some (.ref a),some (.ref g0),some (.ref ta),y3,y4,y5,y6,y7,y8]∧Sm H2 Hy∧Tbs K Hy) ⟨_,_,_,_,_,_,rfl,Sm.refl _,tb2⟩ (fun i σ Hy hi h=>?_) (fun σ Hy h=>?_)⟩
  · obtain ⟨y3,y4,y5,y6,y7,y8,rfl,Sy,tby⟩:=h
    refine ⟨_,rfl,_,rfl,_,_,rfl,rfl,a,ns,_,rfl,Sy.seq hS2,by omega,fun m5=>?_⟩
    refine ⟨_,_,rfl,rfl,.inr ⟨by decide,by decide⟩,_,_,rfl,rfl,(show (0 : Int) < 1000003 by decide),?_⟩
    have c0:=Int.emod_nonneg (m5 * 30323) (show (1000003 : Int) ≠ 0 by decide)
    have c1:=Int.emod_lt_of_pos (m5 * 30323) (show (0 : Int) < 1000003 by decide)
    have hgp : (0 : Int) < (gv.length : Nat):=by omega
    refine ⟨_,rfl,_,rfl,_,_,rfl,rfl,.inl ⟨by decide,by decide⟩,_,_,rfl,rfl,_,rfl,g0,_,rfl,.inl (SqL.of (aj _ _ (Sy _ _ hg0))),_,_,rfl,rfl,hgp,?_⟩
    have p0:=Int.emod_nonneg (m5 * 30323 % 1000003 + 3 * (0 + ((i : Nat) : Int))) (show ((gv.length : Nat) : Int) ≠ 0 by omega)
    have p1:=Int.emod_lt_of_pos (m5 * 30323 % 1000003 + 3 * (0 + ((i : Nat) : Int))) hgp
    rw [hgl] at p1
    have p1 : (m5 * 30323 % 1000003 + 3 * (0 + ((i : Nat) : Int))) % ((gv.length : Nat) : Int) < (G.length : Int):=by rw [hgl]; exact p1
    have a9:=fA (T:=TT) p0 (by rw [tl]; exact p1)
    refine ⟨_,rfl,_,rfl,ta,_,_,_,rfl,rfl,SqL.of (aj _ _ (Sy _ _ hta)),a9,?_⟩
    have hv : tbF TT ((m5 * 30323 % 1000003 + 3 * (0 + ((i : Nat) : Int))) % ((gv.length : Nat) : Int)) = none ∨ ∃ v0 : Int,tbF TT ((m5 * 30323 % 1000003 + 3 * (0 + ((i : Nat) : Int))) % ((gv.length : Nat) : Int)) = some v0∧0 ≤ v0:=by
      cases et : tbF TT ((m5 * 30323 % 1000003 + 3 * (0 + ((i : Nat) : Int))) % ((gv.length : Nat) : Int)) with
      | none=>exact .inl rfl
      | some v0=>exact .inr ⟨v0,rfl,by obtain ⟨r,sr⟩:=sol; exact sr.2.2.1.pos _ v0 et⟩
    rcases hv with hv | ⟨v0,hv,v00⟩
    rw [hv]
    refine ⟨_,rfl,false,rfl,bj ?_⟩
    refine bj ?_
    rotate_left
    rw [hv]
    refine ⟨_,rfl,true,rfl,cS ?_⟩
    refine ⟨_,rfl,_,"int",_,rfl,rfl,eO,false,rfl,bj ?_⟩
    refine ⟨_,rfl,_,"int",_,rfl,rfl,eV _,true,rfl,bj ?_⟩
    refine ⟨_,rfl,_,_,rfl,rfl,?_⟩
    refine ⟨false,congrArg V.bl (decide_eq_false (Int.not_lt.mpr v00)),?_⟩
    refine bj ?_
    all_goals
      refine ⟨Nat.zero_le _,fun l hl0=>?_⟩
      refine ⟨20,rfl,by decide,by decide,bP (lo:=0) (n:=20) (fun j σ Hz=>∃ (cs : List Int) (y8 : Option V),σ = [some (.ref a),some (.ref g0),some (.ref ta),some (.int (0 + ((i : Nat) : Int))),some (.int (m5 * 30323 % 1000003)),some (.int ((m5 * 30323 % 1000003 + 3 * (0 + ((i : Nat) : Int))) % ((gv.length : Nat) : Int))),some (oV (tbF TT ((m5 * 30323 % 1000003 + 3 * (0 + ((i : Nat) : Int))) % ((gv.length : Nat) : Int)))),some (.ref l),y8]∧Same Hy Hz∧Hz l = some (.lst (cs.map V.int))∧cs.length = j) ⟨[],_,by rw [hv]; rfl,ah hl0 _,ae,rfl⟩ (fun j σ Hz hj h=>?_) (fun σ Hz h=>?_)⟩
      · obtain ⟨cs,y8,rfl,sz,hz,hcl⟩:=h
        refine ⟨_,rfl,.inl ⟨rfl,_,SqL.of hz⟩,_,rfl,_,rfl,_,_,rfl,rfl,a,ns,_,rfl,sz.seq (Sy.seq hS2),by omega,fun m6=>?_⟩
        refine ⟨_,rfl,_,_,rfl,rfl,_,rfl,_,_,rfl,rfl,.inl ⟨by omega,by omega⟩,_,rfl,_,_,rfl,rfl,.inr ⟨by omega,by omega⟩,_,_,rfl,rfl,_,_,rfl,rfl,.inr ⟨by decide,by decide⟩,_,_,rfl,rfl,(show (0 : Int) < 60013 by decide),l,_,_,rfl,rfl,hz,(fg (m:=1000) (by rw [List.length_map]; omega)),?_⟩
        exact ⟨cs ++ [(m6 + (0 + ((i : Nat) : Int) + 5) * (0 + ((j : Nat) : Int)) * (0 + ((j : Nat) : Int))) * 48271 % 60013],_,rfl,sz.put hl0 _,by rw [ae,List.map_append]; rfl,by rw [List.length_append,hcl]; rfl⟩
      · obtain ⟨cs,y8,rfl,sz,hz,hcl⟩:=h
        have mm:=Int.emod_nonneg ((m5 * 30323 % 1000003 + 1) ^ (11 : Int).toNat) (show (10 ^ (61 : Int).toNat : Int) ≠ 0 by decide)
        have Sz:=Sy.trans (Sm.of sz)
        refine ⟨_,rfl,_,rfl,_,rfl,_,rfl,_,_,rfl,rfl,_,_,rfl,rfl,⟨by decide,by decide,by omega⟩,_,_,rfl,rfl,⟨by decide,by decide,by decide⟩,_,_,rfl,rfl,(show (0 : Int) < 10 ^ (61 : Int).toNat by decide),_,rfl,?_⟩
        refine ⟨.ref g0,_,_,l,cs,G,TT,ws,rfl,mono_pu.up Sz hG2,g,hh,by omega,few2,cb,tby.up sz,p0,p1,mm,sol,bM hz,by omega,fun H9 S9 tb9=>?_⟩
        exact ⟨true,rfl,bj ⟨_,_,_,_,_,_,rfl,Sz.trans S9,tb9⟩⟩
  · obtain ⟨y3,y4,y5,y6,y7,y8,rfl,Sy,tby⟩:=h
    exact q _
theorem main {f : Addr} {fd : FuncData} (T : Txt mg)
    {C_PursePlay : Addr} (CL_PursePlay : ClsAt K mg "PursePlay" C_PursePlay ["hand","at","left","rule","owners","amounts"])
    (LM_least_needy : fC K mg "least_needy")
    (LM_most_needy : fC K mg "most_needy")
    (NE_least_needy_most_needy : aH K "least_needy" ≠ aH K "most_needy")
    (A_is_whole : DefAt K mg "is_whole" cF ["value"])
    (A_is_place : DefAt K mg "is_place" cA ["value","count"])
    (A_need_by : DefAt K mg "need_by" cV ["purses","place","amount"])
    (A_need_order : DefAt K mg "need_order" bX ["need"])
    (A_is_more : DefAt K mg "is_more" cX ["need","other"])
    (A_least_needy : DefAt K mg "least_needy" bo ["ways","purses"])
    (A_most_needy : DefAt K mg "most_needy" bE ["ways","purses"])
    (A_check_rule : DefAt K mg "check_rule" bR ["game","hand","rule"])
    (A_check_spender : DefAt K mg "check_spender" aY ["game","rule"])
    (A_ways_left : DefAt K mg "ways_left" cr ["game","rule"])
    (A_add_gains : DefAt K mg "add_gains" cp ["gains","ways","place"])
    (A_comes_back : DefAt K mg "comes_back" bD ["left","start"])
    (A_needs_left : DefAt K mg "needs_left" bF ["left"])
    (A_needs : DefAt K mg "needs" eM ["game","rule"])
    (A_bettered : DefAt K mg "bettered" cJ ["game","rule","table"])
    (A_betterings : DefAt K mg "betterings" bC ["game"])
    (A_solved_purses : DefAt K mg "solved_purses" bn ["game"])
    (A_check_start : DefAt K mg "check_start" bJ ["start","count"])
    (A_check_due : DefAt K mg "check_due" ck ["due"])
    (A_check_way : DefAt K mg "check_way" ci ["place","outs"])
    (A_PursePlay___init__ : MkAt K C_PursePlay "PursePlay.__init__" aA ["self","game","start","purse"])
    (A_PursePlay_pass_on : MeAt K C_PursePlay "pass_on" "PursePlay.pass_on" aR ["self","place"])
    (A_PursePlay_go : MeAt K C_PursePlay "go" "PursePlay.go" bv ["self"])
    (A_PursePlay_other : MeAt K C_PursePlay "other" "PursePlay.other" be ["self","place"])
    (A_law_cell_at : DefAt K mg "_law_cell_at" bH ["_law_script","_law_k"])
    (A_law_height : DefAt K mg "_law_height" bT ["_law_script","_law_k"])
    (A_law_game : DefAt K mg "_law_game" cK ["_law_script"])
    (A_law_closed : DefAt K mg "_law_closed" bW ["_law_pile","_law_place","_law_purse"])
    (A_law_gone : DefAt K mg "_law_gone" b7 ["_law_play","_law_game_here","_law_hand","_law_cells"])
    (A_law_at : DefAt K mg "_law_at" dD ["_law_game_here","_law_start","_law_least","_law_more","_law_cells"])
    (F : Fun K "law" "law" fz f fd) : FnOk P w K mg base CX0 12 f fd ["_law_script"] (spLaw K):=by
  have iw:=jA (P:=P) (w:=w) (base:=base) A_is_whole T
  have ip:=jU A_is_place T iw
  have nb:=lX (P:=P) (w:=w) (base:=base) A_need_by T
  have od:=oo (P:=P) (w:=w) (base:=base) A_need_order T
  have mo:=pP A_is_more T od
  have ln:=sF A_least_needy T LM_least_needy nb od
  have mn:=sv A_most_needy T LM_most_needy nb od
  have nl:=sC A_needs_left T (pD A_comes_back T (rV A_add_gains T)) ln nb mo
  have nd:=oK A_needs T (kc A_check_spender T (pK A_check_rule T iw)) (qF A_ways_left T) nl
  have bs:=qx A_betterings T nd (jC A_bettered T mn nb mo)
  have sp:=pV A_solved_purses T bs ln
  have du:=pq (P:=P) (w:=w) (base:=base) A_check_due T
  have pa:=pF (P:=P) (w:=w) (base:=base) A_PursePlay_pass_on T CL_PursePlay
  have go:=rG A_PursePlay_go T CL_PursePlay du pa
  have ot:=pc A_PursePlay_other T CL_PursePlay du (rL A_check_way T iw) pa
  have it:=n6 A_PursePlay___init__ T CL_PursePlay (nU A_check_start T ip) sp mo
  have ce:=qD (P:=P) (w:=w) (base:=base) A_law_cell_at T
  exact rm F T NE_least_needy_most_needy ce (pz A_law_game T ce (mB A_law_height T ce)) sp (tm A_law_at T CL_PursePlay it (qt A_law_gone T CL_PursePlay go ot (mt A_law_closed T)))
end
def askedOf:=({ ks:=[(.df "is_whole",cF,none),(.df "is_place",cA,none),(.df "need_by",cV,none),(.df "need_order",bX,none),(.df "is_more",cX,none),(.df "least_needy",bo,none),(.df "most_needy",bE,none),(.df "check_rule",bR,none),(.df "check_spender",aY,none),(.df "ways_left",cr,none),(.df "add_gains",cp,none),(.df "comes_back",bD,none),(.df "needs_left",bF,none),(.df "needs",eM,none),(.df "bettered",cJ,none),(.df "betterings",bC,none),(.df "solved_purses",bn,none),(.df "check_start",bJ,none),(.df "check_due",ck,none),(.df "check_way",ci,none),(.me "PursePlay" "__init__" "PursePlay.__init__",aA,none),(.me "PursePlay" "pass_on" "PursePlay.pass_on",aR,none),(.me "PursePlay" "go" "PursePlay.go",bv,none),(.me "PursePlay" "other" "PursePlay.other",be,none),(.df "_law_cell_at",bH,none),(.df "_law_height",bT,none),(.df "_law_game",cK,none),(.df "_law_closed",bW,none),(.df "_law_gone",b7,none),(.df "_law_at",dD,none),(.df "law",fz,none)],cs:=[("PursePlay",["hand","at","left","rule","owners","amounts"])],is:=[],ss:=[],bs:=["bool","dict","enumerate","int","isinstance","len","list","max","min","range","set","sorted","zip"],xc:=fun K=>true,ext:=fun K=>((aH K "least_needy" == aH K "most_needy"),()),extW:=fun w=>(false,()) } : Asked _)
theorem all_mk {P : Program} {w : World} {K : PySem.W.Frag} {h : Heap} {mg : Str→Option Value} {fa : Addr} (e : askedOf.Ok w K) (X : K.In h) (TI : TabsIn ["least_needy","most_needy"] K h) (G : h.Ns mainGlobals mg) (hfa : mg "law" = some (.ref fa)) :
    ∃ fd : FuncData,(∀ (s : Shared) (v : Value),BindsTo s fd ⟨[v],[]⟩ [("_law_script",v)])∧∀ base : Heap,K.In base→base.Ns mainGlobals mg→FnOk P w K mg base CX0 12 fa fd ["_law_script"] (spLaw K):=by
  have T : Txt mg:=⟨e.noneAt X G 0 rfl,e.noneAt X G 1 rfl,e.noneAt X G 2 rfl,e.noneAt X G 3 rfl,e.noneAt X G 4 rfl,e.noneAt X G 5 rfl,e.noneAt X G 6 rfl,e.noneAt X G 7 rfl,e.noneAt X G 8 rfl,e.noneAt X G 9 rfl,e.noneAt X G 10 rfl,e.noneAt X G 11 rfl,e.noneAt X G 12 rfl⟩
  obtain ⟨C_PursePlay,cA_PursePlay,cM_PursePlay,cK_PursePlay,CL_PursePlay⟩:=e.cls X G 0 rfl
  have LM_least_needy : fC K mg "least_needy":=jv X G TI (by simp)
  have LM_most_needy : fC K mg "most_needy":=jv X G TI (by simp)
  have NE_least_needy_most_needy : aH K "least_needy" ≠ aH K "most_needy":=fun z=>by
    have zz : (aH K "least_needy" == aH K "most_needy") = false:=congrArg (fun p=>p.1) e.more
    rw [z,beq_self_eq_true] at zz
    cases zz
  have A0 : DefAt K mg "is_whole" cF ["value"]:=e.defAt X G 0 rfl (fun _ _ _ _ _ _=>L2.arg1 fun _=>rfl)
  have A1 : DefAt K mg "is_place" cA ["value","count"]:=e.defAt X G 1 rfl (fun _ _ _ _ _ _=>L2.arg2 fun _ _=>rfl)
  have A2 : DefAt K mg "need_by" cV ["purses","place","amount"]:=e.defAt X G 2 rfl (fun _ _ _ _ _ _=>L2.arg3 fun _ _ _=>rfl)
  have A3 : DefAt K mg "need_order" bX ["need"]:=e.defAt X G 3 rfl (fun _ _ _ _ _ _=>L2.arg1 fun _=>rfl)
  have A4 : DefAt K mg "is_more" cX ["need","other"]:=e.defAt X G 4 rfl (fun _ _ _ _ _ _=>L2.arg2 fun _ _=>rfl)
  have A5 : DefAt K mg "least_needy" bo ["ways","purses"]:=e.defAt X G 5 rfl (fun _ _ _ _ _ _=>L2.arg2 fun _ _=>rfl)
  have A6 : DefAt K mg "most_needy" bE ["ways","purses"]:=e.defAt X G 6 rfl (fun _ _ _ _ _ _=>L2.arg2 fun _ _=>rfl)
  have A7 : DefAt K mg "check_rule" bR ["game","hand","rule"]:=e.defAt X G 7 rfl (fun _ _ _ _ _ _=>L2.arg3 fun _ _ _=>rfl)
  have A8 : DefAt K mg "check_spender" aY ["game","rule"]:=e.defAt X G 8 rfl (fun _ _ _ _ _ _=>L2.arg2 fun _ _=>rfl)
  have A9 : DefAt K mg "ways_left" cr ["game","rule"]:=e.defAt X G 9 rfl (fun _ _ _ _ _ _=>L2.arg2 fun _ _=>rfl)
  have A10 : DefAt K mg "add_gains" cp ["gains","ways","place"]:=e.defAt X G 10 rfl (fun _ _ _ _ _ _=>L2.arg3 fun _ _ _=>rfl)
  have A11 : DefAt K mg "comes_back" bD ["left","start"]:=e.defAt X G 11 rfl (fun _ _ _ _ _ _=>L2.arg2 fun _ _=>rfl)
  have A12 : DefAt K mg "needs_left" bF ["left"]:=e.defAt X G 12 rfl (fun _ _ _ _ _ _=>L2.arg1 fun _=>rfl)
  have A13 : DefAt K mg "needs" eM ["game","rule"]:=e.defAt X G 13 rfl (fun _ _ _ _ _ _=>L2.arg2 fun _ _=>rfl)
  have A14 : DefAt K mg "bettered" cJ ["game","rule","table"]:=e.defAt X G 14 rfl (fun _ _ _ _ _ _=>L2.arg3 fun _ _ _=>rfl)
  have A15 : DefAt K mg "betterings" bC ["game"]:=e.defAt X G 15 rfl (fun _ _ _ _ _ _=>L2.arg1 fun _=>rfl)
  have A16 : DefAt K mg "solved_purses" bn ["game"]:=e.defAt X G 16 rfl (fun _ _ _ _ _ _=>L2.arg1 fun _=>rfl)
  have A17 : DefAt K mg "check_start" bJ ["start","count"]:=e.defAt X G 17 rfl (fun _ _ _ _ _ _=>L2.arg2 fun _ _=>rfl)
  have A18 : DefAt K mg "check_due" ck ["due"]:=e.defAt X G 18 rfl (fun _ _ _ _ _ _=>L2.arg1 fun _=>rfl)
  have A19 : DefAt K mg "check_way" ci ["place","outs"]:=e.defAt X G 19 rfl (fun _ _ _ _ _ _=>L2.arg2 fun _ _=>rfl)
  have A20 : MkAt K C_PursePlay "PursePlay.__init__" aA ["self","game","start","purse"]:=e.mkAt 20 cA_PursePlay cM_PursePlay cK_PursePlay rfl (fun _ _ _ _ _ _=>L2.arg4 fun _ _ _ _=>rfl)
  have A21 : MeAt K C_PursePlay "pass_on" "PursePlay.pass_on" aR ["self","place"]:=e.meAt 21 cA_PursePlay rfl (fun _ _ _ _ _ _=>L2.arg2 fun _ _=>rfl)
  have A22 : MeAt K C_PursePlay "go" "PursePlay.go" bv ["self"]:=e.meAt 22 cA_PursePlay rfl (fun _ _ _ _ _ _=>L2.arg1 fun _=>rfl)
  have A23 : MeAt K C_PursePlay "other" "PursePlay.other" be ["self","place"]:=e.meAt 23 cA_PursePlay rfl (fun _ _ _ _ _ _=>L2.arg2 fun _ _=>rfl)
  have A24 : DefAt K mg "_law_cell_at" bH ["_law_script","_law_k"]:=e.defAt X G 24 rfl (fun _ _ _ _ _ _=>L2.arg2 fun _ _=>rfl)
  have A25 : DefAt K mg "_law_height" bT ["_law_script","_law_k"]:=e.defAt X G 25 rfl (fun _ _ _ _ _ _=>L2.arg2 fun _ _=>rfl)
  have A26 : DefAt K mg "_law_game" cK ["_law_script"]:=e.defAt X G 26 rfl (fun _ _ _ _ _ _=>L2.arg1 fun _=>rfl)
  have A27 : DefAt K mg "_law_closed" bW ["_law_pile","_law_place","_law_purse"]:=e.defAt X G 27 rfl (fun _ _ _ _ _ _=>L2.arg3 fun _ _ _=>rfl)
  have A28 : DefAt K mg "_law_gone" b7 ["_law_play","_law_game_here","_law_hand","_law_cells"]:=e.defAt X G 28 rfl (fun _ _ _ _ _ _=>L2.arg4 fun _ _ _ _=>rfl)
  have A29 : DefAt K mg "_law_at" dD ["_law_game_here","_law_start","_law_least","_law_more","_law_cells"]:=e.defAt X G 29 rfl (fun _ _ _ _ _ _=>L2.arg5 fun _ _ _ _ _=>rfl)
  obtain ⟨kV,doc,pm,an,cdv,ct,FL⟩:=e.law X G 30 rfl hfa
  exact ⟨_,fun s v=>.of_eq rfl,fun base _ _=>main (P:=P) (w:=w) (base:=base) T CL_PursePlay LM_least_needy LM_most_needy NE_least_needy_most_needy A0 A1 A2 A3 A4 A5 A6 A7 A8 A9 A10 A11 A12 A13 A14 A15 A16 A17 A18 A19 A20 A21 A22 A23 A24 A25 A26 A27 A28 A29 FL⟩
def asL : List Nat:=[0,1,2,3,4,5,6,7,8,9,10,11,12,13,14,15,22,23,24,25,28,35,36,37,40,47,48,49,52,53,54,55,56,57,58,59,60,61,62,63,64,65,66,67,68,69,70,71,72,73,74,75,76,77,78,79,80,81,82,83,84,85,86,87,88,89,90,91,92,93,94,95,96,97,98,99,100,101,102,103,104,105,106,107,108,109,110,111,112,113,114,115,116,117,118,119,120,121,122,123,124,125,126,127,128,129,130,131,132,133,134,135,136,137,138,139,140,141,142,143,144,145,146,147,148,149,150,151,152,153,154,155,156,157,158,159,160,161,162,163,164,165,166,167,168,169,170,171,172,173,174,175,176,177,178,179,180,181,182,183,191,192,193,194,195,196,197,198,199,200,201,202,203,204,205,206,207,208,209,210,211,212,213,214,215,216,217,218,219,220,221,224,225,226,227,228,229,230,231,232,233,234,235,236,237,238,239,240,241,242,243,244,245,246,247,248,249,250,251,252,253,254,255,256,257,258,259,260,261,262,263,264,265,266,267,268,269,270]
def qV : Program:=PySem.W.view PySem.Challenge.pw_rankgarth_k64_whole_one_less [37]
def loV : List Str:=(PySem.Challenge.pw_rankgarth_k64_whole_one_less.main.scope.names.map (·.1)).filter fun x=>!(x == "law")
def xtV (s : Shared) : Bool:=PySem.W.xlAt qV [] s && PySem.W.recOk (PySem.W.RowW.records PySem.Challenge.rw_rankgarth_k64_whole_one_less.row.toRowW) s
def dL : PySem.DefRec:=⟨"law",bZ fz,aX fz,af fz,tj fz⟩
set_option maxHeartbeats 0
theorem mv : PySem.W.opening PySem.Challenge.pw_rankgarth_k64_whole_one_less = PySem.W.plainProg PySem.Challenge.pw_rankgarth_k64_whole_one_less.main.scope.names:=by kernel_rfl
theorem oN (w : World) (os : OsState) : (eW PySem.Challenge.pw_rankgarth_k64_whole_one_less w 11 (some (.ref 6)) 3792 ⟨iI w.params,11,{},Array.mk [],PySem.W.boot_drawn,PySem.W.boot_toks,os⟩ (PySem.W.topStub PySem.Challenge.pw_rankgarth_k64_whole_one_less)).map (fun r=>i4 PySem.Challenge.pw_rankgarth_k64_whole_one_less qV loV xtV true (fun s=>(askedOf.look (partN asL s.heap),(["least_needy","most_needy"] : List Str).all fun x=>mU (partN asL s.heap) s.heap x)) (PySem.W.boot_heap w.params) r.abs) = some (true,PySem.W.openGood qV loV,(askedOf.want w,true)):=by kernel_rfl
theorem head_left : PySem.W.LeftO PySem.Challenge.rw_rankgarth_k64_whole_one_less.row.prog qV loV xtV (fun s=>(askedOf.look (partN asL s.heap),(["least_needy","most_needy"] : List Str).all fun x=>mU (partN asL s.heap) s.heap x)) (fun w=>(askedOf.want w,true)) 3792 :=
  mj (p:=PySem.Challenge.pw_rankgarth_k64_whole_one_less) (H₀:=PySem.W.boot_heap) (gs₀:=Array.mk []) (d₀:=PySem.W.boot_drawn) (k₀:=PySem.W.boot_toks) (m₀:=11) (ann:=some (.ref 6)) (M:=3792) (T₀:=iI) (n₀:=11) (life:={}) (PySem.W.boot_open mv (by decide +kernel) fun s=>by kernel_rfl) (fun w=>by kernel_rfl) (fun P=>by kernel_rfl) oN (by decide +kernel)
end Law
open PySem PySem.W PyProof.Rows
set_option maxRecDepth 100000 in
set_option maxHeartbeats 0 in
theorem PySem.Challenge.cw_rankgarth_k64_whole_one_less_holds : PySem.Challenge.rw_rankgarth_k64_whole_one_less.Holds := by
  refine PySem.W.holds_law (by kernel_rfl) fun said=>?_
  refine PySem.W.holds_open (q:=Law.qV) (loose:=Law.loV) (Xt:=Law.xtV) (XP:=XL Law.qV []) (YP:=fun w h=>∃ K : Frag,K.In h∧Law.askedOf.Ok w K∧L2.TabsIn ["least_needy","most_needy"] K h) (d:=Law.dL) (kwd:=[]) Law.head_left (fun w s e=>⟨L2.partN Law.asL s.heap,L2.partN_in _ _,(Prod.mk.inj e).1,L2.TabsIn.of (Prod.mk.inj e).2⟩) (fun w h h' y k=>y.elim fun K z=>⟨K,z.1.keeps k,z.2.1,z.2.2.keeps k⟩) (fun s e=>xl_of s (Bool.and_eq_true_iff.mp e).1) XL.keeps (by kernel_rfl) (by kernel_rfl) (by kernel_rfl) (fun s e=>recFacts_of (Bool.and_eq_true_iff.mp e).2) (by kernel_rfl) said (by kernel_rfl) ⟨rfl,rfl,rfl,rfl,rfl,by decide +kernel⟩ ?hw ?hc
  case hw=>w_witness2
  case hc=>exact L2.walk_exT (l:=PySem.Challenge.rw_rankgarth_k64_whole_one_less) (n:=63) (k:=12) (x := "_law_script") (nm := "law") (sp:=Law.spLaw) (xs:=["least_needy","most_needy"]) (Fc:=fun w K=>Law.askedOf.Ok w K) rfl (by decide) (by kernel_rfl) ⟨rfl,by decide,by decide⟩ (by kernel_rfl) (fun w K mg fa h e X ti G hm=>Law.all_mk e X ti G hm) (fun _ _ a ns hl hT hS=>⟨a,ns,rfl,hS,hT,hl,fun _=>rfl⟩)
