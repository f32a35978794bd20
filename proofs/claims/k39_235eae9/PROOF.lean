import PyProof.Rows.All
import Wide.All
import OpenK.AllK
import Wide.FinOn
import Lean
import PyProof.EqAt
import PyProof.EqKinds
import PyProof.TupleCall
import PyProof.NeKinds
import KE.KDictSum
import PyProof.Rows.SetFrom
import KE.KSortTup
import KE.KLam
import KE.KMinKey
import PySem.Challenge.RW_rankgarth_k39_whole_ways_by_purses
set_option linter.all false
set_option Elab.async false
set_option maxRecDepth 100000
set_option maxHeartbeats 4000000
namespace L2
open PySem PySem.Spec PyProof.Rows
abbrev Key:=Sum Int Str
def jf : Key→Value→Bool
  | .inl k,v=>Value.isInt k v
  | .inr x,v=>Value.isStrOf x v
def vw (w : World) : Key→Int
  | .inl k=>hashInt k
  | .inr x=>hashStr w x
theorem be : ∀ {k : Key} {v : Value},jf k v = true→(∃ i t,k = Sum.inl i∧v = Value.int i t) ∨ (∃ x t,k = Sum.inr x∧v = Value.str x t)
  | .inl i,v,h=>by
    obtain ⟨t,e⟩:=Value.isInt_shape (k:=i) (v:=v) h
    exact .inl ⟨i,t,rfl,e⟩
  | .inr x,v,h=>by
    obtain ⟨t,e⟩:=Value.isStrOf_shape (x:=x) (v:=v) h
    exact .inr ⟨x,t,rfl,e⟩
theorem nn (i : Int) (t : Tok) : jf (.inl i) (.int i t) = true:=by simp [jf,Value.isInt]
theorem n4 (x : Str) (t : Tok) : jf (.inr x) (.str x t) = true:=by simp [jf,Value.isStrOf]
theorem ut (a b : Int) : decide ((Sum.inl a : Key) = Sum.inl b) = (a == b):=by
  by_cases e : a = b
  · subst e; simp
  · have h : ¬ (Sum.inl a : Key) = Sum.inl b:=fun q=>e (Sum.inl.inj q)
    rw [decide_eq_false h]
    exact (beq_eq_false_iff_ne.mpr e).symm
theorem t4 (a b : Str) : decide ((Sum.inr a : Key) = Sum.inr b) = decide (a = b):=by
  by_cases e : a = b
  · subst e; simp
  · have h : ¬ (Sum.inr a : Key) = Sum.inr b:=fun q=>e (Sum.inr.inj q)
    rw [decide_eq_false h,decide_eq_false e]
theorem tM (a : Int) (b : Str) : decide ((Sum.inl a : Key) = Sum.inr b) = false:=decide_eq_false (fun q=>nomatch q)
theorem uz (a : Str) (b : Int) : decide ((Sum.inr a : Key) = Sum.inl b) = false:=decide_eq_false (fun q=>nomatch q)
def bh (prog : Program) (w : World) : PySem.KeyKind prog w Key where
  is:=jf
  hash:=vw w
  inj := fun v a b ha hb=>by
    rcases be ha with ⟨i,t,rfl,rfl⟩ | ⟨x,t,rfl,rfl⟩
    · rcases be hb with ⟨j,u,rfl,e⟩ | ⟨y,u,rfl,e⟩
      · injection e with e1 _; rw [e1]
      · exact nomatch e
    · rcases be hb with ⟨j,u,rfl,e⟩ | ⟨y,u,rfl,e⟩
      · exact nomatch e
      · injection e with e1 _; rw [e1]
  byValue:=fun k v h=>by
    rcases be h with ⟨i,t,rfl,rfl⟩ | ⟨x,t,rfl,rfl⟩ <;> rfl
  pyHash:=fun hv h=>by
    rcases be hv with ⟨i,t,rfl,rfl⟩ | ⟨x,t,rfl,rfl⟩
    · exact wpAny_pyHash_int h
    · exact wpAny_pyHash_str h
  eqBool:=fun hu hv h=>by
    rcases be hu with ⟨i,t,rfl,rfl⟩ | ⟨x,t,rfl,rfl⟩
    · rcases be hv with ⟨j,u,rfl,rfl⟩ | ⟨y,u,rfl,rfl⟩
      · rw [ut] at h; exact wpAny_eqBool_int h
      · rw [tM] at h; exact SeqAt.EqAt.int_str i t y u _ _ _ _ h
    · rcases be hv with ⟨j,u,rfl,rfl⟩ | ⟨y,u,rfl,rfl⟩
      · rw [uz] at h; exact SeqAt.EqAt.str_int x t j u _ _ _ _ h
      · rw [t4] at h; exact wpAny_eqBool_str h
  «strs»:=fun k x t v h=>by
    rcases be h with ⟨i,u,rfl,e⟩ | ⟨y,u,rfl,e⟩
    · exact nomatch e
    · injection e with e1 _
      subst e1
      cases v <;> rfl
theorem kd (prog : Program) (w : World) (i : Int) (t : Tok) : (bh prog w).is (.inl i) (.int i t) = true:=nn i t
theorem lj (prog : Program) (w : World) (x : Str) (t : Tok) : (bh prog w).is (.inr x) (.str x t) = true:=n4 x t
inductive V where
  | non | bl (b : Bool) | int (i : Int) | str (x : Str) | byt (b : Array UInt8) | flt (b : UInt64) | ref (a : Addr) | ty (n : String)
  deriving DecidableEq
def RelV : V→Value→Prop
  | .non,u=>u = Value.none
  | .bl b,u=>u = Value.bool b
  | .int i,u=>∃ t,u = Value.int i t
  | .str x,u=>∃ t,u = Value.str x t
  | .byt b,u=>∃ t,u = Value.bytes b t
  | .flt b,u=>∃ t,u = Value.float b t
  | .ref a,u=>u = Value.ref a
  | .ty n,u=>u = Value.type n
abbrev Vals : List V→List Value→Prop:=Paired RelV
theorem Vals.length {xs : List V} {us : List Value} (r : Vals xs us) : xs.length = us.length:=Paired.length r
theorem Vals.get : ∀ {xs : List V} {us : List Value} {i : Nat} {x : V},Vals xs us→xs[i]? = some x→∃ u,us[i]? = some u∧RelV x u
  | _,_,_,_,.nil,e=>by simp at e
  | _,_,0,_,.cons r _,e=>by simp at e; subst e; exact ⟨_,rfl,r⟩
  | _,_,i + 1,x,.cons _ t,e=>by
    obtain ⟨u,h1,h2⟩:=Vals.get (i:=i) (x:=x) t (by simpa using e)
    exact ⟨u,by simpa using h1,h2⟩
theorem Vals.set {x : V} {u : Value} (r : RelV x u) : ∀ {xs : List V} {us : List Value} (i : Nat),Vals xs us→Vals (xs.set i x) (us.set i u)
  | _,_,_,.nil=>.nil
  | _,_,0,.cons _ t=>.cons r t
  | _,_,i + 1,.cons q t=>.cons q (Vals.set r i t)
theorem Vals.append : ∀ {xs ys : List V} {us ws : List Value},Vals xs us→Vals ys ws→Vals (xs ++ ys) (us ++ ws)
  | _,_,_,_,.nil,s=>s
  | _,_,_,_,.cons r t,s=>.cons r (Vals.append t s)
def RelO : Option V→Option Value→Prop
  | some v,some u=>RelV v u
  | none,none=>True
  | _,_=>False
def KV {κ : Type} : List (κ × V)→List (κ × Value)→Prop:=Paired fun (p : κ × V) (q : κ × Value)=>p.1 = q.1∧RelV p.2 q.2
def kV : Key→V
  | .inl i=>.int i
  | .inr x=>.str x
inductive HO where
    | lst (xs : List V)
    | tup (xs : List V)
    | dK (kvs : List (Key × V)) | dT (kvs : List (List Key × V))
    | set (S : Int→Bool) (n : Nat)
    | ins (C dx : Addr) (fs : List (Str × V))
    | own (x : Addr)
    | xd (fs : List (Str × V))
    | met (f x : Addr)
    | rng (lo hi : Int)
    | frz (o : Obj) (u : HO)
    | tbl (ps : Array Value)
    | ext (φ : Heap→Prop)
abbrev Hp:=Addr→Option HO
def upd (H : Hp) (a : Addr) (o : HO) : Hp:=fun b=>if b = a then some o else H b
theorem ae {H : Hp} {a : Addr} {o : HO} : upd H a o a = some o:=by unfold upd; rw [if_pos rfl]
theorem ar {H : Hp} {a b : Addr} {o : HO} (h : b ≠ a) : upd H a o b = H b:=by unfold upd; rw [if_neg h]
theorem mW {H : Hp} {a : Addr} {o u : HO} : upd (upd H a o) a u = upd H a u:=by
  funext b; unfold upd; split <;> rfl
theorem aC {H : Hp} {a b : Addr} {o : HO} (h : H a = some o) (h' : H b = none) : a ≠ b:=by
  intro e; subst e; rw [h] at h'; cases h'
section
variable (P : Program) (w : World)
def ObjOk (H : Hp) (h : Heap) (a : Addr) : HO→Prop
  | .lst xs=>xs.length ≤ sizeLine∧∃ (its : List Value) (n : Nat),Vals xs its∧h.get? a = some { cls:=.type "list",data:=.seq its.toArray n }
  | .tup xs=>xs.length ≤ sizeLine∧∃ its : List Value,Vals xs its∧IsTup h a its.toArray
  | .dK kvs=>kvs.length ≤ sizeLine∧(a == sysModules) = false∧∃ vs,KV kvs vs∧h.DictOf (bh P w) a vs
  | .dT kvs=>kvs.length ≤ sizeLine∧(a == sysModules) = false∧∃ xs : List (List Key × Addr × Value),
      Paired (fun (p : List Key × V) (q : List Key × Addr × Value)=>p.1 = q.1∧H q.2.1 = some (.tup (p.1.map kV))∧RelV p.2 q.2.2) kvs xs ∧
      ∃ o es ep,h.get? a = some o∧o.ExactDict∧o.data = .dict es ep∧es.toList = xs.map (entryOfKey (tupleKind (bh P w)))∧(xs.map (·.1)).Nodup
  | .set S n=>h.SetOf (intKind P w) a S n
  | .ins C dx fs=>H dx = some (.own a)∧fs.length ≤ 1000∧dx ≠ a∧h.get? a = some (PySem.W.instObj C dx) ∧
      ∃ mA,h.Ns1 dx mA∧(∀ f,RelO (fs.lookup f) (mA f))∧PySem.Within mA (fs.map (·.1))
  | .own _=>∃ o,h.get? a = some o
  | .xd fs=>∃ mA,h.Ns1 a mA∧∀ f,RelO (fs.lookup f) (mA f)
  | .rng lo hi=>∃ t u v,h.get? a = some { cls:=.type "range",data:=.fields #[.int lo t,.int hi u,.int 1 v] }
  | .frz o u=>h.get? a = some o∧ObjOk H h a u
  | .tbl ps=>h.get? a = some { cls:=.none,data:=.fields ps }
  | .met f x=>h.get? a = some (PySem.W.methodObj (.ref f) (.ref x))
  | .ext φ=>φ h∧(∃ o,h.get? a = some o)∧∀ h1 h2 : Heap,φ h1→(∀ o,h1.get? a = some o→h2.get? a = some o)→φ h2
def HOk (H : Hp) (h : Heap) : Prop:=∀ a o,H a = some o→ObjOk P w H h a o
end
section
variable {P : Program} {w : World} {H H' : Hp} {h h' : Heap} {a : Addr} {o : HO}
theorem ObjOk.lt (x : ObjOk P w H h a o) : a < h.objs.size:=by
  cases o with
  | lst xs=>obtain ⟨_,_,_,_,e⟩:=x; exact Heap.lt_size e
  | tup xs=>obtain ⟨_,_,_,p⟩:=x; exact p.lt
  | dK kvs=>obtain ⟨_,_,_,_,o,_,_,e,_⟩:=x; exact Heap.lt_size e
  | dT kvs=>obtain ⟨_,_,_,_,o,_,_,e,_⟩:=x; exact Heap.lt_size e
  | set S n=>obtain ⟨o,_,_,_,e,_⟩:=x; exact Heap.lt_size e
  | ins C dx fs=>obtain ⟨_,_,_,e,_⟩:=x; exact Heap.lt_size e
  | own y=>obtain ⟨_,e⟩:=x; exact Heap.lt_size e
  | xd fs=>obtain ⟨_,⟨_,_,_,e,_⟩,_⟩:=x; exact Heap.lt_size e
  | rng lo hi=>obtain ⟨_,_,_,e⟩:=x; exact Heap.lt_size e
  | frz ob u=>obtain ⟨e,_⟩:=x; exact Heap.lt_size e
  | tbl ps=>exact Heap.lt_size (show h.get? a = some _ from x)
  | met f y=>exact Heap.lt_size (show h.get? a = some _ from x)
  | ext φ=>obtain ⟨_,⟨_,e⟩,_⟩:=x; exact Heap.lt_size e
theorem Paired.mapP {α β : Type} {F G : α→β→Prop} : ∀ {l₁ : List α} {l₂ : List β},Paired F l₁ l₂→(∀ a b,F a b→G a b)→Paired G l₁ l₂
  | _,_,.nil,_=>.nil
  | _,_,.cons r t,f=>.cons (f _ _ r) (Paired.mapP t f)
theorem ObjOk.stay (x : ObjOk P w H h a o) (k : ∀ b u,(b = a ∨ H b = some (.own a))→h.get? b = some u→h'.get? b = some u)
    (ho : ∀ b,H b = some (.own a)→H' b = some (.own a)) (ht : ∀ b xs,H b = some (.tup xs)→H' b = some (.tup xs)) : ObjOk P w H' h' a o:=by
  induction o with
  | lst xs=>obtain ⟨z,its,n,r,e⟩:=x; exact ⟨z,its,n,r,k _ _ (.inl rfl) e⟩
  | tup xs=>obtain ⟨z,its,r,ob,e,c⟩:=x; exact ⟨z,its,r,ob,k _ _ (.inl rfl) e,c⟩
  | dK kvs=>obtain ⟨z,y,vs,r,ob,es,ep,e,c⟩:=x; exact ⟨z,y,vs,r,ob,es,ep,k _ _ (.inl rfl) e,c⟩
  | dT kvs =>
    obtain ⟨z,y,xs,r,ob,es,ep,e,c⟩:=x
    exact ⟨z,y,xs,Paired.mapP r fun p q z=>⟨z.1,ht _ _ z.2.1,z.2.2⟩,ob,es,ep,k _ _ (.inl rfl) e,c⟩
  | set S n=>obtain ⟨ob,es,ep,t,e,c⟩:=x; exact ⟨ob,es,ep,t,k _ _ (.inl rfl) e,c⟩
  | ins C dx fs =>
    obtain ⟨d,z,ne,e,mA,⟨od,es,ep,e2,c⟩,r⟩:=x
    exact ⟨ho _ d,z,ne,k _ _ (.inl rfl) e,mA,⟨od,es,ep,k _ _ (.inr d) e2,c⟩,r⟩
  | own y=>obtain ⟨ob,e⟩:=x; exact ⟨ob,k _ _ (.inl rfl) e⟩
  | xd fs=>obtain ⟨mA,⟨od,es,ep,e,c⟩,r⟩:=x; exact ⟨mA,⟨od,es,ep,k _ _ (.inl rfl) e,c⟩,r⟩
  | rng lo hi=>obtain ⟨t,u,v,e⟩:=x; exact ⟨t,u,v,k _ _ (.inl rfl) e⟩
  | frz ob u ih=>obtain ⟨e,q⟩:=x; exact ⟨k _ _ (.inl rfl) e,ih q⟩
  | tbl ps =>
    have e : h.get? a = some { cls:=.none,data:=.fields ps }:=x
    show h'.get? a = some { cls:=.none,data:=.fields ps }
    exact k a _ (.inl rfl) e
  | met f y =>
    have e : h.get? a = some (PySem.W.methodObj (.ref f) (.ref y)):=x
    show h'.get? a = some (PySem.W.methodObj (.ref f) (.ref y))
    exact k a _ (.inl rfl) e
  | ext φ=>obtain ⟨p,⟨o,e⟩,st⟩:=x; exact ⟨st _ _ p fun o q=>k _ _ (.inl rfl) q,⟨o,k _ _ (.inl rfl) e⟩,st⟩
theorem HOk.lt (x : HOk P w H h) (e : H a = some o) : a < h.objs.size:=(x a o e).lt
theorem HOk.fresh (x : HOk P w H h) (e : h.objs.size ≤ a) : H a = none:=by
  cases q : H a with
  | none=>rfl
  | some u=>exact absurd (Nat.lt_of_lt_of_le (x.lt q) e) (Nat.lt_irrefl _)
theorem HOk.kept (x : HOk P w H h) (k : ∀ b u,h.get? b = some u→h'.get? b = some u) : HOk P w H h':=fun a o e =>
  (x a o e).stay (fun b u _ q=>k b u q) (fun _ q=>q) fun _ _ q=>q
theorem HOk.laid (x : HOk P w H h) (k : ∀ b u,h.get? b = some u→h'.get? b = some u) (hp : h.objs.size ≤ a) (new : ObjOk P w (upd H a o) h' a o) : HOk P w (upd H a o) h':=fun b u e=>by
  have hn:=x.fresh hp
  by_cases hb : b = a
  · subst hb; rw [ae] at e; cases e; exact new
  · rw [ar hb] at e
    exact (x b u e).stay (fun c v _ q=>k c v q) (fun c q=>by rw [ar (aC q hn)]; exact q) fun c xs q=>by rw [ar (aC q hn)]; exact q
end
def Rd (H : Hp) (a : Addr) (u : HO) : Prop:=H a = some u ∨ ∃ o,H a = some (.frz o u)
theorem Rd.ok {P : Program} {w : World} {H : Hp} {h : Heap} {a : Addr} {u : HO} (r : Rd H a u) (x : HOk P w H h) : ObjOk P w H h a u:=by
  rcases r with r | ⟨o,r⟩
  · exact x a u r
  · obtain ⟨_,q⟩:=x a _ r
    exact q
def Mut : Option HO→Prop
  | some (.lst _)=>True
  | some (.dK _)=>True
  | some (.dT _)=>True
  | some (.set _ _)=>True
  | some (.ins _ _ _)=>True
  | some (.ext _)=>True
  | _=>False
section
variable {P : Program} {w : World} {H : Hp} {h h' : Heap} {x e : Addr} {o' : HO}
theorem HOk.write (ok : HOk P w H h) (mu : Mut (H x)) (he : e = x ∨ H e = some (.own x)) (k : ∀ b u,b ≠ e→h.get? b = some u→h'.get? b = some u) (heo : ∃ u,h'.get? e = some u)
    (new : ObjOk P w (upd H x o') h' x o') : HOk P w (upd H x o') h':=fun b u q=>by
  have nown : ∀ c y,H c = some (.own y)→c ≠ x:=fun c y r z=>by subst z; rw [r] at mu; exact mu
  have ntup : ∀ c xs,H c = some (.tup xs)→c ≠ x:=fun c xs r z=>by subst z; rw [r] at mu; exact mu
  by_cases hb : b = x
  · subst hb; rw [ae] at q; cases q; exact new
  · rw [ar hb] at q
    by_cases hbe : b = e
    · have q' : H b = some (.own x):=by
        rcases he with z | z
        · exact absurd (hbe.trans z) hb
        · rw [hbe]; exact z
      rw [q] at q'; cases q'
      obtain ⟨v,hv⟩:=heo
      exact ⟨v,by rw [hbe]; exact hv⟩
    · refine (ok b u q).stay (fun c v hc r=>k c v ?_ r) (fun c r=>by rw [ar (nown c b r)]; exact r) fun c xs r=>by rw [ar (ntup c xs r)]; exact r
      rcases hc with rfl | hc
      · exact hbe
      · rintro rfl
        rcases he with z | z
        · exact nown c b hc z
        · rw [hc] at z; cases z; exact hb rfl
end
structure Un (fs ex : List Addr) (H H' : Hp) (h h' : Heap) : Prop where
  keep : ∀ b o,h.get? b = some o→H b = none→b ∉ fs→b ∉ ex→h'.get? b = some o
  slot : ∀ b o,h.get? b = some o→H b = none→b ∈ fs→b ∉ ex→∃ sl,h'.get? b = some { o with slots:=sl }
  free : ∀ b o,h.get? b = some o→H b = none→b ∉ ex→H' b = none
  there : ∀ b o,h.get? b = some o→b ∉ ex→∃ o',h'.get? b = some o'
  tups : ∀ b xs,H b = some (.tup xs)→H' b = some (.tup xs)
  frzs : ∀ b o u,H b = some (.frz o u)→H' b = some (.frz o u)
  tbls : ∀ b ps,H b = some (.tbl ps)→∃ more,H' b = some (.tbl (ps ++ more))
section
variable {fs fs' ex ex' : List Addr} {H H1 H2 : Hp} {h h1 h2 h' : Heap} {a x e : Addr} {o : HO}
theorem Un.any (u : Un fs ex H H1 h h1) {b : Addr} {ob : Obj} (q : h.get? b = some ob) (n : H b = none) (hx : b ∉ ex) : ∃ sl,h1.get? b = some { ob with slots:=sl }:=by
  by_cases hb : b ∈ fs
  · exact u.slot b ob q n hb hx
  · exact ⟨ob.slots,u.keep b ob q n hb hx⟩
theorem Un.kept (k : ∀ b u,h.get? b = some u→h'.get? b = some u) : Un fs ex H H h h' :=
  ⟨fun b ob q _ _ _=>k b ob q,fun b ob q _ _ _=>⟨ob.slots,k b ob q⟩,fun _ _ _ n _=>n,fun b ob q _=>⟨ob,k b ob q⟩,fun _ _ q=>q,fun _ _ _ q=>q,fun _ ps q=>⟨#[],by rw [q]; simp⟩⟩
theorem Un.refl : Un fs ex H H h h:=Un.kept fun _ _ q=>q
theorem Un.laid (k : ∀ b u,h.get? b = some u→h'.get? b = some u) (hp : h.objs.size ≤ a) (hn : H a = none) : Un fs ex H (upd H a o) h h' where
  keep:=fun b u q _ _ _=>k b u q
  slot:=fun b u q _ _ _=>⟨u.slots,k b u q⟩
  free:=fun b u q n _=>by rw [ar (Nat.ne_of_lt (Nat.lt_of_lt_of_le (Heap.lt_size q) hp))]; exact n
  there:=fun b u q _=>⟨u,k b u q⟩
  tups:=fun b xs q=>by rw [ar (aC q hn)]; exact q
  frzs:=fun b u xs q=>by rw [ar (aC q hn)]; exact q
  tbls:=fun b ps q=>⟨#[],by rw [ar (aC q hn),q]; simp⟩
theorem Un.write (mu : Mut (H x)) (he : e = x ∨ H e = some (.own x)) (k : ∀ b u,b ≠ e→h.get? b = some u→h'.get? b = some u) (heo : ∃ u,h'.get? e = some u) : Un fs ex H (upd H x o) h h':=by
  have hx : ∀ b,H b = none→b ≠ x:=fun b n z=>by subst z; rw [n] at mu; exact mu
  have hb : ∀ b,H b = none→b ≠ e:=fun b n z=>by
    subst z
    rcases he with r | r
    · exact hx b n r
    · rw [n] at r; cases r
  have hm : ∀ b u,H b = some u→¬ Mut (some u)→b ≠ x:=fun b u q nm z=>by subst z; rw [q] at mu; exact nm mu
  refine ⟨fun b u q n _ _=>k b u (hb b n) q,fun b u q n _ _=>⟨u.slots,k b u (hb b n) q⟩,fun b u q n _=>by rw [ar (hx b n)]; exact n,fun b u q _=>?_,
    fun b xs q=>by rw [ar (hm b _ q fun z=>z)]; exact q,fun b u xs q=>by rw [ar (hm b _ q fun z=>z)]; exact q,fun b ps q=>⟨#[],by rw [ar (hm b _ q fun z=>z),q]; simp⟩⟩
  by_cases hbe : b = e
  · subst hbe; exact heo
  · exact ⟨u,k b u hbe q⟩
end
def trk (h : Heap) (H : Hp) : List Addr:=(List.range h.objs.size).filter fun a=>(H a).isSome
def jF (h : Heap) (H : Hp) : Heap:=PySem.W.hideAll h (trk h H)
theorem nL (h : Heap) (H : Hp) : (jF h H).objs.size = h.objs.size:=PySem.W.hideAll_size _ _
theorem qT {h : Heap} {H : Hp} {b : Addr} {o : Obj} (e : h.get? b = some o) (n : H b = none) : (jF h H).get? b = some o :=
  PySem.W.hideAll_get _ e fun hm=>by
    have q : (H b).isSome = true:=(List.mem_filter.mp hm).2
    rw [n] at q; simp at q
theorem sJ {h : Heap} {H : Hp} {b : Addr} {o : Obj} (e : (jF h H).get? b = some o) : h.get? b = some o∧H b = none:=by
  have e' : h.get? b = some o:=PySem.W.of_hideAll (trk h H) e
  refine ⟨e',?_⟩
  cases q : H b with
  | none=>rfl
  | some x =>
    have hm : b ∈ trk h H:=List.mem_filter.mpr ⟨List.mem_range.mpr (Heap.lt_size e'),by simp [q]⟩
    have z : (jF h H).get? b = none:=PySem.W.hideAll_none (trk h H) hm
    rw [z] at e; cases e
structure Mod (K : PySem.W.Frag) (mg : Str→Option Value) (base : Heap) : Prop where
  kin : K.In base
  glob : base.Ns mainGlobals mg
  blt : ∃ mb,base.Ns builtinsNs mb∧∀ x : Str,x ≠ "__name__"→mb x = bootBuiltins x
  nolimit : base.NoLimit
structure Cx where
  prog : Program
  w : World
  K : PySem.W.Frag
  mg : Str→Option Value
  base : Heap
  A : Around
  N : List Str
  s₀ : Shared
  H₀ : Hp
  env : Env
  outer : List Env
  stack : List Env
  ex : List Addr
  fn : Str→Bool
  calm : Bool
  pn : List (Addr × Obj)
  xe : Value→Shared→Prop
def frs (l : List Env) : List Addr:=l.filterMap (·.frame)
abbrev Cx.fs (X : Cx) : List Addr:=frs X.outer
def Vis (sc : Scope) (x : Str) : Prop:=sc.names.lookup x = some .local ∨ sc.names.lookup x = some .cell ∨ sc.names.lookup x = some .free
def Loc (sc : Scope) (x : Str) : Prop:=sc.names.lookup x = some .local ∨ sc.names.lookup x = some .cell
def vJ (env : Env) (h : Heap) (m : Str→Option Value) (x : Str) (u : Value) : Prop :=
  (env.kindOf x = some .local∧m x = some u) ∨ ((env.kindOf x = some .cell ∨ env.kindOf x = some .free)∧∃ c,env.cells.lookup x = some c∧h.IsCell c (some u))
structure Cx.Ok (X : Cx) : Prop where
  mod : Mod X.K X.mg X.base
  kind : X.env.scope.kind = .function
  glob : X.env.globals = mainGlobals
  blt : X.env.builtins = builtinsNs
  above : X.s₀.heap.objs.size ≤ X.env.locals
  inj : ∀ x y c,X.env.cells.lookup x = some c→X.env.cells.lookup y = some c→x = y
  has : ∀ x,(X.env.kindOf x = some .cell ∨ X.env.kindOf x = some .free)→∃ c,X.env.cells.lookup x = some c
  cab : ∀ x c,X.fn x = true→X.env.cells.lookup x = some c→X.s₀.heap.objs.size ≤ c
  hd : X.calm = true→X.A.handled = none
  frames : X.A.frames = some X.stack
  stk : X.stack = X.outer ∨ (X.stack = X.env :: X.outer∧X.env.frame = some X.env.locals)
  exf : ∀ b ∈ X.ex,b ≠ X.env.locals∧∀ x c,X.env.cells.lookup x = some c→c ≠ b
  bs : ∀ b o,X.base.get? b = some o→X.s₀.heap.get? b = some o∧X.H₀ b = none
  bsz : X.base.objs.size ≤ X.s₀.heap.objs.size
  noex : ∀ b o,X.base.get? b = some o→b ∉ X.ex
  exfs : ∀ b ∈ X.ex,b ∉ X.fs
  funs : X.s₀.heap.FunFrames X.base X.outer
  frf : ∀ b ∈ X.fs,X.H₀ b = none
structure Inv (X : Cx) (pins : List (Addr × Obj)) (σ : List (Option V)) (H : Hp) (s : Shared) : Prop where
  ok : X.Ok
  os : s.os = X.s₀.os
  bare : AllBare s.gens
  base : Un X.fs X.ex X.H₀ H X.s₀.heap s.heap
  loc : ∃ m,s.heap.Ns X.env.locals m∧∀ (i : Nat) (x : Str) (v : V),X.N[i]? = some x→σ[i]? = some (some v)→Vis X.env.scope x→∃ u,RelV v u∧vJ X.env s.heap m x u
  cell : ∀ x c,X.env.cells.lookup x = some c→∃ v,s.heap.IsCell c v
  free : H X.env.locals = none
  freeC : ∀ x c,X.env.cells.lookup x = some c→H c = none
  pin : ∀ p ∈ X.pn ++ pins,s.heap.get? p.1 = some p.2∧H p.1 = none∧p.1 ≠ X.env.locals∧p.1 ∉ X.fs∧∀ v,p.2.data ≠ .cell v
  hok : HOk X.prog X.w H s.heap
  len : σ.length = X.N.length
section
variable {X : Cx} {pins : List (Addr × Obj)} {σ : List (Option V)} {H H' : Hp} {s : Shared} {h' : Heap}
theorem Cx.Ok.nofr (ok : X.Ok) {b : Addr} {o : Obj} (e : X.base.get? b = some o) : b ∉ X.fs:=fun hb=>by
  have:=(ok.funs.mem hb).1
  rw [e] at this; cases this
theorem Inv.bs (I : Inv X pins σ H s) : ∀ b o,X.base.get? b = some o→s.heap.get? b = some o∧H b = none:=fun b o e =>
  ⟨I.base.keep b o (I.ok.bs b o e).1 (I.ok.bs b o e).2 (I.ok.nofr e) (I.ok.noex b o e),I.base.free b o (I.ok.bs b o e).1 (I.ok.bs b o e).2 (I.ok.noex b o e)⟩
theorem Inv.bk (I : Inv X pins σ H s) : ∀ b o,X.base.get? b = some o→s.heap.get? b = some o:=fun b o e=>(I.bs b o e).1
theorem Inv.mod (I : Inv X pins σ H s) : Mod X.K X.mg X.base:=I.ok.mod
theorem Inv.kIn (I : Inv X pins σ H s) : X.K.In s.heap:=I.ok.mod.kin.keeps I.bk
theorem Inv.lt (I : Inv X pins σ H s) : X.env.locals < s.heap.objs.size:=let ⟨_,hn,_⟩:=I.loc; hn.lt
theorem Inv.sz (I : Inv X pins σ H s) : X.s₀.heap.objs.size ≤ s.heap.objs.size:=Nat.le_trans I.ok.above (Nat.le_of_lt I.lt)
theorem Inv.nofs (I : Inv X pins σ H s) {a : Addr} (h : s.heap.objs.size ≤ a) : a ∉ X.fs:=fun hb=>by
  obtain ⟨_,o,ho,_⟩:=I.ok.funs.mem hb
  exact absurd (Nat.lt_of_lt_of_le (Heap.lt_size ho) (Nat.le_trans I.sz h)) (Nat.lt_irrefl _)
theorem Inv.cne (I : Inv X pins σ H s) : ∀ x c,X.env.cells.lookup x = some c→c ≠ X.env.locals:=fun x c e z=>by
  obtain ⟨v,o,ho,hd⟩:=I.cell x c e
  obtain ⟨m,⟨o',es,ep,ho',hd',_⟩,_⟩:=I.loc
  rw [z,ho'] at ho; cases ho; rw [hd'] at hd; cases hd
theorem Inv.funs (I : Inv X pins σ H s) : s.heap.FunFrames X.base X.outer:=by
  have all : ∀ (l : List Env),(∀ b ∈ frs l,b ∈ X.fs)→X.s₀.heap.FunFrames X.base l→s.heap.FunFrames X.base l:=by
    intro l
    induction l with
    | nil=>intro _ _; trivial
    | cons env r ih =>
      intro hs hl
      obtain ⟨hk,⟨L,o,hf,hn,ho,hd⟩,hr⟩:=hl
      have hL : L ∈ X.fs:=hs L (by unfold frs; rw [List.filterMap_cons,hf]; exact List.mem_cons_self)
      obtain ⟨sl,e⟩:=I.base.slot L o ho (I.ok.frf L hL) hL fun z=>I.ok.exfs L z hL
      exact ⟨hk,⟨L,_,hf,hn,e,hd⟩,ih (fun b hb=>hs b (by unfold frs; rw [List.filterMap_cons,hf]; exact List.mem_cons_of_mem _ hb)) hr⟩
  exact all X.outer (fun _ hb=>hb) I.ok.funs
theorem Inv.stack (I : Inv X pins σ H s) : s.heap.FunFrames X.base X.stack:=by
  rcases I.ok.stk with e | ⟨e,hf⟩
  · rw [e]; exact I.funs
  · rw [e]
    obtain ⟨m,hn,_⟩:=I.loc
    refine .cons (by rw [I.ok.kind]; decide) hf hn ?_ I.funs
    exact Heap.get?_none_of_le (Nat.le_trans I.ok.bsz I.ok.above)
theorem Inv.stkSub (I : Inv X pins σ H s) : ∀ b ∈ frs X.stack,b ∈ X.env.locals :: X.fs:=fun b hb=>by
  rcases I.ok.stk with e | ⟨e,hf⟩
  · rw [e] at hb; exact List.mem_cons_of_mem _ hb
  · rw [e] at hb
    unfold frs at hb
    rw [List.filterMap_cons,hf] at hb
    exact hb
theorem Inv.stkFree (I : Inv X pins σ H s) : ∀ b ∈ frs X.stack,H b = none:=fun b hb=>by
  rcases List.mem_cons.mp (I.stkSub b hb) with e | hb
  · rw [e]; exact I.free
  · obtain ⟨_,o,ho,_⟩:=I.ok.funs.mem hb
    exact I.base.free b o ho (I.ok.frf b hb) fun z=>I.ok.exfs b z hb
theorem Inv.step {g' : Array GenState} {t' : Nat} {d' : Drawn} {ch : List Addr} (I : Inv X pins σ H s)
    (hch : ∀ b ∈ ch,(b ∈ X.ex ∨ X.s₀.heap.objs.size ≤ b)∧b ≠ X.env.locals∧(∀ x c,X.env.cells.lookup x = some c→c ≠ b)∧∀ p ∈ X.pn ++ pins,p.1 ≠ b)
    (keep : ∀ b o,b ≠ X.env.locals→b ∉ X.fs→b ∉ ch→s.heap.get? b = some o→H b = none→h'.get? b = some o)
    (slot : ∀ b o,b ≠ X.env.locals→b ∈ X.fs→b ∉ ch→s.heap.get? b = some o→H b = none→∃ sl,h'.get? b = some { o with slots:=sl }) (free : ∀ b o,b ∉ ch→s.heap.get? b = some o→H b = none→H' b = none)
    (there : ∀ b o,b ∉ ch→s.heap.get? b = some o→∃ o',h'.get? b = some o')
    (tups : ∀ b xs,H b = some (.tup xs)→H' b = some (.tup xs)) (frzs : ∀ b o u,H b = some (.frz o u)→H' b = some (.frz o u)) (tbls : ∀ b ps,H b = some (.tbl ps)→∃ more,H' b = some (.tbl (ps ++ more)))
    (ns : ∀ m,s.heap.Ns X.env.locals m→h'.Ns X.env.locals m) (hok : HOk X.prog X.w H' h') (hg : AllBare g') :
    Inv X pins σ H' { s with heap:=h',gens:=g',drawn:=d',toks:=t' }:=by
  have neL : ∀ b o,X.s₀.heap.get? b = some o→b ≠ X.env.locals:=fun b o e=>Nat.ne_of_lt (Nat.lt_of_lt_of_le (Heap.lt_size e) I.ok.above)
  have neC : ∀ b o,X.s₀.heap.get? b = some o→b ∉ X.ex→b ∉ ch:=fun b o e hx hb=>by
    rcases (hch b hb).1 with z | z
    · exact hx z
    · exact absurd (Nat.lt_of_lt_of_le (Heap.lt_size e) z) (Nat.lt_irrefl _)
  have cellK : ∀ x c,X.env.cells.lookup x = some c→∀ v,s.heap.IsCell c v→h'.IsCell c v:=fun x c e v ⟨o,ho,hd⟩=>by
    have nch : c ∉ ch:=fun z=>(hch c z).2.2.1 x c e rfl
    by_cases hc : c ∈ X.fs
    · obtain ⟨sl,q⟩:=slot c o (I.cne x c e) hc nch ho (I.freeC x c e)
      exact ⟨_,q,hd⟩
    · exact ⟨o,keep c o (I.cne x c e) hc nch ho (I.freeC x c e),hd⟩
  refine ⟨I.ok,I.os,hg,⟨fun b o e n hb hx=>?_,fun b o e n hb hx=>?_,fun b o e n hx=>?_,fun b o e hx=>?_,fun b xs e=>tups b xs (I.base.tups b xs e),fun b o xs e=>frzs b o xs (I.base.frzs b o xs e),fun b ps e=>?_⟩,?_,fun x c e=>?_,?_,fun x c e=>?_,fun p hp=>?_,hok,I.len⟩
  · exact keep b o (neL b o e) hb (neC b o e hx) (I.base.keep b o e n hb hx) (I.base.free b o e n hx)
  · obtain ⟨sl,e1⟩:=I.base.slot b o e n hb hx
    obtain ⟨sl',e2⟩:=slot b _ (neL b o e) hb (neC b o e hx) e1 (I.base.free b o e n hx)
    exact ⟨sl',e2⟩
  · obtain ⟨o',e1⟩:=I.base.there b o e hx
    exact free b o' (neC b o e hx) e1 (I.base.free b o e n hx)
  · obtain ⟨o',e1⟩:=I.base.there b o e hx
    exact there b o' (neC b o e hx) e1
  · obtain ⟨m1,e1⟩:=I.base.tbls b ps e
    obtain ⟨m2,e2⟩:=tbls b _ e1
    exact ⟨m1 ++ m2,by rw [e2,Array.append_assoc]⟩
  · obtain ⟨m,hn,hl⟩:=I.loc
    refine ⟨m,ns m hn,fun i x v e1 e2 e3=>?_⟩
    obtain ⟨u,r,l⟩:=hl i x v e1 e2 e3
    refine ⟨u,r,?_⟩
    rcases l with l | ⟨k,c,e,z⟩
    · exact .inl l
    · exact .inr ⟨k,c,e,cellK x c e _ z⟩
  · obtain ⟨v,z⟩:=I.cell x c e
    exact ⟨v,cellK x c e v z⟩
  · obtain ⟨m,⟨o,_,_,ho,_⟩,_⟩:=I.loc
    exact free _ o (fun z=>(hch _ z).2.1 rfl) ho I.free
  · obtain ⟨v,o,ho,hd⟩:=I.cell x c e
    exact free c o (fun z=>(hch c z).2.2.1 x c e rfl) ho (I.freeC x c e)
  · obtain ⟨e,n,ne,nf,d⟩:=I.pin p hp
    have nch : p.1 ∉ ch:=fun z=>(hch p.1 z).2.2.2 p hp rfl
    exact ⟨keep p.1 p.2 ne nf nch e n,free p.1 p.2 nch e n,ne,nf,d⟩
theorem Inv.un {t' : Nat} (I : Inv X pins σ H s) (u : Un X.fs [] H H' s.heap h') (hok : HOk X.prog X.w H' h') : Inv X pins σ H' { s with heap:=h',toks:=t' }:=by
  obtain ⟨m,⟨o,es,ep,ho,r⟩,_⟩:=id I.loc
  obtain ⟨sl,hL⟩:=u.any ho I.free (by simp)
  exact I.step (g':=s.gens) (d':=s.drawn) (ch:=[]) (fun _ z=>nomatch z) (fun b o _ hb _ e n=>u.keep b o e n hb (by simp)) (fun b o _ hb _ e n=>u.slot b o e n hb (by simp)) (fun b o _ e n=>u.free b o e n (by simp)) (fun b o _ e=>u.there b o e (by simp)) u.tups u.frzs u.tbls (fun m' hm=>by
    obtain ⟨o',es',ep',ho',r'⟩:=hm
    rw [ho] at ho'; cases ho'
    exact ⟨_,es',ep',hL,r'⟩) hok I.bare
theorem Inv.call {g' : Array GenState} {t' : Nat} {d' : Drawn} {ch : List Addr} (I : Inv X pins σ H s) (u : Un (frs X.stack) ch H H' s.heap h') (hok : HOk X.prog X.w H' h') (hg : AllBare g')
    (hch : ∀ b ∈ ch,(b ∈ X.ex ∨ X.s₀.heap.objs.size ≤ b)∧b ≠ X.env.locals∧(∀ x c,X.env.cells.lookup x = some c→c ≠ b)∧∀ p ∈ X.pn ++ pins,p.1 ≠ b) :
    Inv X pins σ H' { s with heap:=h',gens:=g',drawn:=d',toks:=t' }:=by
  obtain ⟨m,⟨o,es,ep,ho,r⟩,_⟩:=id I.loc
  obtain ⟨sl,hL⟩:=u.any ho I.free fun z=>(hch _ z).2.1 rfl
  exact I.step (ch:=ch) hch (fun b o hL hb hc e n=>u.keep b o e n (fun z=>(List.mem_cons.mp (I.stkSub b z)).elim hL hb) hc) (fun b o _ _ hc e n=>u.any e n hc) (fun b o hc e n=>u.free b o e n hc) (fun b o hc e=>u.there b o e hc) u.tups u.frzs u.tbls (fun m' hm=>by
    obtain ⟨o',es',ep',ho',r'⟩:=hm
    rw [ho] at ho'; cases ho'
    exact ⟨_,es',ep',hL,r'⟩) hok hg
theorem Inv.turned {t' : Nat} {it : Addr} (I : Inv X pins σ H s) (k : ∀ b o,b ≠ it→s.heap.get? b = some o→h'.get? b = some o) (hn : H it = none) (hL : it ≠ X.env.locals)
    (h1 : it ∈ X.ex ∨ X.s₀.heap.objs.size ≤ it) (h2 : ∀ x c,X.env.cells.lookup x = some c→c ≠ it) (h3 : ∀ p ∈ X.pn ++ pins,p.1 ≠ it) : Inv X pins σ H { s with heap:=h',toks:=t' }:=by
  have nit : ∀ b u,H b = some u→b ≠ it:=fun b u e z=>by rw [z,hn] at e; cases e
  refine I.step (g':=s.gens) (d':=s.drawn) (ch:=[it]) (fun b hb=>?_) (fun b o _ _ hc e _=>k b o (fun z=>hc (by simp [z])) e) (fun b o _ _ hc e _=>⟨o.slots,k b o (fun z=>hc (by simp [z])) e⟩) (fun _ _ _ _ n=>n)
    (fun b o hc e=>⟨o,k b o (fun z=>hc (by simp [z])) e⟩) (fun _ _ e=>e) (fun _ _ _ e=>e) (fun b ps e=>⟨#[],by rw [e]; simp⟩) (fun m hm=>?_) (fun b u e=>?_) I.bare
  · have e : b = it:=by simpa using hb
    subst e
    exact ⟨h1,hL,h2,h3⟩
  · obtain ⟨o,es,ep,ho,r⟩:=hm
    exact ⟨o,es,ep,k _ o (Ne.symm hL) ho,r⟩
  · refine (I.hok b u e).stay (fun c v hc q=>k c v ?_ q) (fun _ q=>q) fun _ _ q=>q
    rcases hc with z | z
    · rw [z]; exact nit b u e
    · exact nit c _ z
theorem Inv.tok (I : Inv X pins σ H s) (t : Nat) : Inv X pins σ H { s with toks:=t }:=I.un (h':=s.heap) (t':=t) Un.refl I.hok
theorem Inv.kept {t' : Nat} (I : Inv X pins σ H s) (k : ∀ b u,s.heap.get? b = some u→h'.get? b = some u) : Inv X pins σ H { s with heap:=h',toks:=t' }:=I.un (Un.kept k) (I.hok.kept k)
theorem Inv.laid {a : Addr} {o : HO} {t' : Nat} (I : Inv X pins σ H s) (k : ∀ b u,s.heap.get? b = some u→h'.get? b = some u) (hp : s.heap.objs.size ≤ a) (new : ObjOk X.prog X.w (upd H a o) h' a o) :
    Inv X pins σ (upd H a o) { s with heap:=h',toks:=t' }:=I.un (Un.laid k hp (I.hok.fresh hp)) (I.hok.laid k hp new)
theorem Inv.write {x e : Addr} {o : HO} {t' : Nat} (I : Inv X pins σ H s) (mu : Mut (H x)) (he : e = x ∨ H e = some (.own x)) (k : ∀ b u,b ≠ e→s.heap.get? b = some u→h'.get? b = some u) (heo : ∃ u,h'.get? e = some u)
    (new : ObjOk X.prog X.w (upd H x o) h' x o) : Inv X pins σ (upd H x o) { s with heap:=h',toks:=t' }:=I.un (Un.write mu he k heo) (I.hok.write mu he k heo new)
theorem Inv.weak {σ' : List (Option V)} (I : Inv X pins σ H s) (hl : σ'.length = σ.length) (w : ∀ (i : Nat) v,σ'[i]? = some (some v)→σ[i]? = some (some v)) : Inv X pins σ' H s :=
  ⟨I.ok,I.os,I.bare,I.base,let ⟨m,hn,hl'⟩:=I.loc; ⟨m,hn,fun i x v e1 e2 e3=>hl' i x v e1 (w i v e2) e3⟩,I.cell,I.free,I.freeC,I.pin,I.hok,hl.trans I.len⟩
theorem Inv.pins_of {pins' : List (Addr × Obj)} (I : Inv X pins σ H s) (h : ∀ p ∈ pins',s.heap.get? p.1 = some p.2∧H p.1 = none∧p.1 ≠ X.env.locals∧p.1 ∉ X.fs∧∀ v,p.2.data ≠ .cell v) : Inv X pins' σ H s :=
  ⟨I.ok,I.os,I.bare,I.base,I.loc,I.cell,I.free,I.freeC,fun p hp=>(List.mem_append.mp hp).elim (fun z=>I.pin p (List.mem_append_left _ z)) (h p),I.hok,I.len⟩
theorem lm {N : List Str} (hN : N.Nodup) {i j : Nat} {x : Str} (a : N[i]? = some x) (b : N[j]? = some x) : i = j:=by
  obtain ⟨h1,e1⟩:=List.getElem?_eq_some_iff.mp a
  obtain ⟨h2,e2⟩:=List.getElem?_eq_some_iff.mp b
  exact (List.getElem_inj hN).mp (e1.trans e2.symm)
theorem fU {M : Model} {A : Around} {E : Value→Shared→Prop} {i : Nat} {x : Str} {v : V} {u : Value} {Q : Unit→Shared→Prop} (I : Inv X pins σ H s) (hN : X.N.Nodup) (hi : X.N[i]? = some x) (hx : Loc X.env.scope x) (r : RelV v u)
    (h : ∀ s',Inv X pins (σ.set i (some v)) H s'→(∃ a,Heap.SameBut a s.heap s'.heap∧(a = X.env.locals ∨ X.env.cells.lookup x = some a))→Q () s') (hf : X.fn x = true ∨ X.env.scope.names.lookup x = some .local:=by first | exact .inl rfl | exact .inr rfl | assumption) : wpAny M A (storeName X.env x u) Q E s:=by
  obtain ⟨m,hn,hl⟩:=id I.loc
  have hcls : (X.env.scope.kind == .class || (X.env.scope.kind == .module && X.env.locals != X.env.globals)) = false:=by rw [I.ok.kind]; rfl
  have hiσ : i < σ.length:=by rw [I.len]; exact (List.getElem?_eq_some_iff.mp hi).1
  have cne:=I.cne
  have tracked : ∀ {a : Addr} {h' : Heap},(∃ o,s.heap.get? a = some o∧H a = none)→Heap.SameBut a s.heap h'→HOk X.prog X.w H h':=fun {a h'} ha hs b ob e=>by
    obtain ⟨_,_,hfree⟩:=ha
    refine (I.hok b ob e).stay (fun c w' hc q=>(hs.2 c ?_).trans q) (fun _ q=>q) fun _ _ q=>q
    rintro rfl
    rcases hc with rfl | hc
    · rw [hfree] at e; cases e
    · rw [hfree] at hc; cases hc
  rcases hx with hk | hk
  · refine wpAny_storeName_local hk hn (fun h' hn' hs=>?_) hcls
    obtain ⟨oL,_,_,hoL,_⟩:=id hn
    refine h _ ⟨I.ok,I.os,I.bare,⟨fun b o e n hb hx=>?_,fun b o e n hb hx=>?_,I.base.free,fun b o e hx=>?_,I.base.tups,I.base.frzs,I.base.tbls⟩,⟨_,hn',fun j y v' e1 e2 e3=>?_⟩,fun y c e=>?_,I.free,I.freeC,fun p hp=>?_,tracked ⟨oL,hoL,I.free⟩ hs,by simpa using I.len⟩ ⟨_,hs,.inl rfl⟩
    · exact (hs.2 b (Nat.ne_of_lt (Nat.lt_of_lt_of_le (Heap.lt_size e) I.ok.above))).trans (I.base.keep b o e n hb hx)
    · obtain ⟨sl,e1⟩:=I.base.slot b o e n hb hx
      exact ⟨sl,(hs.2 b (Nat.ne_of_lt (Nat.lt_of_lt_of_le (Heap.lt_size e) I.ok.above))).trans e1⟩
    · obtain ⟨o',e1⟩:=I.base.there b o e hx
      exact ⟨o',(hs.2 b (Nat.ne_of_lt (Nat.lt_of_lt_of_le (Heap.lt_size e) I.ok.above))).trans e1⟩
    · by_cases hj : j = i
      · subst hj
        rw [hi] at e1; cases e1
        rw [List.getElem?_set_self hiσ] at e2
        cases e2
        exact ⟨u,r,.inl ⟨hk,by simp⟩⟩
      · rw [List.getElem?_set_ne (Ne.symm hj)] at e2
        obtain ⟨u',r',q⟩:=hl j y v' e1 e2 e3
        refine ⟨u',r',?_⟩
        rcases q with ⟨k,e⟩ | ⟨k,c,e,z⟩
        · refine .inl ⟨k,?_⟩
          have : y ≠ x:=fun e=>hj (lm hN e1 (e ▸ hi))
          simp [this,e]
        · exact .inr ⟨k,c,e,z.sameBut hs (cne y c e)⟩
    · obtain ⟨w',z⟩:=I.cell y c e
      exact ⟨w',z.sameBut hs (cne y c e)⟩
    · obtain ⟨e,n,ne,nf,d⟩:=I.pin p hp
      exact ⟨(hs.2 p.1 ne).trans e,n,ne,nf,d⟩
  · have hfn : X.fn x = true:=by
      rcases hf with z | z
      · exact z
      · rw [z] at hk; cases hk
    obtain ⟨c,hc⟩:=I.ok.has x (.inl hk)
    obtain ⟨w',z⟩:=I.cell x c hc
    refine wpAny_storeName_cell I.ok.kind hk hc z (fun h' hc' hs=>?_)
    obtain ⟨oc,hoc,hocd⟩:=id z
    refine h { s with heap:=h' } ⟨I.ok,I.os,I.bare,⟨fun b o e n hb hx=>?_,fun b o e n hb hx=>?_,I.base.free,fun b o e hx=>?_,I.base.tups,I.base.frzs,I.base.tbls⟩,⟨m,hn.sameBut hs (Ne.symm (cne x c hc)),fun j y v' e1 e2 e3=>?_⟩,fun y c' e=>?_,I.free,I.freeC,fun p hp=>?_,tracked ⟨oc,hoc,I.freeC x c hc⟩ hs,by simpa using I.len⟩ ⟨c,hs,.inr hc⟩
    · exact (hs.2 b (Nat.ne_of_lt (Nat.lt_of_lt_of_le (Heap.lt_size e) (I.ok.cab x c hfn hc)))).trans (I.base.keep b o e n hb hx)
    · obtain ⟨sl,e1⟩:=I.base.slot b o e n hb hx
      exact ⟨sl,(hs.2 b (Nat.ne_of_lt (Nat.lt_of_lt_of_le (Heap.lt_size e) (I.ok.cab x c hfn hc)))).trans e1⟩
    · obtain ⟨o',e1⟩:=I.base.there b o e hx
      exact ⟨o',(hs.2 b (Nat.ne_of_lt (Nat.lt_of_lt_of_le (Heap.lt_size e) (I.ok.cab x c hfn hc)))).trans e1⟩
    · by_cases hj : j = i
      · subst hj
        rw [hi] at e1; cases e1
        rw [List.getElem?_set_self hiσ] at e2
        cases e2
        exact ⟨u,r,.inr ⟨.inl hk,c,hc,hc'⟩⟩
      · rw [List.getElem?_set_ne (Ne.symm hj)] at e2
        obtain ⟨u',r',q⟩:=hl j y v' e1 e2 e3
        refine ⟨u',r',?_⟩
        rcases q with q | ⟨k,c',e,z'⟩
        · exact .inl q
        · refine .inr ⟨k,c',e,z'.sameBut hs ?_⟩
          rintro rfl
          exact hj (lm hN e1 (I.ok.inj _ _ _ e hc ▸ hi))
    · by_cases hcc : c' = c
      · subst hcc; exact ⟨_,hc'⟩
      · obtain ⟨w2,z2⟩:=I.cell y c' e
        exact ⟨w2,z2.sameBut hs hcc⟩
    · obtain ⟨e,n,ne,nf,d⟩:=I.pin p hp
      refine ⟨(hs.2 p.1 ?_).trans e,n,ne,nf,d⟩
      intro q
      rw [q,hoc] at e
      have q' : oc = p.2:=Option.some.inj e
      exact d w' (by rw [← q']; exact hocd)
theorem fe {M : Model} {A : Around} {E : Value→Shared→Prop} {i : Nat} {x : Str} {v : V} {u : Value} {Q : Unit→Shared→Prop} (I : Inv X pins σ H s) (hN : X.N.Nodup) (hi : X.N[i]? = some x) (hx : Loc X.env.scope x) (r : RelV v u)
    (h : ∀ s',Inv X pins (σ.set i (some v)) H s'→Q () s') (hf : X.fn x = true ∨ X.env.scope.names.lookup x = some .local:=by first | exact .inl rfl | exact .inr rfl | assumption) : wpAny M A (storeName X.env x u) Q E s :=
  fU I hN hi hx r (fun s' I' _=>h s' I') hf
theorem Inv.call' {s' : Shared} {ch : List Addr} (I : Inv X pins σ H s) (ho : s'.os = s.os) (u : Un (frs X.stack) ch H H' s.heap s'.heap) (hok : HOk X.prog X.w H' s'.heap) (hg : AllBare s'.gens)
    (hch : ∀ b ∈ ch,(b ∈ X.ex ∨ X.s₀.heap.objs.size ≤ b)∧b ≠ X.env.locals∧(∀ x c,X.env.cells.lookup x = some c→c ≠ b)∧∀ p ∈ X.pn ++ pins,p.1 ≠ b) : Inv X pins σ H' s':=by
  obtain ⟨h',g',d',t',o'⟩:=s'
  have e : o' = s.os:=ho
  subst e
  exact I.call (g':=g') (t':=t') (d':=d') u hok hg hch
end
abbrev XK:=Value→Option Addr→Hp→Prop
abbrev St:=List (Option V)
abbrev VK:=V→Hp→Prop
abbrev TE:=St→Hp→VK→Prop
abbrev TT:=St→Hp→(Bool→Hp→Prop)→Prop
abbrev TA:=St→Hp→(List V→Hp→Prop)→Prop
structure Ends where
  nx : St→Hp→Prop
  rt : VK
  bk : St→Hp→Prop:=fun _ _=>False
  ct : St→Hp→Prop:=fun _ _=>False
abbrev TS:=Ends→St→Hp→Prop
def EP (X : Cx) (pins : List (Addr × Obj)) (σ : St) (Q : VK) (u : Value) (s' : Shared) : Prop:=∃ v H',Inv X pins σ H' s'∧RelV v u∧Q v H'
def TP (X : Cx) (pins : List (Addr × Obj)) (σ : St) (Q : Bool→Hp→Prop) (b : Bool) (s' : Shared) : Prop:=∃ H',Inv X pins σ H' s'∧Q b H'
def AP (X : Cx) (pins : List (Addr × Obj)) (σ : St) (Q : List V→Hp→Prop) (us : List Value) (s' : Shared) : Prop:=∃ vs H',Inv X pins σ H' s'∧Vals vs us∧Q vs H'
def SP (X : Cx) (pins : List (Addr × Obj)) (D : Ends) (f : Flow) (s' : Shared) : Prop :=
  match f with
  | .next=>∃ σ' H',Inv X pins σ' H' s'∧D.nx σ' H'
  | .brk=>∃ σ' H',Inv X pins σ' H' s'∧D.bk σ' H'
  | .cont=>∃ σ' H',Inv X pins σ' H' s'∧D.ct σ' H'
  | .ret u=>∃ v σ' H',Inv X pins σ' H' s'∧RelV v u∧D.rt v H'
def PE (X : Cx) (e : Expr) (t : TE) : Prop :=
  ∀ (pins : List (Addr × Obj)) (s : Shared) (σ : St) (H : Hp) (Q : VK),Inv X pins σ H s→t σ H Q→wpAny (model X.prog X.w) X.A (eval e X.env) (EP X pins σ Q) X.xe s
def PT (X : Cx) (e : Expr) (t : TT) : Prop :=
  ∀ (pins : List (Addr × Obj)) (s : Shared) (σ : St) (H : Hp) (Q : Bool→Hp→Prop),Inv X pins σ H s→t σ H Q→wpAny (model X.prog X.w) X.A (isTrue e X.env (eval e X.env)) (TP X pins σ Q) X.xe s
def PW (X : Cx) (e : Expr) (t : TT) : Prop :=
  ∀ (whole : Sem Value) (pins : List (Addr × Obj)) (s : Shared) (σ : St) (H : Hp) (Q : Bool→Hp→Prop),Inv X pins σ H s→t σ H Q→wpAny (model X.prog X.w) X.A (isTrue e X.env whole) (TP X pins σ Q) X.xe s
theorem PW.pt {X : Cx} {e : Expr} {t : TT} (h : PW X e t) : PT X e t:=h _
def PA (X : Cx) (es : List Expr) (t : TA) : Prop :=
  ∀ (pos : Pos) (pins : List (Addr × Obj)) (s : Shared) (σ : St) (H : Hp) (Q : List V→Hp→Prop),Inv X pins σ H s→t σ H Q→wpAny (model X.prog X.w) X.A (spliced (backTo pos (starEach es X.env))) (AP X pins σ Q) X.xe s
def PS (X : Cx) (st : Stmt) (t : TS) : Prop :=
  ∀ (pins : List (Addr × Obj)) (s : Shared) (σ : St) (H : Hp) (D : Ends),Inv X pins σ H s→t D σ H→wpAny (model X.prog X.w) X.A (exec st X.env) (SP X pins D) X.xe s
def PSs (X : Cx) (st : List Stmt) (t : TS) : Prop :=
  ∀ (pins : List (Addr × Obj)) (s : Shared) (σ : St) (H : Hp) (D : Ends),Inv X pins σ H s→t D σ H→wpAny (model X.prog X.w) X.A (execs st X.env) (SP X pins D) X.xe s
theorem thn {α : Type} {t : Sem α} {Q Q' : α→Shared→Prop} {M : Model} {A : Around} {E : Value→Shared→Prop} {s : Shared} (h : wpAny M A t Q E s) (hQ : ∀ a s,Q a s→Q' a s) : wpAny M A t Q' E s:=wpAny_mono h hQ fun _ _ x=>x
section
variable {X : Cx}
def vb (i : Nat) : TE:=fun σ H Q=>∃ v,σ[i]? = some (some v)∧Q v H
def tC (v : V) : TE:=fun _ H Q=>Q v H
theorem t5 {i : Nat} {x : Str} {pos : Pos} (hN : X.N[i]? = some x) (hv : Vis X.env.scope x) (hd : (x == ("__debug__" : Str)) = false:=by decide) (hcd : (x == ("__classdict__" : Str)) = false:=by decide) : PE X (.Name x pos) (vb i):=by
  intro pins s σ H Q I h
  obtain ⟨v,e,h⟩:=h
  obtain ⟨m,hn,hl⟩:=I.loc
  obtain ⟨u,r,l⟩:=hl i x v hN e hv
  have fin : EP X pins σ Q u s:=⟨v,H,I,r,h⟩
  rcases l with ⟨hk,hm⟩ | ⟨hk,c,hc,hcell⟩
  · exact wpAny_Name (wpAny_loadName_local I.ok.kind hk hn hm fin) hd
  · rcases hk with hk | hk
    · exact wpAny_Name (wpAny_loadName_cell I.ok.kind hk hc hcell fin) hd
    · exact wpAny_Name (wpAny_loadName_free I.ok.kind hk hc hcell fin hcd) hd
theorem ad {i j pos} : PE X (.Constant (.int i) j pos) (tC (.int i)):=fun _ _ _ H _ I h=>wpAny_Constant_int ⟨.int i,H,I.tok _,⟨_,rfl⟩,h⟩
theorem cK {b j pos} : PE X (.Constant (.bool b) j pos) (tC (.bl b)):=fun _ _ _ H _ I h=>Constant_bool ⟨.bl b,H,I,rfl,h⟩
theorem fM {j pos} : PE X (.Constant .none j pos) (tC .non):=fun _ _ _ H _ I h=>Constant_none ⟨.non,H,I,rfl,h⟩
theorem gQ {x j pos} : PE X (.Constant (.str x) j pos) (tC (.str x)):=fun _ _ _ H _ I h=>Calls.Constant_str ⟨.str x,H,I.tok _,⟨_,rfl⟩,h⟩
def Gl (X : Cx) (x : Str) : Prop:=X.env.kindOf x = some .globalImplicit
theorem gB {E : Value→Shared→Prop} {pins : List (Addr × Obj)} {s : Shared} {σ : St} {H : Hp} {x : Str} {u : Value} {pos : Pos} {Q : Value→Shared→Prop} (I : Inv X pins σ H s) (hg : Gl X x) (hm : X.mg x = some u) (h : Q u s)
    (hd : (x == ("__debug__" : Str)) = false:=by decide) : wpAny (model X.prog X.w) X.A (eval (.Name x pos) X.env) Q E s :=
  Calls.Name_function_global I.ok.kind hg (Calls.loadGlobal_global (by rw [I.ok.glob]; exact I.mod.glob.keeps I.bk) hm h) hd
theorem c6 {E : Value→Shared→Prop} {pins : List (Addr × Obj)} {s : Shared} {σ : St} {H : Hp} {x : Str} {u : Value} {pos : Pos} {Q : Value→Shared→Prop} (I : Inv X pins σ H s) (hg : Gl X x) (hm : X.mg x = none) (hv : bootBuiltins x = some u) (h : Q u s)
    (hn : x ≠ "__name__":=by decide) (hd : (x == ("__debug__" : Str)) = false:=by decide) : wpAny (model X.prog X.w) X.A (eval (.Name x pos) X.env) Q E s:=by
  obtain ⟨mb,h1,h2⟩:=I.mod.blt
  exact Calls.Name_function_global I.ok.kind hg (Calls.loadGlobal_builtin (by rw [I.ok.glob]; exact I.mod.glob.keeps I.bk) hm (by rw [I.ok.blt]; exact h1.keeps I.bk) ((h2 x hn).trans hv) h) hd
theorem se {x : Str} {v : V} {u : Value} {pos : Pos} (hg : Gl X x) (hm : X.mg x = some u) (r : RelV v u) (hd : (x == ("__debug__" : Str)) = false:=by decide) : PE X (.Name x pos) (tC v) :=
  fun _ _ _ H _ I h=>gB I hg hm ⟨v,H,I,r,h⟩ hd
theorem dj {x : Str} {v : V} {u : Value} {pos : Pos} (hg : Gl X x) (hm : X.mg x = none) (hv : bootBuiltins x = some u) (r : RelV v u) (hn : x ≠ "__name__":=by decide) (hd : (x == ("__debug__" : Str)) = false:=by decide) : PE X (.Name x pos) (tC v) :=
  fun _ _ _ H _ I h=>c6 I hg hm hv ⟨v,H,I,r,h⟩ hn hd
variable {a b : Expr} {ta tb : TE} {pos : Pos}
def PC (X : Cx) (op : CmpOp) (a b : Expr) (t : TE) : Prop :=
  ∀ (pins : List (Addr × Obj)) (s : Shared) (σ : St) (H : Hp) (Q : VK),Inv X pins σ H s→t σ H Q →
    wpAny (model X.prog X.w) X.A (eval a X.env) (fun v s₁=>wpAny (model X.prog X.w) X.A (eval b X.env) (fun u s₂=>wpAny (model X.prog X.w) X.A (compareOp op v u) (EP X pins σ Q) X.xe s₂) X.xe s₁) X.xe s
theorem oJ (b : Expr) {op : CmpOp} (h : op ≠ .In) (h2 : op ≠ .NotIn) : behindInMarks op b = false:=by
  have e1 : (op == CmpOp.In) = false:=by cases op <;> first | rfl | exact absurd rfl h
  have e2 : (op == CmpOp.NotIn) = false:=by cases op <;> first | rfl | exact absurd rfl h2
  cases b <;> simp [behindInMarks,e1,e2]
def vv (ta : TE) : TE:=fun σ H Q=>ta σ H fun x H1=>Q (.bl (decide (x = .non))) H1
def uO (ta : TE) : TE:=fun σ H Q=>ta σ H fun x H1=>Q (.bl (!decide (x = .non))) H1
theorem RelV.none_iff {x : V} {v : Value} (r : RelV x v) : (v == Value.none) = decide (x = .non):=by
  cases x with
  | non=>cases r; rfl
  | bl _=>cases r; rfl
  | int _=>obtain ⟨t,rfl⟩:=r; rfl
  | str _=>obtain ⟨t,rfl⟩:=r; rfl
  | byt _=>obtain ⟨t,rfl⟩:=r; rfl
  | flt _=>obtain ⟨t,rfl⟩:=r; rfl
  | ref _=>cases r; rfl
  | ty _=>cases r; rfl
theorem dW {j pos'} (ha : PE X a ta) : PC X .Is a (.Constant .none j pos') (vv ta):=by
  intro pins s σ H Q I h
  refine thn (ha pins s σ H _ I h) fun v s1 hm0=>?_
  obtain ⟨x,H1,I1,r1,q1⟩:=hm0
  exact Constant_none (is_none_gen ⟨.bl _,H1,I1,by rw [r1.none_iff]; rfl,q1⟩)
theorem j6 {j pos'} (ha : PE X a ta) : PC X .IsNot a (.Constant .none j pos') (uO ta):=by
  intro pins s σ H Q I h
  refine thn (ha pins s σ H _ I h) fun v s1 hm0=>?_
  obtain ⟨x,H1,I1,r1,q1⟩:=hm0
  exact Constant_none (isnot_none_gen ⟨.bl _,H1,I1,by rw [r1.none_iff]; rfl,q1⟩)
def tB (t : TE) : TT:=fun σ H Q=>t σ H fun x H1=>∃ c,x = .bl c∧Q c H1
theorem cJ {op : CmpOp} {t : TE} (h : PC X op a b t) (h1 : behindInMarks op b = false:=by first | exact oJ _ (by decide) (by decide) | rfl) : PT X (.Compare a [op] [b] pos) (tB t):=by
  intro pins s σ H Q I hw
  refine wpAny_isTrue_Compare1 (thn (h pins s σ H _ I hw) fun v s1 h1=>thn h1 fun u s2 h2=>thn h2 fun c s3 hm0=>?_) h1
  obtain ⟨x,H1,I1,r1,q1⟩:=hm0
  obtain ⟨d,rfl,q⟩:=q1
  cases r1
  exact wpAny_truthy_bool ⟨H1,I1,q⟩
theorem bJ {e : Expr} {t : TE} (h : PE X e t) (he : ∀ whole,isTrue e X.env whole = (do let v ← whole; standAt e.pos; holding [v] (truthy v)):=by intro _; rfl) : PT X e (tB t):=by
  intro pins s σ H Q I hw
  refine isTrue_plain (thn (h pins s σ H _ I hw) fun v s1 hm0=>?_) (he _)
  obtain ⟨x,H1,I1,r1,q1⟩:=hm0
  obtain ⟨d,rfl,q⟩:=q1
  cases r1
  exact wpAny_truthy_bool ⟨H1,I1,q⟩
variable {tA tB' : TT} {rest : List Expr}
def vA (t u : TT) : TT:=fun σ H Q=>t σ H fun c H1=>if c = true then u σ H1 Q else Q false H1
def tOr (t u : TT) : TT:=fun σ H Q=>t σ H fun c H1=>if c = true then Q true H1 else u σ H1 Q
def vI (t : TT) : TT:=fun σ H Q=>t σ H fun c H1=>Q (!c) H1
theorem dn (ha : PT X a tA) : PW X (.BoolOp .And [a] pos) tA:=by
  intro wh pins s σ H Q I h
  refine isTrue_and (thn (ha pins s σ H Q I h) fun c s1 e=>?_)
  cases c with
  | true=>exact isTrue_and_nil e
  | false=>exact e
theorem cZ (ha : PT X a tA) : PW X (.BoolOp .Or [a] pos) tA:=by
  intro wh pins s σ H Q I h
  refine isTrue_or (thn (ha pins s σ H Q I h) fun c s1 e=>?_)
  cases c with
  | false=>exact isTrue_or_nil e
  | true=>exact e
theorem eI (ha : PT X a tA) (hb : PW X (.BoolOp .And (b :: rest) pos) tB') : PW X (.BoolOp .And (a :: b :: rest) pos) (vA tA tB'):=by
  intro wh pins s σ H Q I h
  refine isTrue_and (thn (ha pins s σ H _ I h) fun c s1 hm0=>?_)
  obtain ⟨H1,I1,q1⟩:=hm0
  cases c with
  | true=>exact hb wh pins s1 σ H1 Q I1 q1
  | false=>exact ⟨H1,I1,q1⟩
theorem eH (ha : PT X a tA) (hb : PW X (.BoolOp .Or (b :: rest) pos) tB') : PW X (.BoolOp .Or (a :: b :: rest) pos) (tOr tA tB'):=by
  intro wh pins s σ H Q I h
  refine isTrue_or (thn (ha pins s σ H _ I h) fun c s1 hm0=>?_)
  obtain ⟨H1,I1,q1⟩:=hm0
  cases c with
  | true=>exact ⟨H1,I1,q1⟩
  | false=>exact hb wh pins s1 σ H1 Q I1 q1
theorem cz (ha : PT X a tA) : PT X (.UnaryOp .Not a pos) (vI tA):=by
  intro pins s σ H Q I h
  exact isTrue_not (ha pins s σ H (fun c H1=>Q (!c) H1) I h)
def uN (ta tb : TE) : TE:=fun σ H Q=>ta σ H fun x H1=>∃ c,x = .bl c∧if c = true then tb σ H1 Q else Q (.bl false) H1
def uY (ta : TE) : TE:=fun σ H Q=>ta σ H fun x H1=>∃ c,x = .bl c∧Q (.bl (!c)) H1
theorem jD {op} {t : TE} (h : PE X a t) : PE X (.BoolOp op [a] pos) t:=fun pins s σ H Q I hw=>BoolOp_one (h pins s σ H Q I hw)
theorem gI (ha : PE X a ta) (hb : PE X (.BoolOp .And (b :: rest) pos) tb) : PE X (.BoolOp .And (a :: b :: rest) pos) (uN ta tb):=by
  intro pins s σ H Q I h
  refine BoolOp_and (thn (ha pins s σ H _ I h) fun v s1 hm0=>?_)
  obtain ⟨x,H1,I1,r1,q1⟩:=hm0
  obtain ⟨c,rfl,q1⟩:=q1
  cases r1
  refine wpAny_truthy_bool ?_
  cases c with
  | true=>exact hb pins s1 σ H1 Q I1 q1
  | false=>exact ⟨.bl false,H1,I1,rfl,q1⟩
theorem pD (ha : PE X a ta) : PE X (.UnaryOp .Not a pos) (uY ta):=by
  intro pins s σ H Q I h
  refine UnaryOp_ (thn (ha pins s σ H _ I h) fun v s1 hm0=>?_)
  obtain ⟨x,H1,I1,r1,q1⟩:=hm0
  obtain ⟨c,rfl,q1⟩:=q1
  cases r1
  exact not_of (wpAny_truthy_bool ⟨.bl (!c),H1,I1,rfl,q1⟩)
def tIf (t : TT) (ta tb : TE) : TE:=fun σ H Q=>t σ H fun c H1=>if c = true then ta σ H1 Q else tb σ H1 Q
theorem b9 {c : Expr} (hc : PT X c tA) (ha : PE X a ta) (hb : PE X b tb) : PE X (.IfExp c a b pos) (tIf tA ta tb):=by
  intro pins s σ H Q I h
  refine wpAny_IfExp (thn (hc pins s σ H _ I h) fun d s1 hm0=>?_)
  obtain ⟨H1,I1,q1⟩:=hm0
  cases d with
  | true=>exact ha pins s1 σ H1 Q I1 q1
  | false=>exact hb pins s1 σ H1 Q I1 q1
end
def SqL (K : PySem.W.Frag) (H : Hp) (a : Addr) (xs : List V) : Prop :=
  Rd H a (.lst xs) ∨
    ∃ (o : Obj) (its : Array Value) (n : Nat),K.lookup a = some o∧o.cls = .type "list"∧o.dict = none∧o.data = .seq its n∧its.size ≤ sizeLine∧Vals xs its.toList
def SqT (K : PySem.W.Frag) (H : Hp) (a : Addr) (xs : List V) : Prop :=
  Rd H a (.tup xs) ∨
    ∃ (o : Obj) (its : Array Value) (n : Nat),K.lookup a = some o∧o.cls = .type "tuple"∧o.data = .seq its n∧its.size ≤ sizeLine∧Vals xs its.toList
def vq : Value→Option V
  | .none=>some .non
  | .bool b=>some (.bl b)
  | .int i _=>some (.int i)
  | .str x _=>some (.str x)
  | .bytes b _=>some (.byt b)
  | .float b _=>some (.flt b)
  | .ref a=>some (.ref a)
  | .type n=>some (.ty n)
  | _=>none
theorem RelV.abs {x : V} {u : Value} (r : RelV x u) : vq u = some x:=by
  cases x with
  | non=>cases r; rfl
  | bl _=>cases r; rfl
  | int _=>obtain ⟨t,rfl⟩:=r; rfl
  | str _=>obtain ⟨t,rfl⟩:=r; rfl
  | byt _=>obtain ⟨t,rfl⟩:=r; rfl
  | flt _=>obtain ⟨t,rfl⟩:=r; rfl
  | ref _=>cases r; rfl
  | ty _=>cases r; rfl
theorem RelV.inj {x y : V} {u : Value} (r : RelV x u) (q : RelV y u) : x = y:=Option.some.inj (r.abs.symm.trans q.abs)
theorem Vals.inj : ∀ {xs ys : List V} {us : List Value},Vals xs us→Vals ys us→xs = ys
  | _,_,_,.nil,.nil=>rfl
  | _,_,_,.cons r t,.cons r' t'=>by rw [r.inj r',Vals.inj t t']
section
variable {X : Cx} {pins : List (Addr × Obj)} {σ : St} {H : Hp} {s : Shared} {a : Addr} {xs ys : List V}
theorem SqL.of {K : PySem.W.Frag} (h : H a = some (.lst xs)) : SqL K H a xs:=.inl (.inl h)
theorem SqT.of {K : PySem.W.Frag} (h : H a = some (.tup xs)) : SqT K H a xs:=.inl (.inl h)
theorem Inv.list (I : Inv X pins σ H s) (h : SqL X.K H a xs) : ∃ its : List Value,Vals xs its∧PlainL s.heap a its.toArray∧xs.length ≤ sizeLine:=by
  rcases h with h | ⟨o,its,n,hk,hc,hd,hs,hz,r⟩
  · obtain ⟨z,its,n,r,e⟩:=h.ok I.hok
    exact ⟨its,r,⟨_,n,e,rfl,rfl,rfl⟩,z⟩
  · refine ⟨its.toList,r,⟨o,n,I.kIn a o hk,hc,hd,by simpa using hs⟩,?_⟩
    have e:=r.length
    simp only [Array.length_toList] at e
    omega
theorem Inv.tuple (I : Inv X pins σ H s) (h : SqT X.K H a xs) : ∃ its : List Value,Vals xs its∧IsTup s.heap a its.toArray∧xs.length ≤ sizeLine:=by
  rcases h with h | ⟨o,its,n,hk,hc,hs,hz,r⟩
  · obtain ⟨z,its,r,p⟩:=h.ok I.hok
    exact ⟨its,r,p,z⟩
  · refine ⟨its.toList,r,⟨o,I.kIn a o hk,hc,n,by simpa using hs⟩,?_⟩
    have e:=r.length
    simp only [Array.length_toList] at e
    omega
theorem Inv.list_inj (I : Inv X pins σ H s) (h : SqL X.K H a xs) (h' : SqL X.K H a ys) : xs = ys:=by
  obtain ⟨its,r,⟨o,n,e,_,_,d⟩,_⟩:=I.list h
  obtain ⟨its',r',⟨o',n',e',_,_,d'⟩,_⟩:=I.list h'
  rw [e] at e'; cases e'
  rw [d] at d'
  injection d' with d1 _
  have : its = its':=by simpa using congrArg Array.toList d1
  subst this
  exact r.inj r'
theorem Inv.tuple_inj (I : Inv X pins σ H s) (h : SqT X.K H a xs) (h' : SqT X.K H a ys) : xs = ys:=by
  obtain ⟨its,r,⟨o,e,_,n,d⟩,_⟩:=I.tuple h
  obtain ⟨its',r',⟨o',e',_,n',d'⟩,_⟩:=I.tuple h'
  rw [e] at e'; cases e'
  rw [d] at d'
  injection d' with d1 _
  have : its = its':=by simpa using congrArg Array.toList d1
  subst this
  exact r.inj r'
end
abbrev Cx.wish (X : Cx) (E : Value→Shared→Prop) : Cx:={ X with xe:=E }
abbrev Cx.nox (X : Cx) : Cx:=X.wish fun _ _=>False
theorem Cx.Ok.wish {X : Cx} (ok : X.Ok) (E : Value→Shared→Prop) : (X.wish E).Ok :=
  ⟨ok.mod,ok.kind,ok.glob,ok.blt,ok.above,ok.inj,ok.has,ok.cab,ok.hd,ok.frames,ok.stk,ok.exf,ok.bs,ok.bsz,ok.noex,ok.exfs,ok.funs,ok.frf⟩
theorem Cx.Ok.unwish {X : Cx} {E : Value→Shared→Prop} (ok : (X.wish E).Ok) : X.Ok :=
  ⟨ok.mod,ok.kind,ok.glob,ok.blt,ok.above,ok.inj,ok.has,ok.cab,ok.hd,ok.frames,ok.stk,ok.exf,ok.bs,ok.bsz,ok.noex,ok.exfs,ok.funs,ok.frf⟩
section
variable {X : Cx} {pins : List (Addr × Obj)} {σ : St} {H : Hp} {s : Shared} {E : Value→Shared→Prop}
theorem Inv.wish (I : Inv X pins σ H s) (E : Value→Shared→Prop) : Inv (X.wish E) pins σ H s:=⟨I.ok.wish E,I.os,I.bare,I.base,I.loc,I.cell,I.free,I.freeC,I.pin,I.hok,I.len⟩
theorem Inv.unwish (I : Inv (X.wish E) pins σ H s) : Inv X pins σ H s:=⟨I.ok.unwish,I.os,I.bare,I.base,I.loc,I.cell,I.free,I.freeC,I.pin,I.hok,I.len⟩
theorem SP.unwish {D : Ends} {f : Flow} {s' : Shared} (h : SP (X.wish E) pins D f s') : SP X pins D f s':=by
  cases f with
  | next=>obtain ⟨σ',H',I,q⟩:=h; exact ⟨σ',H',I.unwish,q⟩
  | brk=>obtain ⟨σ',H',I,q⟩:=h; exact ⟨σ',H',I.unwish,q⟩
  | cont=>obtain ⟨σ',H',I,q⟩:=h; exact ⟨σ',H',I.unwish,q⟩
  | ret u=>obtain ⟨v,σ',H',I,r,q⟩:=h; exact ⟨v,σ',H',I.unwish,r,q⟩
theorem PSs.nox {st : List Stmt} {t : TS} (h : PSs X.nox st t) : PSs X st t:=fun pins s σ H D I hw =>
  wpAny_mono (h pins s σ H D (I.wish _) hw) (fun _ _ q=>q.unwish) fun _ _ z=>False.elim z
end
section
variable {X : Cx} {st : Stmt} {rest : List Stmt} {t u : TS} {e : Expr} {te : TE} {pos : Pos}
def vf : TS:=fun D σ H=>D.nx σ H
def vB (t u : TS) : TS:=fun D σ H=>t { D with nx:=u D } σ H
theorem az : PSs X [] vf:=fun _ _ σ H _ I h=>wpAny_execs_nil ⟨σ,H,I,h⟩
theorem af (h1 : PS X st t) (h2 : PSs X rest u) : PSs X (st :: rest) (vB t u):=by
  intro pins s σ H D I h
  refine wpAny_execs_cons (thn (h1 pins s σ H { D with nx:=u D } I h) fun f s1 q=>?_)
  cases f with
  | next =>
    obtain ⟨σ',H',I',q⟩:=q
    exact h2 pins s1 σ' H' D I' q
  | ret v=>exact q
  | brk=>exact q
  | cont=>exact q
theorem ah (h1 : PS X st t) : PSs X [st] t:=by
  intro pins s σ H D I h
  refine wpAny_execs_cons (thn (h1 pins s σ H D I h) fun f s1 q=>?_)
  cases f with
  | next=>exact wpAny_execs_nil q
  | ret v=>exact q
  | brk=>exact q
  | cont=>exact q
def u5 : TS:=fun D σ H=>D.ct σ H
theorem f6 : PS X (.Continue pos) u5:=fun _ _ σ H _ I h=>wpAny_Continue ⟨σ,H,I,h⟩
theorem Inv.quiet {pins : List (Addr × Obj)} {σ : St} {H : Hp} {s : Shared} (I : Inv X pins σ H s) : interactive X.env = false:=by simp [interactive,I.ok.kind]
def va (te : TE) : TS:=fun D σ H=>te σ H fun _ H1=>D.nx σ H1
theorem aM (he : PE X e te) (hs : swapsWith e none pos.line X.env = pure false:=by rfl) : PS X (.Expr e pos) (va te):=by
  intro pins s σ H D I h
  refine wpAny_Expr_any (thn (he pins s σ H _ I h) fun v s1 hm0=>?_) I.quiet hs
  obtain ⟨x,H1,I1,r1,q1⟩:=hm0
  exact ⟨σ,H1,I1,q1⟩
def vG (te : TE) : TS:=fun D σ H=>te σ H D.rt
theorem aA (he : PE X e te) : PS X (.Return (some e) pos) (vG te):=by
  intro pins s σ H D I h
  refine wpAny_Return_some (thn (he pins s σ H _ I h) fun v s1 hm0=>?_)
  obtain ⟨x,H1,I1,r1,q1⟩:=hm0
  exact ⟨x,σ,H1,I1,r1,q1⟩
def vE (c : TT) (t u : TS) : TS:=fun D σ H=>c σ H fun b H1=>if b = true then t D σ H1 else u D σ H1
theorem aL {c : Expr} {a b : List Stmt} {tc : TT} (hc : PT X c tc) (ha : PSs X a t) (hb : PSs X b u) : PS X (.If c a b pos) (vE tc t u):=by
  intro pins s σ H D I h
  refine wpAny_If (thn (hc pins s σ H _ I h) fun d s1 hm0=>?_)
  obtain ⟨H1,I1,q1⟩:=hm0
  cases d with
  | true=>exact ha pins s1 σ H1 D I1 q1
  | false=>exact hb pins s1 σ H1 D I1 q1
def tR : TS:=fun _ _ _=>False
theorem fA : PS X st tR:=fun _ _ _ _ _ _ h=>h.elim
end
abbrev TG:=V→St→Hp→(St→Hp→Prop)→Prop
abbrev TGs:=List V→St→Hp→(St→Hp→Prop)→Prop
def PG (X : Cx) (target : Expr) (t : TG) : Prop :=
  ∀ (pins : List (Addr × Obj)) (s : Shared) (σ : St) (H : Hp) (v : V) (u : Value) (Q : St→Hp→Prop),Inv X pins σ H s→RelV v u→t v σ H Q →
    wpAny (model X.prog X.w) X.A (assign target X.env u) (fun _ s'=>∃ σ' H',Inv X pins σ' H' s'∧Q σ' H') X.xe s
def PGs (X : Cx) (ts : List Expr) (t : TGs) : Prop :=
  ∀ (pins : List (Addr × Obj)) (s : Shared) (σ : St) (H : Hp) (vs : List V) (us : List Value) (Q : St→Hp→Prop),Inv X pins σ H s→Vals vs us→t vs σ H Q →
    wpAny (model X.prog X.w) X.A (assignInOrder ((assignEach ts X.env).map (·.2)) us) (fun _ s'=>∃ σ' H',Inv X pins σ' H' s'∧Q σ' H') X.xe s
abbrev uC:=V→V→V→Hp→(Hp→Prop)→Prop
def u4 (X : Cx) (t : uC) : Prop :=
  ∀ (pins : List (Addr × Obj)) (s : Shared) (σ : St) (H : Hp) (o i v : V) (ov iv u : Value) (Q : Hp→Prop),Inv X pins σ H s→RelV o ov→RelV i iv→RelV v u→t o i v H Q →
    wpAny (model X.prog X.w) X.A (setItem ov iv u) (fun _ s'=>∃ H',Inv X pins σ H' s'∧Q H') X.xe s
abbrev TIp:=V→V→Hp→VK→Prop
def PIp (X : Cx) (op : Operator) (t : TIp) : Prop :=
  ∀ (pins : List (Addr × Obj)) (s : Shared) (σ : St) (H : Hp) (x y : V) (v u : Value) (Q : VK),Inv X pins σ H s→RelV x v→RelV y u→t x y H Q →
    wpAny (model X.prog X.w) X.A (inplaceOp op v u) (EP X pins σ Q) X.xe s
section
variable {X : Cx} {pos : Pos}
def aN (i : Nat) : TG:=fun v σ H Q=>Q (σ.set i (some v)) H
theorem av {i : Nat} {x : Str} (hN : X.N.Nodup) (hi : X.N[i]? = some x) (hx : Loc X.env.scope x) (hf : X.fn x = true ∨ X.env.scope.names.lookup x = some .local:=by first | exact .inl rfl | exact .inr rfl | assumption) : PG X (.Name x pos) (aN i):=by
  intro pins s σ H v u Q I r h
  exact wpAny_assign_Name (fe I hN hi hx r (fun s' I'=>⟨_,H,I',h⟩) hf)
def iS : TGs:=fun vs σ H Q=>vs = []∧Q σ H
def bz (t : TG) (u : TGs) : TGs:=fun vs σ H Q=>∃ v r,vs = v :: r∧t v σ H fun σ' H'=>u r σ' H' Q
theorem bR : PGs X [] iS:=by
  intro pins s σ H vs us Q I r h
  obtain ⟨e,h⟩:=h
  subst e
  cases r
  exact assignInOrder_nil ⟨σ,H,I,h⟩
theorem aB {e : Expr} {es : List Expr} {t : TG} {u : TGs} (h1 : PG X e t) (h2 : PGs X es u)
    (hs : (assignEach (e :: es) X.env).map (·.2) = assign e X.env :: (assignEach es X.env).map (·.2):=by rfl) : PGs X (e :: es) (bz t u):=by
  intro pins s σ H vs us Q I r h
  obtain ⟨v,vr,e1,h⟩:=h
  subst e1
  cases r with
  | cons r rr =>
    rw [hs]
    refine assignInOrder_cons (thn (h1 pins s σ H _ _ _ I r h) fun _ s1 hm0=>?_)
    obtain ⟨σ1,H1,I1,q1⟩:=hm0
    exact h2 pins s1 σ1 H1 _ _ Q I1 rr q1
def lY (K : PySem.W.Frag) (n : Nat) (t : TGs) : TG:=fun v σ H Q=>∃ a xs,v = .ref a∧SqT K H a xs∧xs.length = n∧t xs σ H Q
theorem cA {es : List Expr} {k : Nat} {t : TGs} {n : Nat} (hc : X.calm = true) (h : PGs X es t)
    (hn : (assignEach es X.env).length = n:=by rfl) (hst : (assignEach es X.env).findIdx? (·.1) = none:=by rfl) : PG X (.Tuple es k pos) (lY X.K n t):=by
  intro pins s σ H v u Q I r hw
  obtain ⟨a,xs,e1,hq,hl,hw⟩:=hw
  subst e1
  cases r
  obtain ⟨its,rv,ht,hz⟩:=I.tuple hq
  refine assign_Tuple_tuple (I.ok.hd hc) ht (by simp [hn,← hl,rv.length]) hst fun h' hx=>?_
  have I1 : Inv X pins σ H { s with heap:=h' }:=I.kept (t':=s.toks) fun b o e=>hx b o (Nat.ne_of_lt (Heap.lt_size e)) e
  exact h pins _ σ H xs _ Q I1 (by simpa using rv) hw
def vR (to ti : TE) (t : uC) : TG:=fun v σ H Q=>to σ H fun o H1=>ti σ H1 fun i H2=>t o i v H2 fun H3=>Q σ H3
theorem lO {o i : Expr} {to ti : TE} {t : uC} (ho : PE X o to) (hi : PE X i ti) (hs : u4 X t)
    (ha : ∀ v,assign (.Subscript o i pos) X.env v = (do
      let ov ← holding [v] (eval o X.env)
      let iv ← holding [v,ov] (eval i X.env)
      standAt pos
      holding [v,ov,iv] (setItem ov iv v)
      release [v,ov,iv] []):=by intro _; rfl) : PG X (.Subscript o i pos) (vR to ti t):=by
  intro pins s σ H v u Q I r h
  rw [ha]
  refine wpAny_bind (wpAny_holding (thn (ho pins s σ H _ I h) fun ov s1 hm0=>?_))
  obtain ⟨x,H1,I1,r1,q1⟩:=hm0
  refine wpAny_bind (wpAny_holding (thn (hi pins s1 σ H1 _ I1 q1) fun iv s2 hm0=>?_))
  obtain ⟨y,H2,I2,r2,q2⟩:=hm0
  refine wpAny_bind (wpAny_standAt (wpAny_bind (wpAny_holding (thn (hs pins s2 σ H2 x y v ov iv u _ I2 r1 r2 r q2) fun _ s3 hm0=>?_))))
  obtain ⟨H3,I3,q3⟩:=hm0
  exact wpAny_release ⟨σ,H3,I3,q3⟩
def nF (te : TE) (g : TG) : TS:=fun D σ H=>te σ H fun x H1=>g x σ H1 D.nx
theorem lH {tg e : Expr} {te : TE} {g : TG} (he : PE X e te) (hg : PG X tg g) (hs : swapsWithSole [tg] e pos.line X.env = pure false:=by rfl) (hw : swappedStores [tg] e X.env = pure none:=by rfl)
    (h1 : (assignEach [tg] X.env).map (·.2) = [assign tg X.env]:=by rfl) : PS X (.Assign [tg] e pos) (nF te g):=by
  intro pins s σ H D I h
  refine wpAny_Assign_stores (thn (he pins s σ H _ I h) fun v s1 hm0=>?_) hs hw
  obtain ⟨x,H1,I1,r1,q1⟩:=hm0
  rw [h1]
  exact thn (hg pins s1 σ H1 x v _ I1 r1 q1) fun _ s2 q=>q
theorem aq {i : Nat} {x : Str} {e : Expr} {te : TE} {pos' : Pos} (hN : X.N.Nodup) (hi : X.N[i]? = some x) (hx : Loc X.env.scope x) (he : PE X e te) (hs : swapsWith e (some (.Name x pos')) pos.line X.env = pure false:=by rfl) (hf : X.fn x = true ∨ X.env.scope.names.lookup x = some .local:=by first | exact .inl rfl | exact .inr rfl | assumption) :
    PS X (.Assign [.Name x pos'] e pos) (nF te (aN i)):=by
  intro pins s σ H D I h
  refine wpAny_Assign_Name (thn (he pins s σ H _ I h) fun v s1 hm0=>?_) hs
  obtain ⟨y,H1,I1,r1,q1⟩:=hm0
  exact fe I1 hN hi hx r1 (fun s2 I2=>⟨_,H1,I2,q1⟩) hf
def vK (i : Nat) (te : TE) (ti : TIp) : TS:=fun D σ H=>∃ x,σ[i]? = some (some x)∧te σ H fun y H1=>ti x y H1 fun z H2=>D.nx (σ.set i (some z)) H2
theorem uk {i : Nat} {x : Str} {e : Expr} {te : TE} {op : Operator} {ti : TIp} {pos' : Pos} (hN : X.N.Nodup) (hi : X.N[i]? = some x) (hx : Loc X.env.scope x) (he : PE X e te) (ho : PIp X op ti) (hf : X.fn x = true ∨ X.env.scope.names.lookup x = some .local:=by first | exact .inl rfl | exact .inr rfl | assumption) :
    PS X (.AugAssign (.Name x pos') op e pos) (vK i te ti):=by
  intro pins s σ H D I h
  obtain ⟨v,e1,h⟩:=h
  obtain ⟨m,hn,hl⟩:=I.loc
  have vis : Vis X.env.scope x:=by rcases hx with k | k; exact .inl k; exact .inr (.inl k)
  obtain ⟨u,r,l⟩:=hl i x v hi e1 vis
  refine wpAny_AugAssign_Name ?_
  have go : wpAny (model X.prog X.w) X.A (eval e X.env) (fun w s₂=>wpAny (model X.prog X.w) X.A (inplaceOp op u w) (fun r s₃=>wpAny (model X.prog X.w) X.A (storeName X.env x r) (fun _=>SP X pins D .next) X.xe s₃) X.xe s₂) X.xe s:=by
    refine thn (he pins s σ H _ I h) fun w s1 hm0=>?_
    obtain ⟨y,H1,I1,r1,q1⟩:=hm0
    refine thn (ho pins s1 σ H1 v y u w _ I1 r r1 q1) fun z s2 hm0=>?_
    obtain ⟨zv,H2,I2,r2,q2⟩:=hm0
    exact fe I2 hN hi hx r2 (fun s3 I3=>⟨_,H2,I3,q2⟩) hf
  rcases l with ⟨hk,hm⟩ | ⟨hk,c,hc,hcell⟩
  · exact wpAny_loadName_local I.ok.kind hk hn hm go
  · rcases hk with hk | hk
    · exact wpAny_loadName_cell I.ok.kind hk hc hcell go
    · rcases hx with k | k
      · have : X.env.scope.names.lookup x = some .free:=hk
        rw [k] at this; cases this
      · have : X.env.scope.names.lookup x = some .free:=hk
        rw [k] at this; cases this
end
section
variable {X : Cx} {pos : Pos}
def tJ (c : TT) (tb : TS) : TS:=fun D σ H=>∃ W : Nat→St→Hp→Prop,(∃ m,W m σ H)∧∀ m σ H,W m σ H →
  c σ H fun b H1=>if b = true then ∃ N : St→Hp→Prop,(∀ σ' H',N σ' H'→∃ m',m' < m∧W m' σ' H')∧tb { D with nx:=N,ct:=N,bk:=D.nx } σ H1 else D.nx σ H1
theorem kK {c : Expr} {body : List Stmt} {tc : TT} {tb : TS} (hp : PassesOwn (model X.prog X.w) X.A X.env X.xe) (hc : PT X c tc) (hb : PSs X body tb) : PS X (.While c body [] pos) (tJ tc tb):=by
  intro pins s σ H D I h
  obtain ⟨W,⟨m0,w0⟩,turn⟩:=h
  refine wpAny_While (codeAny_whileLoop (fun n s'=>∃ σ' H',Inv X pins σ' H' s'∧W n σ' H') ?_ m0 ⟨σ,H,I,w0⟩)
  rintro n s1 ⟨σ1,H1,I1,w1⟩
  refine wpAny_passesOwn hp (thn (hc pins s1 σ1 H1 _ I1 (turn n σ1 H1 w1)) fun b s2 hm0=>?_)
  obtain ⟨H2,I2,q2⟩:=hm0
  cases b with
  | true =>
    obtain ⟨N,hN,q2⟩:=q2
    rw [if_pos rfl]
    refine wpAny_passesOwn hp (thn (hb pins s2 σ1 H2 _ I2 q2) fun f s3 q3=>?_)
    cases f with
    | next =>
      obtain ⟨σ3,H3,I3,n3⟩:=q3
      obtain ⟨m',hm,w3⟩:=hN σ3 H3 n3
      exact ⟨m',hm,σ3,H3,I3,w3⟩
    | cont =>
      obtain ⟨σ3,H3,I3,n3⟩:=q3
      obtain ⟨m',hm,w3⟩:=hN σ3 H3 n3
      exact ⟨m',hm,σ3,H3,I3,w3⟩
    | brk=>exact q3
    | ret v=>exact q3
  | false =>
    rw [if_neg Bool.false_ne_true]
    exact wpAny_execs_nil ⟨σ1,H2,I2,q2⟩
end
structure It where
  go : Nat→Hp→Prop
  yld : Nat→Hp→V→Hp→Prop
  stop : Nat→Hp→Prop
def FpOk (X : Cx) (pins : List (Addr × Obj)) (H : Hp) (b : Addr) : Prop :=
  H b = none∧b ≠ X.env.locals∧b ∉ X.fs∧(b ∈ X.ex ∨ X.s₀.heap.objs.size ≤ b)∧(∀ x c,X.env.cells.lookup x = some c→c ≠ b)∧∀ p ∈ X.pn ++ pins,p.1 ≠ b
theorem Inv.fpOk {X : Cx} {pins : List (Addr × Obj)} {σ : St} {H H' : Hp} {s : Shared} {b : Addr} (I : Inv X pins σ H s) (hb : s.heap.objs.size ≤ b) (hn : H' b = none) : FpOk X pins H' b:=by
  refine ⟨hn,Nat.ne_of_gt (Nat.lt_of_lt_of_le I.lt hb),I.nofs hb,.inr (Nat.le_trans I.sz hb),fun x c e z=>?_,fun p hp z=>?_⟩
  · obtain ⟨v,q⟩:=I.cell x c e
    exact absurd (Nat.lt_of_lt_of_le q.lt (by rw [z]; exact hb)) (Nat.lt_irrefl _)
  · exact absurd (Nat.lt_of_lt_of_le (Heap.lt_size (I.pin p hp).1) (by rw [z]; exact hb)) (Nat.lt_irrefl _)
structure Turn (P : Program) (w : World) (K : PySem.W.Frag) (tg : Expr) (J : It) (fp : List Addr) (it : Addr) (tn : Nat→Heap→Prop) : Prop where
  mem : it ∈ fp
  obj : ∀ i h,tn i h→∀ b ∈ fp,∃ o,h.get? b = some o∧∀ v,o.data ≠ .cell v
  keep : ∀ i h h',tn i h→(∀ b ∈ fp,∀ o,h.get? b = some o→h'.get? b = some o)→tn i h'
  item : ∀ (X : Cx),X.prog = P→X.w = w→X.K = K→X.calm = true→∀ (i : Nat) (pins : List (Addr × Obj)) (s : Shared) (σ : St) (H : Hp) (E : Value→Shared→Prop),Inv X pins σ H s→(∀ b ∈ fp,FpOk X pins H b)→tn i s.heap→J.go i H →
    wpAny (model P w) X.A (pyNext (.ref it)) (fun r s1=>∃ u,r = some u ∧
      wpAny (model P w) X.A (letOwnedTupleGo tg (.ref it) u) (fun _ s2=>∃ x H',Inv X pins σ H' s2∧RelV x u∧J.yld i H x H'∧tn (i + 1) s2.heap∧∀ b ∈ fp,H' b = none) E s1) E s
  done : ∀ (X : Cx),X.prog = P→X.w = w→X.K = K→X.calm = true→∀ (i : Nat) (pins : List (Addr × Obj)) (s : Shared) (σ : St) (H : Hp) (E : Value→Shared→Prop),Inv X pins σ H s→(∀ b ∈ fp,FpOk X pins H b)→tn i s.heap→J.stop i H →
    wpAny (model P w) X.A (pyNext (.ref it)) (fun r s1=>r = none∧Inv X pins σ H s1) E s
  self : ∀ (A : Around) (i : Nat) (s : Shared) (Q : Value→Shared→Prop) (E : Value→Shared→Prop),tn i s.heap→Q (.ref it) s→wpAny (model P w) A (pyIter (.ref it)) Q E s
abbrev TI:=St→Hp→(It→Hp→Prop)→Prop
def PIE (X : Cx) (pins : List (Addr × Obj)) (σ : St) (tg : Expr) (R : It→Hp→Prop) (itv : Value) (s2 : Shared) : Prop :=
  ∃ (it : Addr) (fp : List Addr) (tn : Nat→Heap→Prop) (J : It) (H' : Hp),itv = .ref it∧Inv X pins σ H' s2∧Turn X.prog X.w X.K tg J fp it tn∧tn 0 s2.heap∧(∀ b ∈ fp,FpOk X pins H' b)∧R J H'
def PI (X : Cx) (tg iter : Expr) (wi : TI) : Prop :=
  ∀ (pins : List (Addr × Obj)) (s : Shared) (σ : St) (H : Hp) (R : It→Hp→Prop),Inv X pins σ H s→wi σ H R →
    wpAny (model X.prog X.w) X.A (eval iter X.env) (fun v s1=>wpAny (model X.prog X.w) X.A (pyIter v) (PIE X pins σ tg R) X.xe s1) X.xe s
theorem pC {M : Model} {A : Around} {E : Value→Shared→Prop} {s : Shared} {tg : Expr} {it : Addr} {u : Value} {o : Obj} {n : String} {vs : Array Value} {Q : Unit→Shared→Prop} (ho : s.heap.get? it = some o) (hc : o.cls = .type n) (hd : o.data = .fields vs)
    (hn : ["enumerate","zip","dict_itemiterator","dict_reverseitemiterator","odict_iterator","itertools.zip_longest","itertools.pairwise"].contains n = false) (hQ : Q () s) : wpAny M A (letOwnedTupleGo tg (.ref it) u) Q E s:=by
  unfold letOwnedTupleGo
  cases tg <;> first
    | exact wpAny_pure hQ
    | (cases u <;> first
        | exact wpAny_pure hQ
        | (refine wpAny_bind (wpAny_load ho ?_)
           rw [hc,hd]
           show wpAny M A (if (["enumerate","zip","dict_itemiterator","dict_reverseitemiterator","odict_iterator","itertools.zip_longest","itertools.pairwise"].contains n && vs[0]? == some (rawInt _)) = true then _ else _) Q E s
           rw [if_neg (by intro h; rw [hn,Bool.false_and] at h; cases h)]
           exact wpAny_pure hQ))
def Itl (K : PySem.W.Frag) (a : Addr) : It :=
  ⟨fun i H=>∃ xs x,SqL K H a xs∧xs[i]? = some x,fun i H x H'=>H' = H∧∀ xs,SqL K H a xs→xs[i]? = some x,fun i H=>∃ xs,SqL K H a xs∧xs.length ≤ i⟩
def Itt (K : PySem.W.Frag) (a : Addr) : It :=
  ⟨fun i H=>∃ xs x,SqT K H a xs∧xs[i]? = some x,fun i H x H'=>H' = H∧∀ xs,SqT K H a xs→xs[i]? = some x,fun i H=>∃ xs,SqT K H a xs∧xs.length ≤ i⟩
def Itr (lo : Int) (n : Nat) : It:=⟨fun i _=>i < n,fun i H x H'=>H' = H∧x = .int (lo + i),fun i _=>n ≤ i⟩
theorem nw {P : Program} {w : World} {K : PySem.W.Frag} {tg : Expr} (a it : Addr) : Turn P w K tg (Itl K a) [it] it (fun i h=>h.IsListIter it a i) where
  mem:=by simp
  obj:=fun i h st b hb=>by
    have e : b = it:=by simpa using hb
    subst e
    obtain ⟨o,e,c,d⟩:=st
    exact ⟨o,e,fun v z=>by rw [d] at z; cases z⟩
  keep:=fun i h h' st k=>st.at fun o e=>k it (by simp) o e
  item:=by
    intro X hP hw hK hc i pins s σ H E I hf st hg
    subst hP hw hK
    obtain ⟨xs,x,hq,hx⟩:=hg
    obtain ⟨its,rv,p,hz⟩:=I.list hq
    obtain ⟨u,hu,ru⟩:=rv.get hx
    obtain ⟨f0,f1,f2,f3,f4,f5⟩:=hf it (by simp)
    refine wpAny_pyNext_list_item st p.isList (x:=u) (by simpa using hu) fun h' st' sb=>?_
    have I1 : Inv X pins σ H { s with heap:=h' }:=I.turned (t':=s.toks) (fun b o hb e=>(sb.2 b hb).trans e) f0 f1 f3 f4 f5
    obtain ⟨o,e,c,d⟩:=id st'
    exact ⟨u,rfl,pC (s:={ s with heap:=h' }) e c d (by decide) ⟨x,H,I1,ru,⟨rfl,fun ys hy=>by rw [I.list_inj hy hq]; exact hx⟩,st',fun b hb=>(hf b hb).1⟩⟩
  done:=by
    intro X hP hw hK hc i pins s σ H E I hf st hg
    subst hP hw hK
    obtain ⟨xs,hq,hx⟩:=hg
    obtain ⟨its,rv,p,hz⟩:=I.list hq
    obtain ⟨f0,f1,f2,f3,f4,f5⟩:=hf it (by simp)
    have hl:=rv.length
    exact wpAny_pyNext_list_end (I.ok.hd hc) st p.isList (by simp; omega) fun h' eb=>⟨rfl,I.turned (t':=s.toks) (fun b o hb e=>eb b o hb e) f0 f1 f3 f4 f5⟩
  self:=fun _ _ _ _ _ st h=>wpAny_pyIter_listiter st h
theorem lZ {P : Program} {w : World} {K : PySem.W.Frag} {tg : Expr} (a it : Addr) : Turn P w K tg (Itt K a) [it] it (fun i h=>h.IsTupleIter it a i) where
  mem:=by simp
  obj:=fun i h st b hb=>by
    have e : b = it:=by simpa using hb
    subst e
    obtain ⟨o,e,c,d⟩:=st
    exact ⟨o,e,fun v z=>by rw [d] at z; cases z⟩
  keep:=fun i h h' st k=>st.at fun o e=>k it (by simp) o e
  item:=by
    intro X hP hw hK hc i pins s σ H E I hf st hg
    subst hP hw hK
    obtain ⟨xs,x,hq,hx⟩:=hg
    obtain ⟨its,rv,p,hz⟩:=I.tuple hq
    obtain ⟨u,hu,ru⟩:=rv.get hx
    obtain ⟨f0,f1,f2,f3,f4,f5⟩:=hf it (by simp)
    refine wpAny_pyNext_tuple_item st (show s.heap.IsTuple a its.toArray from p) (x:=u) (by simpa using hu) fun h' st' sb=>?_
    have I1 : Inv X pins σ H { s with heap:=h' }:=I.turned (t':=s.toks) (fun b o hb e=>(sb.2 b hb).trans e) f0 f1 f3 f4 f5
    obtain ⟨o,e,c,d⟩:=id st'
    exact ⟨u,rfl,pC (s:={ s with heap:=h' }) e c d (by decide) ⟨x,H,I1,ru,⟨rfl,fun ys hy=>by rw [I.tuple_inj hy hq]; exact hx⟩,st',fun b hb=>(hf b hb).1⟩⟩
  done:=by
    intro X hP hw hK hc i pins s σ H E I hf st hg
    subst hP hw hK
    obtain ⟨xs,hq,hx⟩:=hg
    obtain ⟨its,rv,p,hz⟩:=I.tuple hq
    obtain ⟨f0,f1,f2,f3,f4,f5⟩:=hf it (by simp)
    have hl:=rv.length
    exact wpAny_pyNext_tuple_end (I.ok.hd hc) st (show s.heap.IsTuple a its.toArray from p) (by simp; omega) fun h' eb=>⟨rfl,I.turned (t':=s.toks) (fun b o hb e=>eb b o hb e) f0 f1 f3 f4 f5⟩
  self:=fun _ _ _ _ _ st h=>wpAny_pyIter_tupleiter st h
theorem lR {P : Program} {w : World} {K : PySem.W.Frag} {tg : Expr} (it : Addr) (lo : Int) (n : Nat) : Turn P w K tg (Itr lo n) [it] it (fun i h=>IsRangeIter h it (lo + (i : Nat) * 1) ((n : Int) - (i : Nat)) 1) where
  mem:=by simp
  obj := fun i h st b hb=>by
    have e : b = it:=by simpa using hb
    subst e
    exact ⟨_,st,fun v z=>by
      have z' : Data.fields _ = Data.cell v:=z
      cases z'⟩
  keep:=fun i h h' st k=>k it (by simp) _ st
  item:=by
    intro X hP hw hK hc i pins s σ H E I hf st hg
    subst hP hw hK
    obtain ⟨f0,f1,f2,f3,f4,f5⟩:=hf it (by simp)
    have W:=Walks.range (prog:=X.prog) (w:=X.w) (I.ok.hd hc) it lo 1 n
    refine W.item i s _ _ hg st fun v h' tk hv st' kk=>?_
    obtain ⟨t,rfl⟩:=hv
    have I1 : Inv X pins σ H { s with heap:=h',toks:=tk }:=I.turned (fun b o hb e=>kk b o (by simpa using hb) e) f0 f1 f3 f4 f5
    refine ⟨_,rfl,pC (s:={ s with heap:=h',toks:=tk }) (n := "range_iterator") st' rfl rfl (by decide) ⟨.int (lo + i),H,I1,⟨t,?_⟩,⟨rfl,rfl⟩,st',fun b hb=>(hf b hb).1⟩⟩
    rw [Int.mul_one]
  done:=by
    intro X hP hw hK hc i pins s σ H E I hf st hg
    subst hP hw hK
    obtain ⟨f0,f1,f2,f3,f4,f5⟩:=hf it (by simp)
    exact wpAny_pyNext_range_end (I.ok.hd hc) st (by have : n ≤ i:=hg; omega) fun h' eb=>⟨rfl,I.turned (t':=s.toks) (fun b o hb e=>eb b o hb e) f0 f1 f3 f4 f5⟩
  self:=fun _ _ _ _ _ st h=>wpAny_pyIter_rangeiter st h
section
variable {X : Cx} {tg : Expr}
def tE (K : PySem.W.Frag) (tl : TE) : TI:=fun σ H R=>tl σ H fun x H1=>∃ a,x = .ref a∧(∃ xs,SqL K H1 a xs)∧R (Itl K a) H1
def vL (K : PySem.W.Frag) (tl : TE) : TI:=fun σ H R=>tl σ H fun x H1=>∃ a,x = .ref a∧(∃ xs,SqT K H1 a xs)∧R (Itt K a) H1
theorem bj {l : Expr} {tl : TE} (hl : PE X l tl) : PI X tg l (tE X.K tl):=by
  intro pins s σ H R I h
  refine thn (hl pins s σ H _ I h) fun v s1 hm0=>?_
  obtain ⟨x,H1,I1,r1,q1⟩:=hm0
  obtain ⟨a,e,⟨xs,hq⟩,q⟩:=q1
  subst e
  cases r1
  obtain ⟨its,rv,p,hz⟩:=I1.list hq
  refine wpAny_pyIter_list p.isList ?_
  refine ⟨s1.heap.objs.size,[s1.heap.objs.size],_,_,H1,rfl,I1.kept (t':=s1.toks) fun b o e=>Heap.get?_push_of_some _ e,nw a _,⟨_,Heap.get?_push_size _ rfl,rfl,rfl⟩,fun b hb=>?_,q⟩
  have e : b = s1.heap.objs.size:=by simpa using hb
  subst e
  exact I1.fpOk (Nat.le_refl _) (I1.hok.fresh (Nat.le_refl _))
theorem uw {l : Expr} {tl : TE} (hl : PE X l tl) : PI X tg l (vL X.K tl):=by
  intro pins s σ H R I h
  refine thn (hl pins s σ H _ I h) fun v s1 hm0=>?_
  obtain ⟨x,H1,I1,r1,q1⟩:=hm0
  obtain ⟨a,e,⟨xs,hq⟩,q⟩:=q1
  subst e
  cases r1
  obtain ⟨its,rv,p,hz⟩:=I1.tuple hq
  refine wpAny_pyIter_tuple (show s1.heap.IsTuple a its.toArray from p) ?_
  refine ⟨s1.heap.objs.size,[s1.heap.objs.size],_,_,H1,rfl,I1.kept (t':=s1.toks) fun b o e=>Heap.get?_push_of_some _ e,lZ a _,⟨_,Heap.get?_push_size _ rfl,rfl,rfl⟩,fun b hb=>?_,q⟩
  have e : b = s1.heap.objs.size:=by simpa using hb
  subst e
  exact I1.fpOk (Nat.le_refl _) (I1.hok.fresh (Nat.le_refl _))
theorem pO {pins : List (Addr × Obj)} {σ : St} {H : Hp} {s : Shared} {R : It→Hp→Prop} {E : Value→Shared→Prop} {lo hi : Int} {t u v : Tok} {tk : Nat} (I : Inv X pins σ H s) (h1 : -(2 ^ 62) ≤ lo) (h2 : lo < 2 ^ 62) (h3 : -(2 ^ 62) ≤ hi) (h4 : hi < 2 ^ 62)
    (q : R (Itr lo (hi - lo).toNat) H) : wpAny (model X.prog X.w) X.A (pyIter (.ref s.heap.objs.size)) (PIE X pins σ tg R) E { s with heap:=s.heap.push { cls:=.type "range",data:=.fields #[.int lo t,.int hi u,.int 1 v] },toks:=tk }:=by
  refine wpAny_pyIter_range (IsRange.new ..) (small_one h1 h2 h3 h4) ?_
  have I1 : Inv X pins σ H { s with heap:=s.heap.push { cls:=.type "range",data:=.fields #[.int lo t,.int hi u,.int 1 v] },toks:=tk }:=I.kept fun b o e=>Heap.get?_push_of_some _ e
  refine ⟨(s.heap.push { cls:=.type "range",data:=.fields #[.int lo t,.int hi u,.int 1 v] }).objs.size,[(s.heap.push { cls:=.type "range",data:=.fields #[.int lo t,.int hi u,.int 1 v] }).objs.size],_,_,H,rfl,
    I1.kept (t':=tk) fun b o e=>Heap.get?_push_of_some _ e,lR _ lo (hi - lo).toNat,?_,fun b hb=>?_,q⟩
  · have e1 : lo + ((0 : Nat) : Int) * 1 = lo:=by simp
    have e2 : (((hi - lo).toNat : Nat) : Int) - ((0 : Nat) : Int) = Builtin.Range.rangeSize lo hi 1:=by rw [rangeSize_one]; split <;> omega
    show IsRangeIter _ _ (lo + ((0 : Nat) : Int) * 1) ((((hi - lo).toNat : Nat) : Int) - ((0 : Nat) : Int)) 1
    rw [e1,e2]
    exact Heap.get?_push_size _ rfl
  · have e : b = (s.heap.push { cls:=.type "range",data:=.fields #[.int lo t,.int hi u,.int 1 v] }).objs.size:=by simpa using hb
    subst e
    exact I1.fpOk (Nat.le_refl _) (I1.hok.fresh (Nat.le_refl _))
def uM (ta : TA) : TI:=fun σ H R=>ta σ H fun vs H1=>∃ j : Int,vs = [.int j]∧-(2 ^ 62) ≤ j∧j < 2 ^ 62∧R (Itr 0 j.toNat) H1
theorem b6 {a : Expr} {ta : TA} {p pos : Pos} (hg : Gl X "range") (hm : X.mg "range" = none) (ha : PA X [a] ta) (hs : starEach [a] X.env = [(false,eval a X.env)]:=by rfl) : PI X tg (.Call (.Name "range" p) [a] [] pos) (uM ta):=by
  intro pins s σ H R I h
  refine Call_ (c6 I hg hm boot_range (PyProof.Rows.callWith_type1 (thn (ha pos pins s σ H _ I h) fun us s1 hm0=>?_) hs rfl))
  obtain ⟨vs,H1,I1,r1,q1⟩:=hm0
  obtain ⟨j,e,q1,q2,q⟩:=q1
  subst e
  cases r1 with
  | cons r rr =>
    cases rr
    obtain ⟨t,rfl⟩:=r
    exact call_range_1 (pO I1 (by omega) (by omega) q1 q2 (by simpa using q))
def vC (wi : TI) (g : TG) (tb : TS) : TS:=fun D σ H=>wi σ H fun J H1=>∃ W : Nat→Nat→St→Hp→Prop,(∃ m,W 0 m σ H1)∧∀ i m σ H,W i m σ H →
  (J.stop i H∧D.nx σ H) ∨ (J.go i H∧∃ N : St→Hp→Prop,(∀ σ' H',N σ' H'→∃ m',m' < m∧W (i + 1) m' σ' H')∧∀ x H',J.yld i H x H'→g x σ H' fun σ2 H2=>tb { D with nx:=N,ct:=N,bk:=D.nx } σ2 H2)
def fb (fp : List Addr) (h : Heap) : List (Addr × Obj):=fp.filterMap fun b=>(h.get? b).map fun o=>(b,o)
theorem bG {fp : List Addr} {h : Heap} {b : Addr} {o : Obj} (hb : b ∈ fp) (e : h.get? b = some o) : (b,o) ∈ fb fp h:=List.mem_filterMap.mpr ⟨b,hb,by rw [e]; rfl⟩
theorem n6 {fp : List Addr} {h : Heap} {p : Addr × Obj} (hp : p ∈ fb fp h) : p.1 ∈ fp∧h.get? p.1 = some p.2:=by
  obtain ⟨b,hb,e⟩:=List.mem_filterMap.mp hp
  cases q : h.get? b with
  | none=>rw [q] at e; cases e
  | some o =>
    rw [q] at e
    have e' : (b,o) = p:=Option.some.inj e
    subst e'
    exact ⟨hb,q⟩
theorem Inv.pinned {pins : List (Addr × Obj)} {σ : St} {H : Hp} {s : Shared} {fp : List Addr} (I : Inv X pins σ H s) (hf : ∀ b ∈ fp,FpOk X pins H b) (ho : ∀ b ∈ fp,∃ o,s.heap.get? b = some o∧∀ v,o.data ≠ .cell v) : Inv X (pins ++ fb fp s.heap) σ H s :=
  I.pins_of fun p hp=>(List.mem_append.mp hp).elim (fun z=>I.pin p (List.mem_append_right _ z)) fun z=>by
    obtain ⟨hb,e⟩:=n6 z
    obtain ⟨f0,f1,f2,_⟩:=hf p.1 hb
    obtain ⟨o,e',d⟩:=ho p.1 hb
    rw [e] at e'; cases e'
    exact ⟨e,f0,f1,f2,d⟩
theorem Inv.unpinned {pins pl : List (Addr × Obj)} {σ : St} {H : Hp} {s : Shared} (I : Inv X (pins ++ pl) σ H s) : Inv X pins σ H s:=I.pins_of fun p hp=>I.pin p (List.mem_append_right _ (List.mem_append_left _ hp))
theorem aZ {iter : Expr} {body : List Stmt} {wi : TI} {g : TG} {tb : TS} {pos : Pos} (hp : PassesOwn (model X.prog X.w) X.A X.env X.xe) (hc : X.calm = true) (hi : PI X tg iter wi) (hg : PG X tg g) (hb : PSs X body tb)
    (hs : ∀ x,foldedSetIterable iter X.env x = pure x:=by intro _; rfl) : PS X (.For tg iter body [] pos) (vC wi g tb):=by
  intro pins s σ H D I h
  refine wpAny_For (thn (hi pins s σ H _ I h) fun v s1 h1=>thn h1 fun itv s2 h2=>?_) hs
  obtain ⟨it,fp,tn,J,H2,e,I2,T,st2,f2,W,⟨m0,w0⟩,turn⟩:=h2
  subst e
  have stat : ∀ {H' : Hp},(∀ b ∈ fp,H' b = none)→∀ b ∈ fp,FpOk X pins H' b:=fun hn b hb=>⟨hn b hb,(f2 b hb).2⟩
  refine codeAny_forLoop_any (fun n s'=>∃ i σ' H',Inv X pins σ' H' s'∧tn i s'.heap∧(∀ b ∈ fp,H' b = none)∧W i n σ' H') ?_ m0 ⟨0,σ,H2,I2,st2,fun b hb=>(f2 b hb).1,w0⟩
  rintro n s3 ⟨i,σ3,H3,I3,st3,fr3,w3⟩
  rcases turn i n σ3 H3 w3 with ⟨stop,qn⟩ | ⟨go,N,hN,step⟩
  · refine wpAny_passesOwn hp (thn (T.done X rfl rfl rfl hc i pins s3 σ3 H3 X.xe I3 (stat fr3) st3 stop) fun r s4 hm0=>?_)
    obtain ⟨hr,I4⟩:=hm0
    subst hr
    exact wpAny_execs_nil ⟨σ3,H3,I4,qn⟩
  · refine wpAny_passesOwn hp (thn (T.item X rfl rfl rfl hc i pins s3 σ3 H3 X.xe I3 (stat fr3) st3 go) fun r s4 hm0=>?_)
    obtain ⟨u,hr,h4⟩:=hm0
    subst hr
    refine wpAny_passesOwn hp (thn h4 fun _ s5 hm0=>?_)
    obtain ⟨x,H5,I5,r5,y5,st5,fr5⟩:=hm0
    have I5':=I5.pinned (stat fr5) (T.obj _ _ st5)
    refine wpAny_passesOwn hp (thn (hg _ s5 σ3 H5 x u _ I5' r5 (step x H5 y5)) fun _ s6 hm0=>?_)
    obtain ⟨σ6,H6,I6,q6⟩:=hm0
    refine wpAny_passesOwn hp (thn (hb _ s6 σ6 H6 _ I6 q6) fun f s7 q7=>?_)
    have again : ∀ {σ7 : St} {H7 : Hp},Inv X (pins ++ fb fp s5.heap) σ7 H7 s7→N σ7 H7→∃ m,m < n∧∃ i σ' H',Inv X pins σ' H' s7∧tn i s7.heap∧(∀ b ∈ fp,H' b = none)∧W i m σ' H':=fun {σ7 H7} I7 n7=>by
      obtain ⟨m',hm,w7⟩:=hN σ7 H7 n7
      refine ⟨m',hm,i + 1,σ7,H7,I7.unpinned,T.keep _ _ _ st5 fun b hb o e=>(I7.pin (b,o) (List.mem_append_right _ (List.mem_append_right _ (bG hb e)))).1,fun b hb=>?_,w7⟩
      obtain ⟨o,e,d⟩:=T.obj _ _ st5 b hb
      exact (I7.pin (b,o) (List.mem_append_right _ (List.mem_append_right _ (bG hb e)))).2.1
    cases f with
    | next=>obtain ⟨σ7,H7,I7,n7⟩:=q7; exact again I7 n7
    | cont=>obtain ⟨σ7,H7,I7,n7⟩:=q7; exact again I7 n7
    | brk=>obtain ⟨σ7,H7,I7,q7⟩:=q7; exact ⟨σ7,H7,I7.unpinned,q7⟩
    | ret v=>obtain ⟨x7,σ7,H7,I7,r7,q7⟩:=q7; exact ⟨x7,σ7,H7,I7.unpinned,r7,q7⟩
end
theorem dJ {K : PySem.W.Frag} {a : Addr} {xs : List V} {g : TG} {tb : TS} {D : Ends} {σ : St} {H : Hp} (Pv : Nat→St→Hp→Prop) (h0 : Pv 0 σ H) (hl : ∀ i σ H,i ≤ xs.length→Pv i σ H→SqL K H a xs)
    (hs : ∀ i x σ H,xs[i]? = some x→Pv i σ H→g x σ H fun σ2 H2=>tb { D with nx:=Pv (i + 1),ct:=Pv (i + 1),bk:=D.nx } σ2 H2) (hd : ∀ σ H,Pv xs.length σ H→D.nx σ H) :
    ∃ W : Nat→Nat→St→Hp→Prop,(∃ m,W 0 m σ H)∧∀ i m σ H,W i m σ H →
      ((Itl K a).stop i H∧D.nx σ H) ∨ ((Itl K a).go i H∧∃ N : St→Hp→Prop,(∀ σ' H',N σ' H'→∃ m',m' < m∧W (i + 1) m' σ' H')∧∀ x H',(Itl K a).yld i H x H'→g x σ H' fun σ2 H2=>tb { D with nx:=N,ct:=N,bk:=D.nx } σ2 H2):=by
  refine ⟨fun i m σ H=>m = xs.length - i∧i ≤ xs.length∧Pv i σ H,⟨xs.length,by simp,Nat.zero_le _,h0⟩,?_⟩
  rintro i m σ H ⟨rfl,hi,p⟩
  have q:=hl i σ H hi p
  by_cases hlt : i < xs.length
  · refine .inr ⟨⟨xs,xs[i],q,by simp [hlt]⟩,Pv (i + 1),fun σ' H' p'=>⟨xs.length - (i + 1),by omega,rfl,hlt,p'⟩,fun x H' y=>?_⟩
    obtain ⟨e,y⟩:=y
    subst e
    exact hs i x σ _ (y xs q) p
  · have e : i = xs.length:=by omega
    subst e
    exact .inl ⟨⟨xs,q,Nat.le_refl _⟩,hd σ H p⟩
theorem cx {lo : Int} {n : Nat} {g : TG} {tb : TS} {D : Ends} {σ : St} {H : Hp} (Pv : Nat→St→Hp→Prop) (h0 : Pv 0 σ H)
    (hs : ∀ i σ H,i < n→Pv i σ H→g (.int (lo + i)) σ H fun σ2 H2=>tb { D with nx:=Pv (i + 1),ct:=Pv (i + 1),bk:=D.nx } σ2 H2) (hd : ∀ σ H,Pv n σ H→D.nx σ H) :
    ∃ W : Nat→Nat→St→Hp→Prop,(∃ m,W 0 m σ H)∧∀ i m σ H,W i m σ H →
      ((Itr lo n).stop i H∧D.nx σ H) ∨ ((Itr lo n).go i H∧∃ N : St→Hp→Prop,(∀ σ' H',N σ' H'→∃ m',m' < m∧W (i + 1) m' σ' H')∧∀ x H',(Itr lo n).yld i H x H'→g x σ H' fun σ2 H2=>tb { D with nx:=N,ct:=N,bk:=D.nx } σ2 H2):=by
  refine ⟨fun i m σ H=>m = n - i∧i ≤ n∧Pv i σ H,⟨n,by simp,Nat.zero_le _,h0⟩,?_⟩
  rintro i m σ H ⟨rfl,hi,p⟩
  by_cases hlt : i < n
  · refine .inr ⟨hlt,Pv (i + 1),fun σ' H' p'=>⟨n - (i + 1),by omega,rfl,hlt,p'⟩,fun x H' y=>?_⟩
    obtain ⟨e,y⟩:=y
    subst e y
    exact hs i σ _ hlt p
  · have e : i = n:=by omega
    subst e
    exact .inl ⟨Nat.le_refl _,hd σ H p⟩
abbrev R2:=V→V→Hp→VK→Prop
def OpR (X : Cx) (f : Value→Value→Sem Value) (r : R2) : Prop :=
  ∀ (pins : List (Addr × Obj)) (s : Shared) (σ : St) (H : Hp) (x y : V) (v u : Value) (Q : VK),Inv X pins σ H s→RelV x v→RelV y u→r x y H Q →
    wpAny (model X.prog X.w) X.A (f v u) (EP X pins σ Q) X.xe s
def UnR (X : Cx) (f : Value→Sem Value) (r : V→Hp→VK→Prop) : Prop :=
  ∀ (pins : List (Addr × Obj)) (s : Shared) (σ : St) (H : Hp) (x : V) (v : Value) (Q : VK),Inv X pins σ H s→RelV x v→r x H Q →
    wpAny (model X.prog X.w) X.A (f v) (EP X pins σ Q) X.xe s
def dg (X : Cx) (f : Value) (r : List V→Hp→VK→Prop) : Prop :=
  ∀ (pins : List (Addr × Obj)) (s : Shared) (σ : St) (H : Hp) (xs : List V) (us : List Value) (Q : VK),Inv X pins σ H s→Vals xs us→r xs H Q →
    wpAny (model X.prog X.w) X.A (call f us) (EP X pins σ Q) X.xe s
def vt (X : Cx) (r : V→Hp→(Bool→Hp→Prop)→Prop) : Prop :=
  ∀ (pins : List (Addr × Obj)) (s : Shared) (σ : St) (H : Hp) (x : V) (v : Value) (Q : Bool→Hp→Prop),Inv X pins σ H s→RelV x v→r x H Q →
    wpAny (model X.prog X.w) X.A (truthy v) (TP X pins σ Q) X.xe s
def tOp (r : R2) (ta tb : TE) : TE:=fun σ H Q=>ta σ H fun x H1=>tb σ H1 fun y H2=>r x y H2 Q
def tUn (r : V→Hp→VK→Prop) (ta : TE) : TE:=fun σ H Q=>ta σ H fun x H1=>r x H1 Q
def rI (C : Int→Int→Prop) (g : Int→Int→V) : R2:=fun x y H Q=>∃ i j,x = .int i∧y = .int j∧C i j∧Q (g i j) H
def rI0 (g : Int→Int→V) : R2:=fun x y H Q=>∃ i j,x = .int i∧y = .int j∧Q (g i j) H
def rU (g : Int→V) : V→Hp→VK→Prop:=fun x H Q=>∃ i,x = .int i∧Q (g i) H
section
variable {X : Cx} {a b c : Expr} {ta tb tc : TE} {pos : Pos}
theorem tP (ha : PE X a ta) (hb : PE X b tb) {pins : List (Addr × Obj)} {s : Shared} {σ : St} {H : Hp} {R : V→V→Hp→Prop} (I : Inv X pins σ H s)
    (h : ta σ H fun x H1=>tb σ H1 fun y H2=>R x y H2) {Q : Value→Shared→Prop} {f : Value→Value→Sem Value}
    (hf : ∀ v u s2 x y H2,Inv X pins σ H2 s2→RelV x v→RelV y u→R x y H2→wpAny (model X.prog X.w) X.A (f v u) Q X.xe s2) :
    wpAny (model X.prog X.w) X.A (eval a X.env) (fun v s₁=>wpAny (model X.prog X.w) X.A (eval b X.env) (fun u s₂=>wpAny (model X.prog X.w) X.A (f v u) Q X.xe s₂) X.xe s₁) X.xe s:=by
  refine thn (ha pins s σ H _ I h) fun v s1 hm0=>?_
  obtain ⟨x,H1,I1,r1,q1⟩:=hm0
  refine thn (hb pins s1 σ H1 _ I1 q1) fun u s2 hm0=>?_
  obtain ⟨y,H2,I2,r2,q2⟩:=hm0
  exact hf v u s2 x y H2 I2 r1 r2 q2
theorem ao {op : Operator} {r : R2} (ho : OpR X (binaryOp op) r) (ha : PE X a ta) (hb : PE X b tb) : PE X (.BinOp a op b pos) (tOp r ta tb):=by
  intro pins s σ H Q I h
  exact wpAny_BinOp (tP ha hb I h fun v u s2 x y H2 I2 rx ry q=>ho pins s2 σ H2 x y v u Q I2 rx ry q)
theorem p8 {op : UnaryOp} {r : V→Hp→VK→Prop} (ho : UnR X (unaryOp op) r) (ha : PE X a ta) : PE X (.UnaryOp op a pos) (tUn r ta):=by
  intro pins s σ H Q I h
  refine UnaryOp_ (thn (ha pins s σ H _ I h) fun v s1 hm0=>?_)
  obtain ⟨x,H1,I1,r1,q1⟩:=hm0
  exact ho pins s1 σ H1 x v Q I1 r1 q1
theorem opI {f : Value→Value→Sem Value} {C : Int→Int→Prop} {g : Int→Int→Int}
    (rule : ∀ (i j : Int) (t u : Tok) (s : Shared) (Q : Value→Shared→Prop) (E : Value→Shared→Prop),C i j→Q (.int (g i j) s.toks) { s with toks:=s.toks + 1 }→wpAny (model X.prog X.w) X.A (f (.int i t) (.int j u)) Q E s) :
    OpR X f (rI C fun i j=>.int (g i j)):=by
  intro pins s σ H x y v u Q I rx ry h
  obtain ⟨i,j,rfl,rfl,hc,q⟩:=h
  obtain ⟨t,rfl⟩:=rx
  obtain ⟨t',rfl⟩:=ry
  exact rule i j t t' s _ _ hc ⟨.int (g i j),H,I.tok _,⟨_,rfl⟩,q⟩
theorem uZ {f : Value→Value→Sem Value} {g : Int→Int→Int}
    (rule : ∀ (i j : Int) (t u : Tok) (s : Shared) (Q : Value→Shared→Prop) (E : Value→Shared→Prop),Q (.int (g i j) s.toks) { s with toks:=s.toks + 1 }→wpAny (model X.prog X.w) X.A (f (.int i t) (.int j u)) Q E s) :
    OpR X f (rI0 fun i j=>.int (g i j)):=by
  intro pins s σ H x y v u Q I rx ry h
  obtain ⟨i,j,rfl,rfl,q⟩:=h
  obtain ⟨t,rfl⟩:=rx
  obtain ⟨t',rfl⟩:=ry
  exact rule i j t t' s _ _ ⟨.int (g i j),H,I.tok _,⟨_,rfl⟩,q⟩
theorem sD {f : Value→Value→Sem Value} {g : Int→Int→Bool}
    (rule : ∀ (i j : Int) (t u : Tok) (s : Shared) (Q : Value→Shared→Prop) (E : Value→Shared→Prop),Q (.bool (g i j)) s→wpAny (model X.prog X.w) X.A (f (.int i t) (.int j u)) Q E s) :
    OpR X f (rI0 fun i j=>.bl (g i j)):=by
  intro pins s σ H x y v u Q I rx ry h
  obtain ⟨i,j,rfl,rfl,q⟩:=h
  obtain ⟨t,rfl⟩:=rx
  obtain ⟨t',rfl⟩:=ry
  exact rule i j t t' s _ _ ⟨.bl (g i j),H,I,rfl,q⟩
def vM (i j : Int) : Prop:=0 < j∧j < 1073741824
def vO (i j : Int) : Prop:=0 ≤ j∧j ≤ 1000000∧i.natAbs < 2 ^ 64
def CMul (i j : Int) : Prop:=(-(2 ^ 64) < i∧i < 2 ^ 64) ∨ (-(2 ^ 64) < j∧j < 2 ^ 64)
theorem CMul.ok {i j : Int} (h : CMul i j) : IntMulOk i j:=by
  rcases h with ⟨h1,h2⟩ | ⟨h1,h2⟩
  · exact .of_left (intBits_le_64 h1 h2)
  · exact .of_right (intBits_le_64 h1 h2)
theorem bq : OpR X (binaryOp .Add) (rI0 fun i j=>.int (i + j)):=uZ fun _ _ _ _ _ _ _ q=>add_int q
theorem fQ : OpR X (binaryOp .Sub) (rI0 fun i j=>.int (i - j)):=uZ fun _ _ _ _ _ _ _ q=>sub_int q
theorem dt : OpR X (binaryOp .Mult) (rI CMul fun i j=>.int (i * j)):=opI fun _ _ _ _ _ _ _ hc q=>mul_int q hc.ok
theorem bv : OpR X (binaryOp .FloorDiv) (rI vM fun i j=>.int (i / j)):=opI fun i j _ _ _ _ _ hc q=>by
  have h1 : (0 : Int) < j:=hc.1
  have h2 : j < 1073741824:=hc.2
  exact floordiv_int (by omega) (by rw [Int.fdiv_eq_ediv_of_nonneg i (by omega)]; exact q) (.inl (PyProof.noPylong_small (by omega)))
theorem aV : OpR X (binaryOp .Mod) (rI (fun _ j=>0 < j) fun i j=>.int (i % j)):=opI fun i j _ _ _ _ _ hc q=>by
  have h1 : (0 : Int) < j:=hc
  exact mod_int' (by omega) (by rw [Int.fmod_eq_emod_of_nonneg i (by omega)]; exact q)
theorem tS : OpR X (binaryOp .Pow) (rI vO fun i j=>.int (i ^ j.toNat)):=opI fun _ _ _ _ _ _ _ hc q=>pow_int_small hc.1 hc.2.1 hc.2.2 q
theorem unI {f : Value→Sem Value} {g : Int→Int}
    (rule : ∀ (i : Int) (t : Tok) (s : Shared) (Q : Value→Shared→Prop) (E : Value→Shared→Prop),Q (.int (g i) s.toks) { s with toks:=s.toks + 1 }→wpAny (model X.prog X.w) X.A (f (.int i t)) Q E s) :
    UnR X f (rU fun i=>.int (g i)):=by
  intro pins s σ H x v Q I rx h
  obtain ⟨i,rfl,q⟩:=h
  obtain ⟨t,rfl⟩:=rx
  exact rule i t s _ _ ⟨.int (g i),H,I.tok _,⟨_,rfl⟩,q⟩
theorem lp : UnR X (unaryOp .USub) (rU fun i=>.int (-i)):=unI fun _ _ _ _ _ q=>neg_int q
end
def u8 : V→V→Bool
  | .non,.non=>true | .non,.int _=>true | .int _,.non=>true | .non,.bl _=>true | .bl _,.non=>true | .non,.str _=>true | .str _,.non=>true
  | .int _,.int _=>true | .bl _,.bl _=>true | .str _,.str _=>true | .byt _,.byt _=>true
  | .int _,.str _=>true | .str _,.int _=>true | .bl _,.str _=>true | .str _,.bl _=>true
  | _,_=>false
def rEq : R2:=fun x y H Q=>u8 x y = true∧Q (.bl (decide (x = y))) H
def rNe : R2:=fun x y H Q=>u8 x y = true∧Q (.bl (!decide (x = y))) H
theorem mF {i j : Int} : decide (V.int i = V.int j) = (i == j):=by
  rw [Bool.eq_iff_iff]
  simp
theorem qG {i j : Bool} : decide (V.bl i = V.bl j) = (i == j):=by
  rw [Bool.eq_iff_iff]
  simp
theorem mq {i j : Str} : decide (V.str i = V.str j) = (i == j):=by
  rw [Bool.eq_iff_iff]
  simp
theorem mH {i j : Array UInt8} : decide (V.byt i = V.byt j) = (i.toList == j.toList):=by
  rw [Bool.eq_iff_iff]
  cases i
  cases j
  simp
section
variable {X : Cx} {a b c : Expr} {ta tb tc : TE} {pos : Pos}
theorem aK {pins : List (Addr × Obj)} {σ : St} {H : Hp} {s : Shared} {Q : VK} {k k' : Bool} (I : Inv X pins σ H s) (q : Q (.bl k) H) (e : k = k') : EP X pins σ Q (.bool k') s:=by
  subst e
  exact ⟨.bl k,H,I,rfl,q⟩
theorem cN : OpR X (compareOp .Eq) rEq:=by
  intro pins s σ H x y v u Q I rx ry h
  obtain ⟨hs,q⟩:=h
  cases x with
  | non =>
    cases rx
    cases y with
    | non=>cases ry; exact PySem.EqNone.eq_none_none (aK I q (by simp))
    | bl j=>cases ry; exact PySem.EqNone.eq_none_bool (aK I q (by simp))
    | int j=>obtain ⟨t',rfl⟩:=ry; exact PySem.EqNone.eq_none_int (aK I q (by simp))
    | str j=>obtain ⟨t',rfl⟩:=ry; exact PySem.EqNone.eq_none_str (aK I q (by simp))
    | _=>exact absurd (show false = true from hs) Bool.false_ne_true
  | bl i =>
    cases rx
    cases y with
    | non=>cases ry; exact PySem.EqNone.eq_bool_none (aK I q (by simp))
    | bl j=>cases ry; exact eq_bool (aK I q qG)
    | str j=>obtain ⟨t',rfl⟩:=ry; exact PySem.EqMixed.eq_bool_str (aK I q (by simp))
    | _=>exact absurd (show false = true from hs) Bool.false_ne_true
  | int i =>
    obtain ⟨t,rfl⟩:=rx
    cases y with
    | non=>cases ry; exact PySem.EqNone.eq_int_none (aK I q (by simp))
    | int j=>obtain ⟨t',rfl⟩:=ry; exact eq_int (aK I q mF)
    | str j=>obtain ⟨t',rfl⟩:=ry; exact PySem.EqMixed.eq_int_str (aK I q (by simp))
    | _=>exact absurd (show false = true from hs) Bool.false_ne_true
  | str i =>
    obtain ⟨t,rfl⟩:=rx
    cases y with
    | non=>cases ry; exact PySem.EqNone.eq_str_none (aK I q (by simp))
    | bl j=>cases ry; exact PySem.EqMixed.eq_str_bool (aK I q (by simp))
    | int j=>obtain ⟨t',rfl⟩:=ry; exact PySem.EqMixed.eq_str_int (aK I q (by simp))
    | str j=>obtain ⟨t',rfl⟩:=ry; exact eq_str (aK I q mq)
    | _=>exact absurd (show false = true from hs) Bool.false_ne_true
  | byt i =>
    obtain ⟨t,rfl⟩:=rx
    cases y with
    | byt j=>obtain ⟨t',rfl⟩:=ry; exact PySem.W.eq_bytes (aK I q mH)
    | _=>exact absurd (show false = true from hs) Bool.false_ne_true
  | _=>cases y <;> exact absurd (show false = true from hs) Bool.false_ne_true
theorem gc : OpR X (compareOp .NotEq) rNe:=by
  intro pins s σ H x y v u Q I rx ry h
  obtain ⟨hs,q⟩:=h
  cases x with
  | non =>
    cases rx
    cases y with
    | non=>cases ry; exact PySem.EqNone.ne_none_none (aK I q (by simp))
    | bl j=>cases ry; exact PySem.EqNone.ne_none_bool (aK I q (by simp))
    | int j=>obtain ⟨t',rfl⟩:=ry; exact PySem.EqNone.ne_none_int (aK I q (by simp))
    | str j=>obtain ⟨t',rfl⟩:=ry; exact PySem.EqNone.ne_none_str (aK I q (by simp))
    | _=>exact absurd (show false = true from hs) Bool.false_ne_true
  | bl i =>
    cases rx
    cases y with
    | non=>cases ry; exact PySem.EqNone.ne_bool_none (aK I q (by simp))
    | bl j=>cases ry; exact ne_bool (aK I q (congrArg not qG))
    | str j=>obtain ⟨t',rfl⟩:=ry; exact PySem.EqMixed.ne_bool_str (aK I q (by simp))
    | _=>exact absurd (show false = true from hs) Bool.false_ne_true
  | int i =>
    obtain ⟨t,rfl⟩:=rx
    cases y with
    | non=>cases ry; exact PySem.EqNone.ne_int_none (aK I q (by simp))
    | int j=>obtain ⟨t',rfl⟩:=ry; exact ne_int (aK I q (congrArg not mF))
    | str j=>obtain ⟨t',rfl⟩:=ry; exact PySem.EqMixed.ne_int_str (aK I q (by simp))
    | _=>exact absurd (show false = true from hs) Bool.false_ne_true
  | str i =>
    obtain ⟨t,rfl⟩:=rx
    cases y with
    | non=>cases ry; exact PySem.EqNone.ne_str_none (aK I q (by simp))
    | bl j=>cases ry; exact PySem.EqMixed.ne_str_bool (aK I q (by simp))
    | int j=>obtain ⟨t',rfl⟩:=ry; exact PySem.EqMixed.ne_str_int (aK I q (by simp))
    | str j=>obtain ⟨t',rfl⟩:=ry; exact ne_str (aK I q (congrArg not mq))
    | _=>exact absurd (show false = true from hs) Bool.false_ne_true
  | byt i =>
    obtain ⟨t,rfl⟩:=rx
    cases y with
    | byt j=>obtain ⟨t',rfl⟩:=ry; exact PySem.W.ne_bytes (aK I q (congrArg not mH))
    | _=>exact absurd (show false = true from hs) Bool.false_ne_true
  | _=>cases y <;> exact absurd (show false = true from hs) Bool.false_ne_true
theorem qP : OpR X (compareOp .Lt) (rI0 fun i j=>.bl (decide (i < j))):=sD fun _ _ _ _ _ _ _ q=>lt_int q
theorem mz : OpR X (compareOp .LtE) (rI0 fun i j=>.bl (decide (i ≤ j))):=sD fun _ _ _ _ _ _ _ q=>le_int q
theorem ml : OpR X (compareOp .Gt) (rI0 fun i j=>.bl (decide (j < i))):=sD fun _ _ _ _ _ _ _ q=>gt_int q
theorem oB : OpR X (compareOp .GtE) (rI0 fun i j=>.bl (decide (j ≤ i))):=sD fun _ _ _ _ _ _ _ q=>ge_int q
theorem aD (b : Expr) {op : CmpOp} (h : op ≠ .In:=by decide) (h2 : op ≠ .NotIn:=by decide) : behindInMarks op b = false:=by
  have e1 : (op == CmpOp.In) = false:=by cases op <;> first | rfl | exact absurd rfl h
  have e2 : (op == CmpOp.NotIn) = false:=by cases op <;> first | rfl | exact absurd rfl h2
  cases b <;> simp [behindInMarks,e1,e2]
theorem gH {op : CmpOp} {r : R2} (ho : OpR X (compareOp op) r) (ha : PE X a ta) (hb : PE X b tb) (hm : behindInMarks op b = false) : PE X (.Compare a [op] [b] pos) (tOp r ta tb):=by
  intro pins s σ H Q I h
  exact wpAny_Compare1 (tP ha hb I h fun v u s2 x y H2 I2 rx ry q=>ho pins s2 σ H2 x y v u Q I2 rx ry q) hm
def tD (t : TE) : TT:=fun σ H Q=>t σ H fun x H'=>∃ k,x = .bl k∧Q k H'
theorem ay {op : CmpOp} {r : R2} (ho : OpR X (compareOp op) r) (ha : PE X a ta) (hb : PE X b tb) (hm : behindInMarks op b = false) : PT X (.Compare a [op] [b] pos) (tD (tOp r ta tb)):=by
  intro pins s σ H Q I h
  refine wpAny_isTrue_Compare1 (thn (ha pins s σ H _ I h) fun v s1 ⟨x,H1,I1,r1,q1⟩=>thn (hb pins s1 σ H1 _ I1 q1) fun u s2 ⟨y,H2,I2,r2,q2⟩ =>
    thn (ho pins s2 σ H2 x y v u _ I2 r1 r2 q2) fun c s3 ⟨z,H3,I3,r3,k,e,q3⟩=>?_) hm
  subst e
  cases r3
  exact wpAny_truthy_bool ⟨H3,I3,q3⟩
def oG (r r' : R2) (ta tb tc : TE) : TE:=fun σ H Q=>ta σ H fun x H1=>tb σ H1 fun y H2=>r x y H2 fun z H3=>∃ k,z = .bl k ∧
  (if k = true then tc σ H3 fun w' H4=>r' y w' H4 Q else Q (.bl false) H3)
theorem qI {op op' : CmpOp} {r r' : R2} (ho : OpR X (compareOp op) r) (ho' : OpR X (compareOp op') r') (ha : PE X a ta) (hb : PE X b tb) (hc : PE X c tc)
    (hm : lastMarks [op,op'] [b,c] = false:=by with_unfolding_all rfl) : PE X (.Compare a [op,op'] [b,c] pos) (oG r r' ta tb tc):=by
  intro pins s σ H Q I h
  refine Compare_chain (thn (ha pins s σ H _ I h) fun v s1 ⟨x,H1,I1,r1,q1⟩=>chain_link (thn (hb pins s1 σ H1 _ I1 q1) fun u s2 ⟨y,H2,I2,r2,q2⟩ =>
    thn (ho pins s2 σ H2 x y v u _ I2 r1 r2 q2) fun d s3 ⟨z,H3,I3,r3,k,e,q3⟩=>?_)) hm
  subst e
  cases r3
  refine wpAny_truthy_bool ?_
  cases k with
  | false=>exact ite_ff ⟨.bl false,H3,I3,rfl,q3⟩
  | true=>exact ite_tt (chain_last (thn (hc pins s3 σ H3 _ I3 q3) fun w' s4 ⟨z',H4,I4,r4,q4⟩=>ho' pins s4 σ H4 y z' u w' Q I4 r2 r4 q4))
theorem pW {op op' : CmpOp} {r r' : R2} (ho : OpR X (compareOp op) r) (ho' : OpR X (compareOp op') r') (ha : PE X a ta) (hb : PE X b tb) (hc : PE X c tc)
    (hm : lastMarks [op,op'] [b,c] = false:=by with_unfolding_all rfl) : PT X (.Compare a [op,op'] [b,c] pos) (tD (oG r r' ta tb tc)):=by
  intro pins s σ H Q I h
  refine isTrue_chain (thn (ha pins s σ H _ I h) fun v s1 ⟨x,H1,I1,r1,q1⟩=>test_link (thn (hb pins s1 σ H1 _ I1 q1) fun u s2 ⟨y,H2,I2,r2,q2⟩ =>
    thn (ho pins s2 σ H2 x y v u _ I2 r1 r2 q2) fun d s3 ⟨z,H3,I3,r3,k,e,q3⟩=>?_)) hm
  subst e
  cases r3
  refine wpAny_truthy_bool ?_
  cases k with
  | false =>
    obtain ⟨k',e',q'⟩:=q3
    cases e'
    exact ite_ff ⟨H3,I3,q'⟩
  | true =>
    refine ite_tt (test_last (thn (hc pins s3 σ H3 _ I3 q3) fun w' s4 hm0=>?_))
    obtain ⟨z',H4,I4,r4,q4⟩:=hm0
    refine thn (ho' pins s4 σ H4 y z' u w' _ I4 r2 r4 q4) fun d' s5 hm1=>?_
    obtain ⟨z2,H5,I5,r5,k2,e2,q5⟩:=hm1
    subst e2
    cases r5
    exact wpAny_truthy_bool ⟨H5,I5,q5⟩
def uT (K : PySem.W.Frag) (x : V) (H : Hp) (k : Bool) : Prop :=
  match x with
  | .non=>k = false
  | .bl b=>k = b
  | .int i=>k = (i != 0)
  | .str y=>y.length ≤ sizeLine∧k = ((y.length : Int) != 0)
  | .byt y=>y.size ≤ sizeLine∧k = ((y.size : Int) != 0)
  | .ref p=>(∃ xs,SqL K H p xs∧k = !xs.isEmpty) ∨ (∃ xs,SqT K H p xs∧k = !xs.isEmpty) ∨ ∃ kvs,H p = some (.dK kvs)∧k = !kvs.isEmpty
  | _=>False
theorem lF {κ : Type} {kvs : List (κ × V)} {vs : List (κ × Value)} (r : KV kvs vs) : (!vs.isEmpty) = !kvs.isEmpty:=by
  cases r <;> rfl
theorem hU {xs : List V} {its : List Value} (r : Vals xs its) : (!its.toArray.isEmpty) = !xs.isEmpty:=by
  cases r <;> simp
theorem gK : (sizeLine : Nat) < 2 ^ 63:=by rw [sizeLine_eq]; decide
theorem uf : vt X (fun x H Q=>∃ k,uT X.K x H k∧Q k H):=by
  intro pins s σ H x v Q I rx h
  obtain ⟨k,e,q⟩:=h
  have hl:=gK
  have hs : sizeLine = 16777216:=sizeLine_eq
  cases x with
  | non =>
    cases rx
    have e' : k = false:=e
    subst e'
    exact truthy_none ⟨H,I,q⟩
  | bl b =>
    cases rx
    have e' : k = b:=e
    subst e'
    exact wpAny_truthy_bool ⟨H,I,q⟩
  | int i =>
    obtain ⟨t,rfl⟩:=rx
    have e' : k = (i != 0):=e
    subst e'
    exact PySem.P.truthy_int ⟨H,I,q⟩
  | str y =>
    obtain ⟨t,rfl⟩:=rx
    obtain ⟨hy,e'⟩ : y.length ≤ sizeLine∧k = ((y.length : Int) != 0):=e
    subst e'
    exact PySem.P.truthy_str (by omega) ⟨H,I.tok _,q⟩
  | byt y =>
    obtain ⟨t,rfl⟩:=rx
    obtain ⟨hy,e'⟩ : y.size ≤ sizeLine∧k = ((y.size : Int) != 0):=e
    subst e'
    exact PySem.W.truthy_bytes (by omega) ⟨H,I.tok _,q⟩
  | ref p =>
    cases rx
    have e' : (∃ xs,SqL X.K H p xs∧k = !xs.isEmpty) ∨ (∃ xs,SqT X.K H p xs∧k = !xs.isEmpty) ∨ ∃ kvs,H p = some (.dK kvs)∧k = !kvs.isEmpty:=e
    rcases e' with ⟨xs,hx,e'⟩ | ⟨xs,hx,e'⟩ | ⟨kvs,hx,e'⟩
    · subst e'
      obtain ⟨its,r,pl,hz⟩:=I.list hx
      have hlen:=r.length
      exact wpAny_truthy_list pl.isList (by simp only [List.size_toArray]; omega) ⟨H,I.tok _,by rw [hU r]; exact q⟩
    · subst e'
      obtain ⟨its,r,pl,hz⟩:=I.tuple hx
      have hlen:=r.length
      exact truthy_tuple pl (by simp only [List.size_toArray]; omega) ⟨H,I.tok _,by rw [hU r]; exact q⟩
    · subst e'
      obtain ⟨hz,hS,vs,r,m⟩ : kvs.length ≤ sizeLine∧(p == sysModules) = false∧∃ vs,KV kvs vs∧s.heap.DictOf (bh X.prog X.w) p vs:=I.hok p _ hx
      have hlen : kvs.length = vs.length:=Paired.length r
      exact wpAny_truthy_dict hS m (by omega) ⟨H,I.tok _,by rw [lF r]; exact q⟩
  | _=>exact (show False from e).elim
theorem qk (ha : PE X a ta) (he : ∀ whole,isTrue a X.env whole = (do let v ← whole; standAt a.pos; holding [v] (truthy v))) :
    PT X a (fun σ H Q=>ta σ H fun x H'=>∃ k,uT X.K x H' k∧Q k H'):=by
  intro pins s σ H Q I h
  refine isTrue_plain (thn (ha pins s σ H _ I h) fun v s1 hm0=>?_) (he _)
  obtain ⟨x,H1,I1,r1,q1⟩:=hm0
  exact uf pins s1 σ H1 x v Q I1 r1 q1
theorem de {x : V} {us : List Value} (r : Vals [x] us) : ∃ u,us = [u]∧RelV x u:=by
  cases r with
  | cons r1 r2=>cases r2; exact ⟨_,rfl,r1⟩
theorem oP {x y : V} {us : List Value} (r : Vals [x,y] us) : ∃ u w',us = [u,w']∧RelV x u∧RelV y w':=by
  cases r with
  | cons r1 r2 =>
    cases r2 with
    | cons r3 r4=>cases r4; exact ⟨_,_,rfl,r1,r3⟩
theorem nr (hc : X.calm = true) : dg X (.builtin "max") (fun xs H Q=>∃ i j,xs = [.int i,.int j]∧Q (.int (if j > i then j else i)) H):=by
  intro pins s σ H xs us Q I r h
  obtain ⟨i,j,rfl,q⟩:=h
  obtain ⟨u,w',rfl,⟨t,rfl⟩,⟨t',rfl⟩⟩:=oP r
  refine max_two_ints (I.ok.hd hc) fun h' tk k=>⟨_,H,I.kept k,?_,q⟩
  by_cases hj : j > i
  · rw [if_pos hj,if_pos hj]; exact ⟨_,rfl⟩
  · rw [if_neg hj,if_neg hj]; exact ⟨_,rfl⟩
theorem oa (hc : X.calm = true) : dg X (.builtin "min") (fun xs H Q=>∃ i j,xs = [.int i,.int j]∧Q (.int (if j < i then j else i)) H):=by
  intro pins s σ H xs us Q I r h
  obtain ⟨i,j,rfl,q⟩:=h
  obtain ⟨u,w',rfl,⟨t,rfl⟩,⟨t',rfl⟩⟩:=oP r
  refine min_two_ints (I.ok.hd hc) fun h' tk k=>⟨_,H,I.kept k,?_,q⟩
  by_cases hj : j < i
  · rw [if_pos hj,if_pos hj]; exact ⟨_,rfl⟩
  · rw [if_neg hj,if_neg hj]; exact ⟨_,rfl⟩
end
structure ObjM (h : Heap) (x dx C : Addr) (mA : Str→Option Value) : Prop where
  obj : h.get? x = some (PySem.W.instObj C dx)
  ns : h.Ns1 dx mA
  ne : dx ≠ x
theorem og {h : Heap} {dx : Addr} {mA : Str→Option Value} (n : h.Ns1 dx mA) : ∃ od,h.get? dx = some od∧∀ name,PySem.W.lookIn name od = some (mA name):=by
  obtain ⟨o,es,ep,ho,hd,hk,_,hm⟩:=n
  refine ⟨o,ho,fun name=>?_⟩
  have e:=hm name
  unfold nsFind findBy at e
  rw [← Array.find?_toList] at e
  unfold PySem.W.lookIn
  rw [hd]
  dsimp only
  split
  · rename_i y q
    rw [q] at e
    exact congrArg some e
  · rename_i q
    rw [q] at e
    have a : es.toList.any (·.refKey) = false:=by
      rw [List.any_eq_false]
      intro y hy
      obtain ⟨z,t,hkey⟩:=hk y (Array.mem_toList_iff.mp hy)
      simp [DictEntry.refKey,hkey]
    have a' : ¬ es.toList.any (·.refKey) = true:=by rw [a]; exact Bool.false_ne_true
    rw [if_neg a']
    exact congrArg some e
theorem ObjM.look {h : Heap} {x dx C : Addr} {mA : Str→Option Value} (I : ObjM h x dx C mA) : ∃ od,PySem.W.InstAt h x (PySem.W.instObj C dx) C (some od)∧∀ name,PySem.W.lookIn name od = some (mA name) :=
  let ⟨od,ho,hl⟩:=og I.ns
  ⟨od,⟨I.obj,rfl,rfl,ho⟩,hl⟩
section
variable {prog : Program} {w : World} {A : Around} {E : Value→Shared→Prop} {s : Shared} {K : PySem.W.Frag} {x dx C f : Addr} {mA : Str→Option Value} {name : Str} {v : Value}
end
theorem RelO.some_of {v : V} {o : Option Value} (r : RelO (some v) o) : ∃ u,o = some u∧RelV v u:=by
  cases o with
  | none=>exact (show False from r).elim
  | some u=>exact ⟨u,rfl,r⟩
section
variable {P : Program} {w : World} {H H' : Hp} {h h' : Heap} {a C dx : Addr} {fs fs' : List (Str × V)}
theorem rB (hok : HOk P w H h) (e : H a = some (.ins C dx fs)) : ∃ mA,ObjM h a dx C mA∧(∀ f,RelO (fs.lookup f) (mA f))∧PySem.Within mA (fs.map (·.1))∧fs.length ≤ 1000∧H dx = some (.own a):=by
  obtain ⟨d,z,ne,ob,mA,n,r,q⟩:=(show ObjOk P w H h a (.ins C dx fs) from hok a _ e)
  exact ⟨mA,⟨ob,n,ne⟩,r,q,z,d⟩
end
structure Cls (K : PySem.W.Frag) (C : Addr) : Prop where
  pg : PySem.W.plainGet K C Str.empty = true
  hd : PySem.W.hasDictIn K C = true
  po : PySem.W.plainOver K C = true
  sa : PySem.W.findIn K (.ref C) "__setattr__" = some (some (.builtin "object.__setattr__"))
theorem Cls.get {K : PySem.W.Frag} {C : Addr} (c : Cls K C) (f : Str) : PySem.W.plainGet K C f = true:=c.pg
section
variable {X : Cx} {pins : List (Addr × Obj)} {σ : St} {H : Hp} {s : Shared} {a C dx : Addr} {fs : List (Str × V)} {f : Str} {v : V} {A : Around} {E : Value→Shared→Prop}
end
section
variable {X : Cx} {o e value : Expr} {f : Str} {pos pos' tpos : Pos} {ta tv : TE}
end
section
variable {X : Cx} {pins : List (Addr × Obj)} {σ : St} {H : Hp} {s : Shared} {A : Around} {E : Value→Shared→Prop} {Q : Value→Shared→Prop} {c : Value} {b : Bool}
inductive TyOf (K : PySem.W.Frag) (H : Hp) : V→Value→Prop where
  | non : TyOf K H .non (.type "NoneType")
  | bl (x : Bool) : TyOf K H (.bl x) (.type "bool")
  | int (i : Int) : TyOf K H (.int i) (.type "int")
  | str (x : Str) : TyOf K H (.str x) (.type "str")
  | flt (x : UInt64) : TyOf K H (.flt x) (.type "float")
  | lst {a : Addr} {xs : List V} (e : H a = some (.lst xs)) : TyOf K H (.ref a) (.type "list")
  | frz {a : Addr} {o : Obj} {xs : List V} (e : H a = some (.frz o (.lst xs))) : TyOf K H (.ref a) (.type "list")
  | tup {a : Addr} {xs : List V} (e : H a = some (.tup xs)) : TyOf K H (.ref a) (.type "tuple")
  | dK {a : Addr} {kvs : List (Key × V)} (e : H a = some (.dK kvs)) : TyOf K H (.ref a) (.type "dict")
  | dT {a : Addr} {kvs : List (List Key × V)} (e : H a = some (.dT kvs)) : TyOf K H (.ref a) (.type "dict")
  | ins {a C dx : Addr} {fs : List (Str × V)} (e : H a = some (.ins C dx fs)) (cl : Cls K C) (ha : PySem.W.findIn K (.ref C) "__class__" = some (some (.builtin "object.__class__")))
      (hn : PySem.W.specialIn K (.builtin "object.__class__") "__get__" = some (some (.builtin "getset_descriptor.__get__"))) (htk : PySem.W.takesIn K (.builtin "object.__class__") = some true)
      (hm : PySem.W.mroIn K C (.type "object") = some true) : TyOf K H (.ref a) (.ref C)
theorem nG {x : V} {u t : Value} (I : Inv X pins σ H s) (rx : RelV x u) (ty : TyOf X.K H x t) (e : PySem.W.kitOne X.K t c = some b) (h : ∀ tk,Q (.bool b) { s with toks:=tk }) :
    wpAny (model X.prog X.w) A (call (.builtin "isinstance") [u,c]) Q E s:=by
  cases ty with
  | non=>cases (show u = Value.none from rx); exact PySem.W.kia_one PySem.W.kitx_none I.kIn True.intro e (fun z=>nomatch z) h
  | bl y=>cases (show u = Value.bool y from rx); exact PySem.W.kia_one PySem.W.kitx_bool I.kIn True.intro e (fun z=>nomatch z) h
  | int i=>obtain ⟨t,q⟩:=(show ∃ t,u = Value.int i t from rx); cases q; exact PySem.W.kia_one PySem.W.kitx_int I.kIn True.intro e (fun z=>nomatch z) h
  | str y=>obtain ⟨t,q⟩:=(show ∃ t,u = Value.str y t from rx); cases q; exact PySem.W.kia_one PySem.W.kitx_str I.kIn True.intro e (fun z=>nomatch z) h
  | flt y=>obtain ⟨t,q⟩:=(show ∃ t,u = Value.float y t from rx); cases q; exact PySem.W.kia_one PySem.W.kitx_float I.kIn True.intro e (fun z=>nomatch z) h
  | @lst a xs ea =>
    cases (show u = Value.ref a from rx)
    obtain ⟨_,_,n,_,h1⟩:=(show ObjOk X.prog X.w H s.heap a (.lst xs) from I.hok a _ ea)
    exact PySem.W.kia_one PySem.W.kitx_list I.kIn ⟨_,h1,rfl⟩ e (fun z=>nomatch z) h
  | @frz a ob xs ea =>
    cases (show u = Value.ref a from rx)
    obtain ⟨_,_,_,n,_,h1⟩:=(show ObjOk X.prog X.w H s.heap a (.frz ob (.lst xs)) from I.hok a _ ea)
    exact PySem.W.kia_one PySem.W.kitx_list I.kIn ⟨_,h1,rfl⟩ e (fun z=>nomatch z) h
  | @tup a xs ea =>
    cases (show u = Value.ref a from rx)
    obtain ⟨_,_,_,p⟩:=(show ObjOk X.prog X.w H s.heap a (.tup xs) from I.hok a _ ea)
    obtain ⟨o,h1,h2,_⟩:=p
    exact PySem.W.kia_one PySem.W.kitx_tuple I.kIn ⟨o,h1,h2⟩ e (fun z=>nomatch z) h
  | @dK a kvs ea =>
    cases (show u = Value.ref a from rx)
    obtain ⟨_,_,vs,_,p⟩:=(show ObjOk X.prog X.w H s.heap a (.dK kvs) from I.hok a _ ea)
    obtain ⟨o,es,ep,h1,h2,_⟩:=p
    exact PySem.W.kia_one PySem.W.kitx_dict I.kIn ⟨o,h1,h2.1⟩ e (fun z=>nomatch z) h
  | @dT a kvs ea =>
    cases (show u = Value.ref a from rx)
    obtain ⟨_,_,xs,_,o,es,ep,h1,h2,_⟩:=(show ObjOk X.prog X.w H s.heap a (.dT kvs) from I.hok a _ ea)
    exact PySem.W.kia_one PySem.W.kitx_dict I.kIn ⟨o,h1,h2.1⟩ e (fun z=>nomatch z) h
  | @ins a C dx fs ea cl ha hn htk hm =>
    cases (show u = Value.ref a from rx)
    obtain ⟨mA,O,_⟩:=rB I.hok ea
    obtain ⟨od,J,_⟩:=O.look
    exact PySem.W.kia_one (PySem.W.kitx_own (cl.get _) cl.hd ha hn htk hm) I.kIn J e (fun z=>nomatch z) h
end
structure Room (k : Nat) (A : Around) : Prop where
  hd : A.handled = none
  dp : A.depth + 3 * k + 5 < recursionLimit
  un : A.units + 16 * k + 200 < cLine
theorem Room.mono {j k : Nat} {A : Around} (r : Room k A) (h : j ≤ k) : Room j A:=⟨r.hd,by have:=r.dp; omega,by have:=r.un; omega⟩
theorem Room.deeper {k : Nat} {A : Around} (r : Room (k + 1) A) (env : Env) : Room k (A.deeper env) :=
  ⟨r.hd,by have:=r.dp; show A.depth + 1 + 3 * k + 5 < _; omega,by have:=r.un; show A.units + 3 + 16 * k + 200 < _; omega⟩
theorem Room.in1 {k : Nat} {A : Around} (r : Room (k + 1) A) : Room k A.in1 :=
  ⟨r.hd,by have:=r.dp; show A.depth + 3 * k + 5 < _; omega,by have:=r.un; show A.units + 1 + 16 * k + 200 < _; omega⟩
theorem Room.depth {k : Nat} {A : Around} (r : Room k A) : A.depth < recursionLimit:=by have:=r.dp; omega
theorem Room.units {k : Nat} {A : Around} (r : Room k A) : A.units + 64 < cLine:=by have:=r.un; omega
def rf : TA:=fun _ H Q=>Q [] H
def mm (ta : TE) (tr : TA) : TA:=fun σ H Q=>ta σ H fun x H1=>tr σ H1 fun xs H2=>Q (x :: xs) H2
section
variable {X : Cx} {e : Expr} {es : List Expr} {te : TE} {t : TA} {pos : Pos}
theorem ac : PA X [] rf:=fun _ _ _ _ H Q I h=>Calls.spliced_nil ⟨[],H,I,.nil,h⟩
theorem aa (ha : PE X e te) (hr : PA X es t) (hs : starEach (e :: es) X.env = (false,eval e X.env) :: starEach es X.env:=by rfl) : PA X (e :: es) (mm te t):=by
  intro pos pins s σ H Q I h
  rw [hs]
  show wpAny _ _ (spliced ((false,eval e X.env) :: backTo pos (starEach es X.env))) _ _ s
  refine Calls.spliced_cons (thn (ha pins s σ H _ I h) fun u s1 hm0=>?_)
  obtain ⟨x,H1,I1,r1,q1⟩:=hm0
  refine thn (hr pos pins s1 σ H1 _ I1 q1) fun us s2 hm0=>?_
  obtain ⟨xs,H2,I2,r2,q2⟩:=hm0
  exact ⟨x :: xs,H2,I2,.cons r1 r2,q2⟩
def vy (t : TA) : TE:=fun σ H Q=>t σ H fun xs H1=>xs.length ≤ sizeLine∧∀ p,H1 p = none→Q (.ref p) (upd H1 p (.tup xs))
def vx (t : TA) : TE:=fun σ H Q=>t σ H fun xs H1=>xs.length ≤ sizeLine∧∀ p,H1 p = none→Q (.ref p) (upd H1 p (.lst xs))
theorem br {x1} (h : PA X es t) : PE X (.Tuple es x1 pos) (vy t):=by
  intro pins s σ H Q I hq
  refine wpAny_Tuple_spliced (thn (h pos pins s σ H _ I hq) fun us s1 hm0=>?_)
  obtain ⟨xs,H1,I1,r,z,q⟩:=hm0
  refine ⟨by rw [← r.length]; exact z,?_⟩
  have hf : H1 s1.heap.objs.size = none:=I1.hok.fresh (Nat.le_refl _)
  refine ⟨.ref s1.heap.objs.size,upd H1 s1.heap.objs.size (.tup xs),I1.laid (t':=s1.toks) (fun b u e=>Heap.get?_push_of_some _ e) (Nat.le_refl _) ?_,rfl,q _ hf⟩
  exact ⟨z,us,r,⟨_,Heap.get?_push_size _ rfl,rfl,_,rfl⟩⟩
theorem bC (h : PA X es t) : PE X (.List es pos) (vx t):=by
  intro pins s σ H Q I hq
  refine wpAny_List_spliced (thn (h pos pins s σ H _ I hq) fun us s1 hm0=>?_)
  obtain ⟨xs,H1,I1,r,z,q⟩:=hm0
  refine ⟨by rw [← r.length]; exact z,?_⟩
  have hf : H1 s1.heap.objs.size = none:=I1.hok.fresh (Nat.le_refl _)
  refine ⟨.ref s1.heap.objs.size,upd H1 s1.heap.objs.size (.lst xs),I1.laid (t':=s1.toks) (fun b u e=>Heap.get?_push_of_some _ e) (Nat.le_refl _) ?_,rfl,q _ hf⟩
  exact ⟨z,us,0,r,Heap.get?_push_size _ rfl⟩
end
abbrev Sp:=List V→Hp→VK→XK→Prop
abbrev CXT:=List Env→Hp→Shared→XK→Value→Shared→Prop
structure Env0 (P : Program) (w : World) (K : PySem.W.Frag) (mg : Str→Option Value) (base : Heap) (A : Around) (outer : List Env) (s : Shared) (H : Hp) : Prop where
  frames : A.frames = some outer
  mod : Mod K mg base
  bs : ∀ b o,base.get? b = some o→s.heap.get? b = some o∧H b = none
  bsz : base.objs.size ≤ s.heap.objs.size
  funs : s.heap.FunFrames base outer
  frf : ∀ b ∈ frs outer,H b = none
  hok : HOk P w H s.heap
  bare : AllBare s.gens
def CE (outer : List Env) (P : Program) (w : World) (H : Hp) (s : Shared) (Q : VK) (u : Value) (s' : Shared) : Prop :=
  ∃ v H',s'.os = s.os∧AllBare s'.gens∧Un (frs outer) [] H H' s.heap s'.heap∧HOk P w H' s'.heap∧RelV v u∧Q v H'
def CR (CX : CXT) (outer : List Env) (P : Program) (w : World) (H : Hp) (s : Shared) (Q : VK) (E : XK) (r : Result) (s' : Shared) : Prop :=
  match r with
  | .ok (.ret u)=>CE outer P w H s Q u s'
  | .ok _=>False
  | .error e=>CX outer H s E e s'
structure FnOk (P : Program) (w : World) (K : PySem.W.Frag) (mg : Str→Option Value) (base : Heap) (CX : CXT) (k : Nat) (f : Addr) (fd : FuncData) (ps : List Str) (sp : Sp) : Prop where
  len : ∀ vs H Q E,sp vs H Q E→vs.length = ps.length
  run : ∀ (A : Around) (outer : List Env) (s : Shared) (H : Hp) (args : Args) (us : List Value) (vs : List V) (Q : VK) (E : XK),Room k A→Env0 P w K mg base A outer s H→BindsTo s fd args (ps.zip us)→Vals vs us→sp vs H Q E →
    codeAny (model P w) A (.call (.ref f) args) (CR CX outer P w H s Q E) s
theorem Env0.in1 {P : Program} {w : World} {K : PySem.W.Frag} {mg : Str→Option Value} {base : Heap} {A : Around} {outer : List Env} {s : Shared} {H : Hp} (e : Env0 P w K mg base A outer s H) :
    Env0 P w K mg base A.in1 outer s H:=⟨e.frames,e.mod,e.bs,e.bsz,e.funs,e.frf,e.hok,e.bare⟩
section
variable {X : Cx} {pins : List (Addr × Obj)} {σ : St} {H : Hp} {s s' : Shared}
theorem Inv.env0 (I : Inv X pins σ H s) : Env0 X.prog X.w X.K X.mg X.base X.A X.stack s H :=
  ⟨I.ok.frames,I.ok.mod,I.bs,Nat.le_trans I.ok.bsz I.sz,I.stack,I.stkFree,I.hok,I.bare⟩
theorem Inv.after {Q : VK} {u : Value} (I : Inv X pins σ H s) (h : CE X.stack X.prog X.w H s Q u s') : EP X pins σ Q u s':=by
  obtain ⟨v,H',os,bare,un,hok,r,q⟩:=h
  obtain ⟨hh,g,d,t,os'⟩:=s'
  obtain rfl : os' = s.os:=os
  exact ⟨v,H',I.call (h':=hh) (g':=g) (d':=d) (t':=t) (ch:=[]) un hok bare (fun b z=>absurd z (by simp)),r,q⟩
end
def ox (sp : Sp) (dvs : List V) (E : XK) (t : TA) : TE:=fun σ H Q=>t σ H fun vs H1=>sp (vs ++ dvs) H1 Q E
def Binds (K : PySem.W.Frag) (fd : FuncData) (ps : List Str) (ds : List Value) : Prop :=
  ∀ (s : Shared) (us : List Value),K.In s.heap→(us ++ ds).length = ps.length→BindsTo s fd ⟨us,[]⟩ (ps.zip (us ++ ds))
theorem Binds.all {K : PySem.W.Frag} {fd : FuncData} {ps : List Str} (h : ∀ us : List Value,us.length = ps.length→bindArgs fd ⟨us,[]⟩ = pure (ps.zip us)) : Binds K fd ps []:=fun s us _ hl=>by
  rw [List.append_nil] at hl ⊢
  exact .of_eq (h us hl)
def dw (CX : CXT) (X : Cx) (E : XK) : Prop:=∀ (pins : List (Addr × Obj)) (σ : St) (H : Hp) (s : Shared) (e : Value) (s' : Shared),Inv X pins σ H s→CX X.stack H s E e s'→X.xe e s'
section
variable {X : Cx} {CX : CXT} {k : Nat} {f C : Addr} {fd : FuncData} {ps : List Str} {sp : Sp} {dvs : List V} {ds : List Value} {E : XK} {x m : Str} {p pos apos : Pos} {e o : Expr} {es : List Expr} {ta : TE} {t : TA}
theorem uB {pins : List (Addr × Obj)} {σ : St} {H : Hp} {s : Shared} {Q : VK} {us : List Value} {vs : List V} (F : FnOk X.prog X.w X.K X.mg X.base CX k f fd ps sp) (hr : Room k X.A) (hb : Binds X.K fd ps ds) (hd : Vals dvs ds) (hx : dw CX X E)
    (I : Inv X pins σ H s) (r : Vals vs us) (h : sp (vs ++ dvs) H Q E) : wpAny (model X.prog X.w) X.A (call (.ref f) us) (EP X pins σ Q) X.xe s:=by
  have r2 : Vals (vs ++ dvs) (us ++ ds):=r.append hd
  have hl : (us ++ ds).length = ps.length:=by rw [← r2.length]; exact F.len _ _ _ _ h
  refine wpAny_call (codeAny_mono (F.run X.A X.stack s H ⟨us,[]⟩ (us ++ ds) (vs ++ dvs) Q E hr I.env0 (hb s us I.kIn hl) r2 h) fun r s' hq=>?_)
  cases r with
  | error e=>exact hx pins σ H s e s' I hq
  | ok fl =>
    cases fl with
    | ret u=>exact I.after hq
    | next=>exact False.elim hq
    | brk=>exact False.elim hq
    | cont=>exact False.elim hq
theorem mI (F : FnOk X.prog X.w X.K X.mg X.base CX k f fd ps sp) (hr : Room k X.A) (hg : Gl X x) (hm : X.mg x = some (.ref f)) (hk : PySem.W.keepIn X.K (.ref f) = true) (hb : Binds X.K fd ps ds) (hd : Vals dvs ds) (hx : dw CX X E)
    (ha : PA X (e :: es) t) (hdb : (x == ("__debug__" : Str)) = false:=by decide) (he : starEach (e :: es) X.env = (false,eval e X.env) :: starEach es X.env:=by rfl) (hpl : (backTo pos (starEach es X.env)).any (·.1) = false:=by rfl) :
    PE X (.Call (.Name x p) (e :: es) [] pos) (ox sp dvs E t):=by
  intro pins s σ H Q I h
  refine wpAny_Call_Name_kw (gB I hg hm ?_ hdb)
  refine PySem.W.callWith_K (h₀:=X.base) I.ok.mod.kin hk (thn (ha pos pins s σ H _ I h) fun us s1 hm0=>?_) he hpl
  obtain ⟨vs,H1,I1,r,q⟩:=hm0
  refine ⟨I1.kIn,?_⟩
  exact uB F hr hb hd hx I1 r q
end
def PK (X : Cx) (kws : List Keyword) (t : TA) : Prop :=
  ∀ (pos : Pos) (pins : List (Addr × Obj)) (s : Shared) (σ : St) (H : Hp) (Q : List V→Hp→Prop),Inv X pins σ H s→t σ H Q→wpAny (model X.prog X.w) X.A (evalAll ((backToKw pos (keywordEach kws X.env)).map (·.2))) (AP X pins σ Q) X.xe s
section
variable {X : Cx} {CX : CXT} {k : Nat} {f C : Addr} {fd : FuncData} {ps ks : List Str} {sp : Sp} {E : XK} {x m : Str} {p pos apos kpos : Pos} {e o : Expr} {es : List Expr} {kws : List Keyword} {te ta : TE} {t tk : TA} {nm : Option Str}
theorem qQ : PK X [] rf:=fun _ _ _ _ H Q I h=>wpAny_evalAll_nil ⟨[],H,I,.nil,h⟩
theorem mr (ha : PE X e te) (hr : PK X kws t) : PK X (⟨nm,e,kpos⟩ :: kws) (mm te t):=by
  intro pos pins s σ H Q I h
  show wpAny _ _ (evalAll ((do let v ← eval e X.env; standAt pos; pure v) :: (backToKw pos (keywordEach kws X.env)).map (·.2))) _ _ s
  refine wpAny_evalAll_cons (wpAny_bind (thn (ha pins s σ H _ I h) fun u s1 hm0=>?_))
  obtain ⟨x,H1,I1,r1,q1⟩:=hm0
  refine wpAny_bind (wpAny_standAt (wpAny_pure ?_))
  refine thn (hr pos pins s1 σ H1 _ I1 q1) fun us s2 hm0=>?_
  obtain ⟨xs,H2,I2,r2,q2⟩:=hm0
  exact ⟨x :: xs,H2,I2,.cons r1 r2,q2⟩
variable {g : List Value→List Value→List Value} {gV : List V→List V→List V}
end
structure FnScope (N P : List Str) (sc : Scope) : Prop where
  kind : sc.kind = .function
  co : sc.isCoroutine = false
  gen : sc.isGenerator = false
  nd : N.Nodup
  pre : N.take P.length = P
  par : ∀ x ∈ P,sc.names.lookup x = some .local ∨ sc.names.lookup x = some .cell
  nofree : ∀ y ∈ sc.names,y.2 ≠ .free
theorem jg {kindOf : Str→Option NameKind} {x : Str} : ∀ {binds : List (Str × Value)} {m : Str→Option Value},(∀ v,(x,v) ∉ binds)→bindL kindOf binds m x = m x
  | [],_,_=>rfl
  | (n,v) :: r,m,h=>by
    unfold bindL
    rw [jg fun w hw=>h w (List.mem_cons_of_mem _ hw)]
    split
    · have : x ≠ n:=by rintro rfl; exact h v List.mem_cons_self
      simp [this]
    · rfl
theorem je {kindOf : Str→Option NameKind} {x : Str} : ∀ {binds : List (Str × Value)} {m : Str→Option Value},(∀ v,(x,v) ∉ binds)→bindC kindOf binds m x = m x
  | [],_,_=>rfl
  | (n,v) :: r,m,h=>by
    unfold bindC
    rw [je fun w hw=>h w (List.mem_cons_of_mem _ hw)]
    split
    · rfl
    · have : x ≠ n:=by rintro rfl; exact h v List.mem_cons_self
      simp [this]
theorem ju {kindOf : Str→Option NameKind} {x : Str} {v : Value} : ∀ {P : List Str} {vs : List Value} {i : Nat} {m : Str→Option Value},P.Nodup→P[i]? = some x→vs[i]? = some v→kindOf x = some .local →
    bindL kindOf (P.zip vs) m x = some v
  | [],_,_,_,_,h,_,_=>by simp at h
  | _ :: _,[],_,_,_,_,h,_=>by simp at h
  | p :: P,w :: vs,0,m,nd,h1,h2,hk=>by
    simp at h1 h2; subst h1; subst h2
    show bindL kindOf ((p,w) :: P.zip vs) m p = _
    unfold bindL
    rw [jg fun v hv=>(List.nodup_cons.mp nd).1 (List.of_mem_zip hv).1,if_pos hk]
    simp
  | p :: P,w :: vs,i + 1,m,nd,h1,h2,hk=>by
    show bindL kindOf ((p,w) :: P.zip vs) m x = _
    unfold bindL
    exact ju (i:=i) (List.nodup_cons.mp nd).2 (by simpa using h1) (by simpa using h2) hk
theorem jr {kindOf : Str→Option NameKind} {x : Str} {v : Value} : ∀ {P : List Str} {vs : List Value} {i : Nat} {m : Str→Option Value},P.Nodup→P[i]? = some x→vs[i]? = some v→kindOf x ≠ some .local →
    bindC kindOf (P.zip vs) m x = some v
  | [],_,_,_,_,h,_,_=>by simp at h
  | _ :: _,[],_,_,_,_,h,_=>by simp at h
  | p :: P,w :: vs,0,m,nd,h1,h2,hk=>by
    simp at h1 h2; subst h1; subst h2
    show bindC kindOf ((p,w) :: P.zip vs) m p = _
    unfold bindC
    rw [je fun v hv=>(List.nodup_cons.mp nd).1 (List.of_mem_zip hv).1,if_neg hk]
    simp
  | p :: P,w :: vs,i + 1,m,nd,h1,h2,hk=>by
    show bindC kindOf ((p,w) :: P.zip vs) m x = _
    unfold bindC
    exact jr (i:=i) (List.nodup_cons.mp nd).2 (by simpa using h1) (by simpa using h2) hk
def start (N : List Str) (vs : List V) : St:=vs.map some ++ List.replicate (N.length - vs.length) none
def fN (CX : CXT) (P : Program) (w : World) (K : PySem.W.Frag) (mg : Str→Option Value) (base : Heap) (N : List Str) (qual : Str) (scope : Scope) (f : Addr) (cd : Value) (A : Around) (outer : List Env) (s : Shared) (H : Hp) (E : XK) : Cx where
  prog:=P
  w:=w
  K:=K
  mg:=mg
  base:=base
  A:=A.deeper (envOfC qual scope s.heap.objs.size f cd)
  N:=N
  s₀:=s
  H₀:=H
  env:=envOfC qual scope s.heap.objs.size f cd
  outer:=outer
  stack:=envOfC qual scope s.heap.objs.size f cd :: outer
  ex:=[]
  calm:=true
  fn:=fun _=>true
  pn:=[]
  xe:=fun e s'=>wpAny (model P w) (A.deeper (envOfC qual scope s.heap.objs.size f cd)) (leaving (envOfC qual scope s.heap.objs.size f cd) e) (fun _ s''=>CX outer H s E e s'') (fun e' s''=>CX outer H s E e' s'') s'
theorem kX {sc : Scope} {n : Nat} {x : Str} (h : sc.names.lookup x = some .cell) : ∃ c,(cellsFrom n sc.names []).lookup x = some c:=by
  have q:=PySem.W.cellsFrom_some sc.names n [] (.inl h)
  exact Option.isSome_iff_exists.mp q
theorem nh {CX : CXT} {P : Program} {w : World} {K : PySem.W.Frag} {mg : Str→Option Value} {base : Heap} {N ps : List Str} {qual : Str} {scope : Scope} {f : Addr} {cd : Value} {A : Around} {outer : List Env} {s s1 : Shared} {H : Hp} {E : XK} {us : List Value} {vs : List V}
    (S : FnScope N ps scope) (hd : A.handled = none) (e0 : Env0 P w K mg base A outer s H) (hl : vs.length = ps.length) (r : Vals vs us)
    (x : InCallC s s.heap.objs.size (bindL (envOfC qual scope s.heap.objs.size f cd).kindOf (ps.zip us) fun _=>none) (cellsFrom (s.heap.objs.size + 1) scope.names []) (bindC (envOfC qual scope s.heap.objs.size f cd).kindOf (ps.zip us) fun _=>none) s1) :
    Inv (fN CX P w K mg base N qual scope f cd A outer s H E) [] (start N vs) H s1:=by
  have hpl : ps.length ≤ N.length:=by have:=congrArg List.length S.pre; rw [List.length_take] at this; omega
  obtain ⟨h1,tk,rfl,hk⟩:=x.done
  have noA : ∀ b : Addr,b ∉ (fN CX P w K mg base N qual scope f cd A outer s H E).ex:=fun b z=>absurd (show b ∈ ([] : List Addr) from z) (by simp)
  refine ⟨⟨e0.mod,S.kind,rfl,rfl,Nat.le_refl _,fun y z c h1 h2=>?_,fun y hy=>?_,fun y c _ h=>?_,fun _=>hd,Around.frames_deeper e0.frames,.inr ⟨rfl,rfl⟩,fun b z=>absurd z (noA b),e0.bs,e0.bsz,fun b _ _=>noA b,fun b z=>absurd z (noA b),e0.funs,e0.frf⟩,
    rfl,e0.bare,Un.kept hk,⟨_,x.toInCall.ns,fun i y v h1 h2 h3=>?_⟩,fun y c h=>⟨_,x.cell y c h⟩,e0.hok.fresh (Nat.le_refl _),fun y c h=>?_,fun p hp=>absurd (show p ∈ ([] : List (Addr × Obj)) from hp) (by simp),e0.hok.kept hk,?_⟩
  · exact name_of_addr x.apart (PySem.mem_of_lookup h1) (PySem.mem_of_lookup h2)
  · have hy : scope.names.lookup y = some .cell ∨ scope.names.lookup y = some .free:=hy
    rcases hy with hy | hy
    · exact kX hy
    · exact absurd rfl (S.nofree _ (PySem.mem_of_lookup hy))
  · exact Nat.le_of_lt (x.above y c (PySem.mem_of_lookup h))
  · have hi : i < vs.length:=by
      unfold start at h2
      by_cases hi : i < vs.length
      · exact hi
      · rw [List.getElem?_append_right (by simpa using hi)] at h2
        rw [List.getElem?_replicate] at h2
        split at h2 <;> cases h2
    have ha : vs[i]? = some v:=by
      unfold start at h2
      rw [List.getElem?_append_left (by simpa using hi),List.getElem?_map] at h2
      cases e : vs[i]? with
      | none=>rw [e] at h2; cases h2
      | some a=>rw [e] at h2; cases h2; rfl
    obtain ⟨u,hu,rv⟩:=r.get ha
    have hp : ps[i]? = some y:=by
      rw [← S.pre,List.getElem?_take_of_lt (by omega)]; exact h1
    have ndP : ps.Nodup:=by rw [← S.pre]; exact S.nd.sublist (List.take_sublist _ _)
    refine ⟨u,rv,?_⟩
    rcases S.par y (List.mem_of_getElem? hp) with k | k
    · exact .inl ⟨k,ju ndP hp hu k⟩
    · obtain ⟨c,e⟩:=kX (n:=s.heap.objs.size + 1) k
      refine .inr ⟨.inl k,c,e,?_⟩
      have q:=x.cell y c e
      rw [jr ndP hp hu (by show scope.names.lookup y ≠ _; rw [k]; decide)] at q
      exact q
  · exact e0.hok.fresh (Nat.le_of_lt (x.above y c (PySem.mem_of_lookup h)))
  · unfold start
    show _ = N.length
    rw [List.length_append,List.length_map,List.length_replicate]
    omega
theorem ow {CX : CXT} {P : Program} {w : World} {K : PySem.W.Frag} {mg : Str→Option Value} {base : Heap} {k : Nat} {f : Addr} {name qual : Str} {params : Arguments} {body : List Stmt} {scope : Scope} {dV kV doc pm cdv ct oc : Value} {an od : Option Addr}
    {osl : Array (Option Value)} {N ps : List Str} {sp : Sp} (lk : K.lookup f = some ⟨oc,od,.func (PySem.W.fnOf name qual params body scope dV kV doc pm an cdv ct),osl⟩) (hcd : PySem.W.codeIn K cdv qual = true) (S : FnScope N ps scope)
    (len : ∀ vs H Q E,sp vs H Q E→vs.length = ps.length)
    (hbody : ∀ (A : Around) (outer : List Env) (s : Shared) (H : Hp) (vs : List V) (Q : VK) (E : XK),Room k (A.deeper (envOfC qual scope s.heap.objs.size f cdv))→sp vs H Q E →
      ∃ t,PSs (fN CX P w K mg base N qual scope f cdv A outer s H E) body t∧t { nx:=fun _ H'=>Q .non H',rt:=Q } (start N vs) H) :
    FnOk P w K mg base CX (k + 1) f (PySem.W.fnOf name qual params body scope dV kV doc pm an cdv ct) ps sp:=by
  refine ⟨len,fun A outer s H args us vs Q E hr e0 hb r hsp=>?_⟩
  have hl:=len _ _ _ _ hsp
  have KX : K.In s.heap:=e0.mod.kin.keeps fun b o e=>(e0.bs b o e).1
  have lim : s.heap.NoLimit:=e0.mod.nolimit.keeps fun b o e=>(e0.bs b o e).1
  have hkind : ∀ y ∈ ps.zip us,scope.names.lookup y.1 = some .local ∨ (scope.names.lookup y.1 = some .cell∧((cellsFrom (s.heap.objs.size + 1) scope.names []).lookup y.1).isSome = true):=fun ⟨n,v⟩ hy=>by
    rcases S.par n (List.of_mem_zip hy).1 with q | q
    · exact .inl q
    · exact .inr ⟨q,PySem.W.cellsFrom_some _ _ _ (.inl q)⟩
  refine codeAny_call_function hr.depth (KX _ _ lk) rfl S.co S.gen rfl (PySem.W.codeRec_of KX hcd) (hb _ _ _ _ ?_)
  refine wpAny_newFunctionEnv_cells S.kind hkind fun env he s1 x=>?_
  subst he
  refine ⟨lim.keeps x.toInCall.keep,codeAny_func ?_⟩
  obtain ⟨t,ht,hq⟩:=hbody A outer s H vs Q E (hr.deeper _) hsp
  have I : Inv (fN CX P w K mg base N qual scope f cdv A outer s H E) [] (start N vs) H s1:=nh S hr.hd e0 hl r x
  refine wpAny_mono (ht [] s1 (start N vs) H _ I hq) (fun fl s' hs=>?_) fun e s' hs=>hs
  have fin : ∀ {σ' : St} {H' : Hp} {v : V} {u : Value},Inv (fN CX P w K mg base N qual scope f cdv A outer s H E) [] σ' H' s'→RelV v u→Q v H'→CE outer P w H s Q u s' :=
    fun {σ' H' v u} J rv q=>⟨v,H',J.os,J.bare,J.base,J.hok,rv,q⟩
  cases fl with
  | ret u =>
    obtain ⟨v,σ',H',J,rv,q⟩:=hs
    exact fin J rv q
  | next =>
    obtain ⟨σ',H',J,q⟩:=hs
    exact fin (v:=V.non) (u:=Value.none) J rfl q
  | brk =>
    obtain ⟨_,_,_,q⟩:=hs
    exact False.elim q
  | cont =>
    obtain ⟨_,_,_,q⟩:=hs
    exact False.elim q
section
variable {X : Cx} {x : Str} {p pos : Pos} {e : Expr} {es : List Expr} {t : TA} {id T : String} {r : List V→Hp→VK→Prop}
def tCB (r : List V→Hp→VK→Prop) (t : TA) : TE:=fun σ H Q=>t σ H fun vs H1=>r vs H1 Q
theorem au (hc : dg X (.builtin id) r) (hg : Gl X x) (hm : X.mg x = none) (hv : bootBuiltins x = some (.builtin id)) (ha : PA X (e :: es) t) (hn : x ≠ "__name__":=by decide) (hdb : (x == ("__debug__" : Str)) = false:=by decide)
    (he : starEach (e :: es) X.env = (false,eval e X.env) :: starEach es X.env:=by rfl) (hpl : (backTo pos (starEach es X.env)).any (·.1) = false:=by rfl) : PE X (.Call (.Name x p) (e :: es) [] pos) (tCB r t):=by
  intro pins s σ H Q I h
  refine wpAny_Call_Name_kw (c6 I hg hm hv ?_ hn hdb)
  refine PyProof.Rows.callWith_builtin1 (thn (ha pos pins s σ H _ I h) fun us s1 hm0=>?_) he hpl
  obtain ⟨vs,H1,I1,r1,q1⟩:=hm0
  exact hc pins s1 σ H1 vs us Q I1 r1 q1
theorem dD (hc : dg X (.type T) r) (hg : Gl X x) (hm : X.mg x = none) (hv : bootBuiltins x = some (.type T)) (ha : PA X (e :: es) t) (hn : x ≠ "__name__":=by decide) (hdb : (x == ("__debug__" : Str)) = false:=by decide)
    (he : starEach (e :: es) X.env = (false,eval e X.env) :: starEach es X.env:=by rfl) (hpl : (backTo pos (starEach es X.env)).any (·.1) = false:=by rfl) : PE X (.Call (.Name x p) (e :: es) [] pos) (tCB r t):=by
  intro pins s σ H Q I h
  refine wpAny_Call_Name_kw (c6 I hg hm hv ?_ hn hdb)
  refine PyProof.Rows.callWith_type1 (thn (ha pos pins s σ H _ I h) fun us s1 hm0=>?_) he hpl
  obtain ⟨vs,H1,I1,r1,q1⟩:=hm0
  exact hc pins s1 σ H1 vs us Q I1 r1 q1
end
end L2
namespace HT
open PySem PyProof.Rows
def lexLt : List Int→List Int→Bool
  | [],[]=>false
  | [],_ :: _=>true
  | _ :: _,[]=>false
  | x :: xs,y :: ys=>if x = y then lexLt xs ys else decide (x < y)
theorem lexLt_cons (x y : Int) (xs ys : List Int) : lexLt (x :: xs) (y :: ys) = if x = y then lexLt xs ys else decide (x < y):=rfl
theorem lexLt_nil_nil : lexLt [] [] = false:=rfl
theorem eF (y : Int) (ys : List Int) : lexLt [] (y :: ys) = true:=rfl
theorem ej (x : Int) (xs : List Int) : lexLt (x :: xs) [] = false:=rfl
theorem kU (A : Around) (s : Shared) (a : Int) (t : Tok) (c : Int) (u : Tok) : ∃ e,SeqAt.EqAt A s (.int a t) (.int c u) e∧(e = true ↔ a = c) :=
  ⟨(a == c),SeqAt.EqAt.int_int a t c u,by simp⟩
theorem oQ (A : Around) (s : Shared) (a : Int) (t : Tok) (c : Int) (u : Tok) (prog : Program) (w : World) (E : Value→Shared→Prop) (Q : Value→Shared→Prop) (h : Q (.bool (decide (a < c))) s) :
    wpAny (model prog w) A (richCompare .Lt (.int a t) (.int c u)) Q E s :=
  (PyProof.Rows.lt_int h : wpAny (model prog w) A (compareOp .Lt (.int a t) (.int c u)) Q E s)
section
open PySem.SeqAt
open PySem.AutoSeq1 (wpAny_loadPart')
open PySem.MeetsSeq PySem.MeetsSeq2 PySem.MeetsSeq3
theorem iC (l b : Addr) (items items2 : Array Value) (n n2 : Nat) (dd dd2 : Option Addr) (sl sl2 : Array (Option Value)) (ns ms : List Int) (hi : IntsAre items.toList ns) (hj : IntsAre items2.toList ms) :
    Meets (Builtin.«tuple.__lt__» ⟨[.ref l,.ref b],[]⟩)
      (fun _ R s=>s.heap.get? l = some { cls:=.type "tuple",dict:=dd,data:=.seq items n,slots:=sl }∧s.heap.get? b = some { cls:=.type "tuple",dict:=dd2,data:=.seq items2 n2,slots:=sl2 } ∧
        R (.ok (.ret (.bool (lexLt ns ms)))) s) :=
  .of_wp fun prog w A R s h=>by
    obtain ⟨hp,g,d,tk,os⟩:=s; obtain ⟨hl,hb,h⟩:=h
    have f2:=AutoSeq1.sub_tuple_tuple
    have z1 : items.size = ns.length:=by rw [← hi.length]; simp
    have z2 : items2.size = ms.length:=by rw [← hj.length]; simp
    wp_walk using wpAny_loadPart' hl,wpAny_loadPart' hb,wpAny_forIn_list _ (fun rest b s'=>b.1 = none∧s' = ⟨hp,g,d,tk,os⟩∧∃ (vs ws : List Value) (ns' ms' : List Int),rest = vs.zip ws ∧
      IntsAre vs ns'∧IntsAre ws ms'∧ns'.length + items2.size = ms'.length + items.size∧R (.ok (.ret (.bool (lexLt ns' ms')))) ⟨hp,g,d,tk,os⟩) _
    case turn =>
      rintro ⟨y,x⟩ rest b s' ⟨hb',rfl,vs,ws,ns',ms',hz,hvi,hwi,hlen,hR⟩
      cases hvi with
      | nil=>rw [List.zip_nil_left] at hz; cases hz
      | cons a t hvi' =>
        cases hwi with
        | nil=>rw [List.zip_nil_right] at hz; cases hz
        | cons c u hwi' =>
          rw [List.zip_cons_cons] at hz
          injection hz with hyx hrest
          injection hyx with hy hx
          subst hy hx
          rw [lexLt_cons] at hR
          simp only [List.length_cons] at hlen
          obtain ⟨e,he,hiff⟩:=kU A.in1 ⟨hp,g,d,tk,os⟩ a t c u
          refine wpAny_bind (he prog w _ _ ?_)
          cases e with
          | true =>
            rw [if_pos (hiff.mp rfl)] at hR
            wp_walk
            exact ⟨rfl,rfl,_,_,_,_,hrest,hvi',hwi',by omega,hR⟩
          | false =>
            rw [if_neg (fun q=>absurd (hiff.mpr q) Bool.false_ne_true)] at hR
            have hri:=oQ A.in1 ⟨hp,g,d,tk,os⟩ a t c u prog w
            wp_walk using hri
            exact ⟨_,rfl,by simpa using hR⟩
    case fin =>
      rintro ⟨b1,b2⟩ s' ⟨hb',rfl,vs,ws,ns',ms',hz,hvi,hwi,hlen,hR⟩
      simp only at hb'
      subst hb'
      have hv : lexLt ns' ms' = decide (items.size < items2.size):=by
        cases hvi with
        | nil =>
          cases hwi with
          | nil =>
            simp only [List.length_nil] at hlen
            rw [lexLt_nil_nil]
            exact (decide_eq_false (by omega)).symm
          | cons c u hw =>
            simp only [List.length_nil,List.length_cons] at hlen
            rw [eF]
            exact (decide_eq_true (by omega)).symm
        | cons a t hv =>
          cases hwi with
          | nil =>
            simp only [List.length_nil,List.length_cons] at hlen
            rw [ej]
            exact (decide_eq_false (by omega)).symm
          | cons c u hw =>
            rw [List.zip_cons_cons] at hz
            cases hz
      rw [hv] at hR
      wp_walk
      exact ⟨_,rfl,by simpa [Builtin.Tuple.tupleCompareSizes] using hR⟩
    case h =>
      exact ⟨rfl,rfl,items.toList,items2.toList,ns,ms,rfl,hi,hj,by omega,h⟩
end
section
variable {prog : Program} {w : World} {A : Around} {E : Value→Shared→Prop} {s : Shared}
theorem lt_tupInts {l b : Addr} {items items2 : Array Value} {ns ms : List Int} {Q : Value→Shared→Prop} (hl : IsTup s.heap l items) (hb : IsTup s.heap b items2) (hi : IntsAre items.toList ns) (hj : IntsAre items2.toList ms)
    (hu : A.units < cLine) (h : Q (.bool (lexLt ns ms)) s) : wpAny (model prog w) A (compareOp .Lt (.ref l) (.ref b)) Q E s:=by
  obtain ⟨⟨cls,dd,data,sl⟩,ho,hc,n,hd⟩:=id hl
  obtain ⟨⟨cls2,dd2,data2,sl2⟩,ho2,hc2,n2,hd2⟩:=id hb
  simp only at hc hd hc2 hd2
  subst hc hd hc2 hd2
  exact richCompare_meets_room (op:=.Lt) ⟨_,ho,rfl⟩ ⟨_,ho2,rfl⟩ PySem.F.slot_tuple_lt PySem.F.entry_tuple_lt (PySem.F.args_tuple_lt_2 _ _) (iC l b items items2 n n2 dd dd2 sl sl2 ns ms hi hj)
    ⟨ho,ho2,show Value.bool (lexLt ns ms) ≠ Value.notImplemented∧Q (.bool (lexLt ns ms)) s from ⟨(fun x=>nomatch x),h⟩⟩ hu
end
end HT
namespace L2
open PySem PySem.Spec PyProof.Rows
theorem bK {ns : List Int} : ∀ {us : List Value},Vals (ns.map V.int) us→IntsAre us ns:=by
  induction ns with
  | nil=>intro us r; rw [List.map_nil] at r; cases r; exact .nil
  | cons n ns ih =>
    intro us r
    rw [List.map_cons] at r
    cases r with
    | cons r1 r2 =>
      obtain ⟨t,e⟩:=r1
      subst e
      exact .cons n t (ih r2)
section
variable {X : Cx} {e : Expr} {te : TE} {lo hi : Option Expr} {tl th : TO} {pos p2 : Pos}
end
def ixN (n : Nat) (i : Int) : Option Nat:=if 0 ≤ i then (if i < n then some i.toNat else none) else if -(n : Int) ≤ i then some (i + n).toNat else none
def atI {α : Type} (xs : List α) (i : Int) : Option α:=(ixN xs.length i).bind fun j=>xs[j]?
theorem nc {n : Nat} {i : Int} {j : Nat} (h : ixN n i = some j) : seqIndex? i n = some j∧j < n∧-(n : Int) ≤ i∧i < n:=by
  unfold ixN at h
  by_cases h0 : 0 ≤ i
  · rw [if_pos h0] at h
    by_cases h1 : i < n
    · rw [if_pos h1] at h
      have e : i.toNat = j:=Option.some.inj h
      exact ⟨by rw [seqIndex_of h0 h1,e],by omega,by omega,h1⟩
    · rw [if_neg h1] at h; cases h
  · rw [if_neg h0] at h
    by_cases h1 : -(n : Int) ≤ i
    · rw [if_pos h1] at h
      have e : (i + n).toNat = j:=Option.some.inj h
      exact ⟨by rw [seqIndex_neg (by omega) h1,e],by omega,h1,by omega⟩
    · rw [if_neg h1] at h; cases h
theorem mi {α : Type} {xs : List α} {i : Int} {v : α} (h : atI xs i = some v) : ∃ j,seqIndex? i xs.length = some j∧xs[j]? = some v∧j < xs.length∧-(xs.length : Int) ≤ i∧i < xs.length:=by
  unfold atI at h
  cases e : ixN xs.length i with
  | none=>rw [e] at h; cases h
  | some j =>
    rw [e] at h
    obtain ⟨h1,h2,h3,h4⟩:=nc e
    exact ⟨j,h1,h,h2,h3,h4⟩
theorem aj {α : Type} {xs : List α} {j : Nat} {v : α} (h : xs[j]? = some v) : atI xs (j : Int) = some v:=by
  have hj : j < xs.length:=(List.getElem?_eq_some_iff.mp h).1
  have e : ixN xs.length (j : Int) = some j:=by
    unfold ixN
    rw [if_pos (by omega),if_pos (by omega)]; simp
  unfold atI; rw [e]; exact h
def sh (b : Expr) : Prop:=∀ o i,subscripted b false o i = operate [o,i] (getItem o i)
def IxR (X : Cx) (r : R2) : Prop :=
  ∀ (value slice : Expr) (pins : List (Addr × Obj)) (s : Shared) (σ : St) (H : Hp) (x y : V) (v u : Value) (Q : VK),Inv X pins σ H s→RelV x v→RelV y u→r x y H Q →
    subscripted slice false v u = operate [v,u] (getItem v u)→wpAny (model X.prog X.w) X.A (subscriptTail value slice v u) (EP X pins σ Q) X.xe s
def MtR (X : Cx) (id : String) (r : V→List V→Hp→VK→Prop) : Prop :=
  ∀ (pins : List (Addr × Obj)) (s : Shared) (σ : St) (H : Hp) (x : V) (xs : List V) (v : Value) (us : List Value) (Q : VK),Inv X pins σ H s→RelV x v→Vals xs us→r x xs H Q →
    wpAny (model X.prog X.w) X.A (call (.builtin id) (v :: us)) (EP X pins σ Q) X.xe s
section
variable {X : Cx} {a b : Expr} {ta tb : TE} {pos : Pos}
theorem al {r : R2} (hr : IxR X r) (ha : PE X a ta) (hb : PE X b tb) (hs : sh b) : PE X (.Subscript a b pos) (tOp r ta tb):=by
  intro pins s σ H Q I h
  exact Subscript_ (tP ha hb I h fun v u s2 x y H2 I2 rx ry q=>hr a b pins s2 σ H2 x y v u Q I2 rx ry q (hs _ _))
def vd (K : PySem.W.Frag) : R2:=fun x y H Q=>∃ p xs i v,x = .ref p∧y = .int i∧SqL K H p xs∧atI xs i = some v∧Q v H
def uU (K : PySem.W.Frag) : R2:=fun x y H Q=>∃ p xs i v,x = .ref p∧y = .int i∧SqT K H p xs∧atI xs i = some v∧Q v H
theorem sF : IxR X (vd X.K):=by
  intro value slice pins s σ H x y v u Q I rx ry h hs
  obtain ⟨p,xs,i,z,rfl,rfl,hq,he,q⟩:=h
  cases rx
  obtain ⟨t,rfl⟩:=ry
  obtain ⟨its,r,pl,hz⟩:=I.list hq
  obtain ⟨j,h1,h2,h3,h4,h5⟩:=mi he
  obtain ⟨w,ew,rw'⟩:=r.get h2
  have hl:=r.length
  have hn:=gK
  have fin : EP X pins σ Q w s:=⟨z,H,I,rw',q⟩
  by_cases h0 : 0 ≤ i
  · have hj : i.toNat = j:=by
      rw [seqIndex_of h0 h5] at h1
      exact Option.some.inj h1
    exact item_listR pl.isList h0 (by omega) (by rw [hj]; simpa using ew) fin hs
  · have hj : (i + (its.toArray.size : Int)).toNat = j:=by
      rw [seqIndex_neg (by omega) h4] at h1
      rw [List.size_toArray,← hl]
      exact Option.some.inj h1
    exact subscriptTail_builtinR (x:=w) pl.isList.typeIs slot_list_getitem.lookup
      (wpAny_getItem_list_neg (Q:=fun r s'=>r = w∧EP X pins σ Q r s') pl.isList (by omega) (by rw [List.size_toArray] <;> omega) (by omega) (by rw [hj]; simpa using ew) ⟨rfl,fin⟩) hs
theorem uc : IxR X (uU X.K):=by
  intro value slice pins s σ H x y v u Q I rx ry h hs
  obtain ⟨p,xs,i,z,rfl,rfl,hq,he,q⟩:=h
  cases rx
  obtain ⟨t,rfl⟩:=ry
  obtain ⟨its,r,pl,hz⟩:=I.tuple hq
  obtain ⟨j,h1,h2,h3,h4,h5⟩:=mi he
  obtain ⟨w,ew,rw'⟩:=r.get h2
  have hl:=r.length
  have hn:=gK
  have fin : EP X pins σ Q w s:=⟨z,H,I,rw',q⟩
  exact subscriptTail_builtinR (x:=w) pl.typeIs slot_tuple_getitem.lookup
    (getItem_tuple (j:=j) (Q:=fun r s'=>r = w∧EP X pins σ Q r s') pl (by omega) (by omega) (by rw [List.size_toArray,← hl]; exact h1) (by simpa using ew) ⟨rfl,fin⟩) hs
theorem lI (its : List Value) (n j : Nat) (u : Value) : Obj.mapSeq (·.setIfInBounds j u) { cls:=.type "list",data:=.seq its.toArray n } = { cls:=.type "list",data:=.seq (its.set j u).toArray n }:=by
  simp [Obj.mapSeq]
theorem Inv.lst {pins : List (Addr × Obj)} {σ : St} {H : Hp} {s : Shared} {p : Addr} {xs : List V} (I : Inv X pins σ H s) (h : H p = some (.lst xs)) :
    ∃ (its : List Value) (n : Nat),Vals xs its∧s.heap.get? p = some { cls:=.type "list",data:=.seq its.toArray n }∧xs.length ≤ sizeLine:=by
  obtain ⟨z,its,n,r,e⟩:=I.hok p _ h
  exact ⟨its,n,r,e,z⟩
theorem Inv.lstUpd {pins : List (Addr × Obj)} {σ : St} {H : Hp} {s : Shared} {p : Addr} {xs ys : List V} {its its' : List Value} {n n' : Nat} {f : Obj→Obj} (I : Inv X pins σ H s) (h : H p = some (.lst xs))
    (ho : s.heap.get? p = some { cls:=.type "list",data:=.seq its.toArray n }) (hf : f { cls:=.type "list",data:=.seq its.toArray n } = { cls:=.type "list",data:=.seq its'.toArray n' }) (r : Vals ys its') (hz : ys.length ≤ sizeLine) (t : Nat) :
    Inv X pins σ (upd H p (.lst ys)) { s with heap:=s.heap.update p f,toks:=t }:=by
  have e : (s.heap.update p f).get? p = some { cls:=.type "list",data:=.seq its'.toArray n' }:=by
    rw [Heap.get?_update_self f ho (by rw [hf] <;> rfl),hf]
  refine I.write (x:=p) (e:=p) (by rw [h]; trivial) (.inl rfl) (fun b u hb q=>(Heap.get?_update_other _ _ (Ne.symm hb)).trans q) ⟨_,e⟩ ?_
  exact ⟨hz,its',n',r,e⟩
def vj : V→V→V→Hp→(Hp→Prop)→Prop:=fun o i v H Q=>∃ p xs k j,o = .ref p∧i = .int k∧H p = some (.lst xs)∧ixN xs.length k = some j∧Q (upd H p (.lst (xs.set j v)))
theorem io : u4 X vj:=by
  intro pins s σ H o i v ov iv u Q I ro ri rv h
  obtain ⟨p,xs,k,j,rfl,rfl,hp,hj,q⟩:=h
  cases ro
  obtain ⟨t,rfl⟩:=ri
  obtain ⟨its,n,r,ho,hz⟩:=I.lst hp
  obtain ⟨h1,h2,h3,h4⟩:=nc hj
  have hl:=r.length
  have hn:=gK
  have I' : Inv X pins σ (upd H p (.lst (xs.set j v))) { s with heap:=s.heap.update p (Obj.mapSeq (·.setIfInBounds j u)) } :=
    I.lstUpd hp ho (lI its n j u) (r.set rv j) (by rw [List.length_set]; exact hz) s.toks
  by_cases h0 : 0 ≤ k
  · have hk : k.toNat = j:=by
      rw [seqIndex_of h0 h4] at h1
      exact Option.some.inj h1
    exact PySem.W.ki_setAt ho h0 (by omega) (by rw [List.size_toArray,← hl]; exact h4) (by rw [hk]; exact ⟨_,I',q⟩)
  · have hk : (k + (its.toArray.size : Int)).toNat = j:=by
      rw [seqIndex_neg (by omega) h3] at h1
      rw [List.size_toArray,← hl]
      exact Option.some.inj h1
    exact PySem.W.ki_setBack ho (by omega) (by rw [List.size_toArray,← hl]; exact h3) (by omega) (by rw [hk]; exact ⟨_,I',q⟩)
def fz : V→Bool
  | .non=>true
  | .bl _=>true
  | .int _=>true
  | .str _=>true
  | _=>false
def eqV : V→V→Bool
  | .non,.non=>true
  | .bl a,.bl b=>a == b
  | .bl a,.int b=>(if a then 1 else 0) == b
  | .int a,.bl b=>a == (if b then 1 else 0)
  | .int a,.int b=>a == b
  | .str a,.str b=>a == b
  | _,_=>false
theorem fO {A : Around} {s : Shared} {y x : V} {u v : Value} (ry : RelV y u) (rx : RelV x v) (fy : fz y = true) (fx : fz x = true) : SeqAt.EqAt A s u v (eqV y x):=by
  cases y with
  | non =>
    cases ry
    cases x with
    | non=>cases rx; exact SeqAt.EqAt.same _
    | bl b=>cases rx; exact SeqAt.EqAt.none_bool b
    | int b=>obtain ⟨t,rfl⟩:=rx; exact SeqAt.EqAt.none_int b t
    | str b=>obtain ⟨t,rfl⟩:=rx; exact SeqAt.EqAt.none_str b t
    | _=>exact absurd (show false = true from fx) Bool.false_ne_true
  | bl a =>
    cases ry
    cases x with
    | non=>cases rx; exact SeqAt.EqAt.bool_none a
    | bl b=>cases rx; exact SeqAt.EqAt.bool_bool a b
    | int b=>obtain ⟨t,rfl⟩:=rx; exact SeqAt.EqAt.bool_int a b t
    | str b=>obtain ⟨t,rfl⟩:=rx; exact SeqAt.EqAt.bool_str a b t
    | _=>exact absurd (show false = true from fx) Bool.false_ne_true
  | int a =>
    obtain ⟨t',rfl⟩:=ry
    cases x with
    | non=>cases rx; exact SeqAt.EqAt.int_none a t'
    | bl b=>cases rx; exact SeqAt.EqAt.int_bool a t' b
    | int b=>obtain ⟨t,rfl⟩:=rx; exact SeqAt.EqAt.int_int a t' b t
    | str b=>obtain ⟨t,rfl⟩:=rx; exact SeqAt.EqAt.int_str a t' b t
    | _=>exact absurd (show false = true from fx) Bool.false_ne_true
  | str a =>
    obtain ⟨t',rfl⟩:=ry
    cases x with
    | non=>cases rx; exact SeqAt.EqAt.str_none a t'
    | bl b=>cases rx; exact SeqAt.EqAt.str_bool a t' b
    | int b=>obtain ⟨t,rfl⟩:=rx; exact SeqAt.EqAt.str_int a t' b t
    | str b=>obtain ⟨t,rfl⟩:=rx; exact SeqAt.EqAt.str_str a t' b t
    | _=>exact absurd (show false = true from fx) Bool.false_ne_true
  | _=>exact absurd (show false = true from fy) Bool.false_ne_true
def eqU (x : V) (u : Value) : Bool:=match u with
  | .none=>eqV .non x
  | .bool b=>eqV (.bl b) x
  | .int i _=>eqV (.int i) x
  | .str z _=>eqV (.str z) x
  | _=>false
theorem oy {x y : V} {u : Value} (r : RelV y u) (f : fz y = true) : eqU x u = eqV y x:=by
  cases y with
  | non=>cases r; rfl
  | bl b=>cases r; rfl
  | int i=>obtain ⟨t,rfl⟩:=r; rfl
  | str z=>obtain ⟨t,rfl⟩:=r; rfl
  | _=>exact absurd (show false = true from f) Bool.false_ne_true
theorem jK {x : V} : ∀ {xs : List V} {us : List Value},Vals xs us→xs.all fz = true→us.any (eqU x) = xs.any fun y=>eqV y x
  | _,_,.nil,_=>rfl
  | y :: xs,u :: us,.cons r t,f=>by
    rw [List.all_cons,Bool.and_eq_true] at f
    rw [List.any_cons,List.any_cons,oy r f.1,jK t f.2]
theorem iq {A : Around} {s : Shared} {x : V} {v : Value} (rx : RelV x v) (fx : fz x = true) : ∀ {xs : List V} {us : List Value},Vals xs us→xs.all fz = true→∀ u ∈ us,SeqAt.EqAt A s u v (eqU x u)
  | _,_,.nil,_=>fun u hu=>by cases hu
  | y :: xs,u :: us,.cons r t,f=>fun u' hu=>by
    rw [List.all_cons,Bool.and_eq_true] at f
    rcases List.mem_cons.mp hu with rfl | hu
    · rw [oy r f.1]; exact fO r rx f.1 fx
    · exact iq rx fx t f.2 u' hu
def inV (x : V) (xs : List V) : Bool:=xs.any fun y=>eqV y x
def rIn (K : PySem.W.Frag) (neg : Bool) : R2:=fun x y H Q=>∃ p xs,y = .ref p∧(SqL K H p xs ∨ SqT K H p xs)∧fz x = true∧xs.all fz = true∧Q (.bl (if neg then !inV x xs else inV x xs)) H
theorem jB : OpR X (compareOp .NotIn) (rIn X.K true):=by
  intro pins s σ H x y v u Q I rx ry h
  obtain ⟨p,xs,rfl,hq,fx,fs,q⟩:=h
  cases ry
  rcases hq with hq | hq
  · obtain ⟨its,r,pl,hz⟩:=I.list hq
    refine SeqAt.notIn_listAt (eqU x) pl.isList (fun w hw=>iq rx fx r fs w (by simpa using hw)) ⟨.bl _,H,I,rfl,?_⟩
    rw [show its.toArray.any (eqU x) = its.any (eqU x) by simp,jK r fs]
    exact q
  · obtain ⟨its,r,pl,hz⟩:=I.tuple hq
    refine SeqAt.notIn_tupleAt (eqU x) pl (fun w hw=>iq rx fx r fs w (by simpa using hw)) ⟨.bl _,H,I,rfl,?_⟩
    rw [show its.toArray.any (eqU x) = its.any (eqU x) by simp,jK r fs]
    exact q
theorem j5 : dg X (.builtin "len") (fun xs H Q=>∃ p ys,xs = [.ref p]∧(SqL X.K H p ys ∨ SqT X.K H p ys)∧Q (.int ys.length) H):=by
  intro pins s σ H xs us Q I r h
  obtain ⟨p,ys,rfl,hq,q⟩:=h
  obtain ⟨u,rfl,rx⟩:=de r
  cases rx
  have hn:=gK
  rcases hq with hq | hq
  · obtain ⟨its,r',pl,hz⟩:=I.list hq
    have hlen:=r'.length
    exact Calls.call_len_list pl.isList (by simp only [List.size_toArray] <;> omega) ⟨.int ys.length,H,I.tok _,⟨s.toks + 1,by rw [List.size_toArray,hlen]⟩,q⟩
  · obtain ⟨its,r',pl,hz⟩:=I.tuple hq
    have hlen:=r'.length
    exact len_tuple pl (by simp only [List.size_toArray] <;> omega) ⟨.int ys.length,H,I.tok _,⟨s.toks + 1,by rw [List.size_toArray,hlen]⟩,q⟩
theorem j1 : dg X (.type "list") (fun xs H Q=>∃ p ys,xs = [.ref p]∧(SqL X.K H p ys ∨ SqT X.K H p ys)∧∀ l,H l = none→Q (.ref l) (upd H l (.lst ys))):=by
  intro pins s σ H xs us Q I r h
  obtain ⟨p,ys,rfl,hq,q⟩:=h
  obtain ⟨u,rfl,rx⟩:=de r
  cases rx
  have fin : ∀ (its : List Value),Vals ys its→ys.length ≤ sizeLine→∀ (h' : Heap) (c' : Nat),(∀ b o',s.heap.get? b = some o'→h'.get? b = some o') →
      h'.get? s.heap.objs.size = some { cls:=.type "list",dict:=none,data:=.seq its.toArray c',slots:=#[] }→EP X pins σ Q (.ref s.heap.objs.size) { s with heap:=h' }:=fun its r' hz h' c' kp e =>
    ⟨.ref s.heap.objs.size,_,I.laid (t':=s.toks) kp (Nat.le_refl _) (show ObjOk X.prog X.w _ h' _ (.lst ys) from ⟨hz,its,c',r',e⟩),rfl,q _ (I.hok.fresh (Nat.le_refl _))⟩
  rcases hq with hq | hq
  · obtain ⟨its,r',pl,hz⟩:=I.list hq
    have hlen:=r'.length
    obtain ⟨o,ho,hc,n,hd⟩:=pl.isList
    exact call_list_seq p (.inl rfl) ho hc hd (fun h' c' kp e=>fin its r' hz h' c' kp e) (by simp only [List.size_toArray] <;> omega)
  · obtain ⟨its,r',pl,hz⟩:=I.tuple hq
    have hlen:=r'.length
    obtain ⟨o,ho,hc,n,hd⟩:=pl
    exact call_list_seq p (.inr rfl) ho hc hd (fun h' c' kp e=>fin its r' hz h' c' kp e) (by simp only [List.size_toArray] <;> omega)
def tyV (K : PySem.W.Frag) (T : String) (x : V) (H : Hp) : Prop:=match x with
  | .str _=>T = "str"
  | .int _=>T = "int"
  | .ref p=>(T = "list"∧∃ xs,SqL K H p xs) ∨ (T = "tuple"∧∃ o,K.lookup p = some o∧o.cls = .type "tuple"∧o.dict = none) ∨
      (T = "dict"∧((∃ kvs,H p = some (.dK kvs)) ∨ ∃ kvs,H p = some (.dT kvs))) ∨ (T = "set"∧∃ S n,H p = some (.set S n))
  | _=>False
theorem pJ {pins : List (Addr × Obj)} {σ : St} {H : Hp} {s : Shared} {T : String} {x : V} {v : Value} (I : Inv X pins σ H s) (r : RelV x v) (ty : tyV X.K T x H) :
    s.TypeIs v T∧∀ a,v = .ref a→∃ ob,s.heap.get? a = some ob∧ob.dict = none:=by
  cases x with
  | str z =>
    obtain ⟨t,rfl⟩:=r
    cases (show T = "str" from ty)
    exact ⟨typeIs_str s z t,fun _ e=>nomatch e⟩
  | int i =>
    obtain ⟨t,rfl⟩:=r
    cases (show T = "int" from ty)
    exact ⟨typeIs_int s i t,fun _ e=>nomatch e⟩
  | ref p =>
    cases r
    rcases ty with ⟨rfl,xs,hq⟩ | ⟨rfl,o,hk,hc,hd⟩ | ⟨rfl,hk⟩ | ⟨rfl,S,n,hk⟩
    · obtain ⟨its,_,pl,_⟩:=I.list hq
      refine ⟨pl.isList.typeIs,fun a e=>?_⟩
      cases e
      obtain ⟨o,n,e,c,hd,_⟩:=pl
      exact ⟨o,e,hd⟩
    · refine ⟨⟨o,I.kIn p o hk,hc⟩,fun a e=>?_⟩
      cases e
      exact ⟨o,I.kIn _ o hk,hd⟩
    · have z : ∃ o,s.heap.get? p = some o∧o.ExactDict:=by
        rcases hk with ⟨kvs,hk⟩ | ⟨kvs,hk⟩
        · obtain ⟨_,_,_,_,o,_,_,e,ex,_⟩:=I.hok p _ hk
          exact ⟨o,e,ex⟩
        · obtain ⟨_,_,_,_,o,_,_,e,ex,_⟩:=I.hok p _ hk
          exact ⟨o,e,ex⟩
      obtain ⟨o,e,ex⟩:=z
      refine ⟨⟨o,e,ex.1⟩,fun a e2=>?_⟩
      cases e2
      exact ⟨o,e,ex.2.1⟩
    · obtain ⟨o,_,_,_,e,ex,_⟩:=I.hok p _ hk
      refine ⟨⟨o,e,ex.1⟩,fun a e2=>?_⟩
      cases e2
      exact ⟨o,e,ex.2.1⟩
  | _=>exact False.elim ty
def vQ (K : PySem.W.Frag) (T : String) (r : V→List V→Hp→VK→Prop) (to : TE) : TE:=fun σ H Q=>to σ H fun x H1=>tyV K T x H1∧r x [] H1 Q
def tBM (K : PySem.W.Frag) (T : String) (r : V→List V→Hp→VK→Prop) (to : TE) (t : TA) : TE:=fun σ H Q=>to σ H fun x H1=>tyV K T x H1∧t σ H1 fun xs H2=>r x xs H2 Q
variable {o e : Expr} {es : List Expr} {to : TE} {t : TA} {name : Str} {apos cpos : Pos} {T id : String} {r : V→List V→Hp→VK→Prop}
theorem pb (pa : PlainAttrs T) (slot : Slot T name id) (hty : typeOf (.builtin id) = pure (.type "method_descriptor")) (hm : MtR X id r) (ho : PE X o to)
    (hbase : attributeBase o name X.env (eval o X.env) = eval o X.env:=by rfl) (hline : (apos.endLine == cpos.line) = true:=by rfl) : PE X (.Call (.Attribute o name apos) [] [] cpos) (vQ X.K T r to):=by
  intro pins s σ H Q I h
  refine wpAny_Call_method0_late hbase hline (thn (ho pins s σ H _ I h) fun v s1 hm0=>?_)
  obtain ⟨x,H1,I1,r1,ty,q1⟩:=hm0
  obtain ⟨h1,h2⟩:=pJ I1 r1 ty
  exact ⟨T,id,pa,slot,hty,h1,h2,Calls.callWith_builtin rfl (PySem.evalArgs_none (hm pins s1 σ H1 x [] v [] Q I1 r1 .nil q1))⟩
theorem di (pa : PlainAttrs T) (slot : Slot T name id) (hty : typeOf (.builtin id) = pure (.type "method_descriptor")) (hm : MtR X id r) (ho : PE X o to) (ha : PA X (e :: es) t)
    (hbase : attributeBase o name X.env (eval o X.env) = eval o X.env:=by rfl)
    (hfew : ((backTo cpos (starEach (e :: es) X.env)).all (fun x=>!x.1) && (backToKw cpos (keywordEach [] X.env)).all (fun x=>x.1.isSome)
      && decide ((e :: es).length + ([] : List Keyword).length + (if ([] : List Keyword).isEmpty then 0 else 1) < 30)) = true:=by rfl)
    (hline : (apos.endLine == cpos.line) = true:=by rfl) (hs : starEach (e :: es) X.env = (false,eval e X.env) :: starEach es X.env:=by rfl) (hplain : (backTo cpos (starEach es X.env)).any (·.1) = false:=by rfl) :
    PE X (.Call (.Attribute o name apos) (e :: es) [] cpos) (tBM X.K T r to t):=by
  intro pins s σ H Q I h
  refine wpAny_Call_method_late hbase hfew hline rfl (thn (ho pins s σ H _ I h) fun v s1 hm0=>?_)
  obtain ⟨x,H1,I1,r1,ty,q1⟩:=hm0
  obtain ⟨h1,h2⟩:=pJ I1 r1 ty
  refine ⟨T,id,pa,slot,hty,h1,h2,?_⟩
  have hA:=ha cpos pins s1 σ H1 _ I1 q1
  rw [hs] at hA ⊢
  refine Calls.callWith_builtin (by show (false || (backTo cpos (starEach es X.env)).any (·.1)) = false; rw [hplain] <;> rfl) (Calls.evalArgs_plain ?_)
  refine thn hA fun us s2 hm0=>?_
  obtain ⟨vs,H2,I2,r2,q2⟩:=hm0
  exact hm pins s2 σ H2 x vs v us Q I2 r1 r2 q2
/- xs.append(e),list.index on a module's tuple .. are MtR facts of 06m -/
end
def MtM (X : Cx) (id : String) (r : V→List V→Hp→VK→Prop) : Prop :=
  ∀ (pins : List (Addr × Obj)) (s : Shared) (σ : St) (H : Hp) (x : V) (xs : List V) (v : Value) (us : List Value) (Q : VK),Inv X pins σ H s→RelV x v→Vals xs us→r x xs H Q →
    wpAny (model X.prog X.w) X.A (call (.builtin id) (v :: us)) (EP X pins σ Q) X.xe s
theorem Vals.one {x : V} {us : List Value} (h : Vals [x] us) : ∃ u,us = [u]∧RelV x u:=by
  cases h with
  | cons r e=>cases e; exact ⟨_,rfl,r⟩
theorem Vals.two {x y : V} {us : List Value} (h : Vals [x,y] us) : ∃ u v,us = [u,v]∧RelV x u∧RelV y v:=by
  cases h with
  | cons r e =>
    obtain ⟨v,e1,q⟩:=Vals.one e
    subst e1
    exact ⟨_,_,rfl,r,q⟩
theorem Vals.zero : ∀ {us : List Value},Vals [] us→us = []
  | _,.nil=>rfl
theorem Vals.dropLast {xs : List V} {us : List Value} (h : Vals xs us) : Vals xs.dropLast us.dropLast:=by
  induction h with
  | nil=>exact .nil
  | cons r t ih =>
    cases t with
    | nil=>exact .nil
    | cons q t'=>exact .cons r ih
theorem Vals.rep {xs : List V} {us : List Value} (h : Vals xs us) : ∀ k : Nat,Vals (List.replicate k xs).flatten (List.replicate k us).flatten
  | 0=>.nil
  | k + 1=>by
    rw [List.replicate_succ,List.replicate_succ,List.flatten_cons,List.flatten_cons]
    exact Vals.append h (Vals.rep h k)
theorem lu {α : Type} (l : List α) : l.eraseIdx (l.length - 1) = l.dropLast:=by
  induction l with
  | nil=>rfl
  | cons a r ih =>
    cases r with
    | nil=>rfl
    | cons b r =>
      have e : (a :: b :: r).length - 1 = ((b :: r).length - 1) + 1:=by
        have h1 : (a :: b :: r).length = r.length + 2:=rfl
        have h2 : (b :: r).length = r.length + 1:=rfl
        omega
      rw [e,List.eraseIdx_cons_succ,ih]
      all_goals rfl
theorem jp (its : List Value) : ∀ (k : Nat) (acc : List Value),
    List.foldl (fun x1 x2=>x1 ++ x2) acc.toArray (List.replicate k its.toArray) = (acc ++ (List.replicate k its).flatten).toArray
  | 0,acc=>by simp
  | k + 1,acc=>by
    have e : acc.toArray ++ its.toArray = (acc ++ its).toArray:=by simp
    have e2 : (acc ++ its) ++ (List.replicate k its).flatten = acc ++ (List.replicate (k + 1) its).flatten:=by
      rw [List.replicate_succ,List.flatten_cons,List.append_assoc]
    rw [← e2,← jp its k (acc ++ its),← e,List.replicate_succ,List.foldl_cons]
section
variable {X : Cx} {pins : List (Addr × Obj)} {σ : St} {H : Hp} {s : Shared} {l b : Addr} {xs ys zs : List V}
theorem Inv.lset {its its' : List Value} {n : Nat} {f : Array Value→Array Value} {t' : Nat} (I : Inv X pins σ H s) (hH : H l = some (.lst xs))
    (e : s.heap.get? l = some { cls:=.type "list",data:=.seq its.toArray n }) (hf : f its.toArray = its'.toArray) (hv : Vals ys its') (hz : ys.length ≤ sizeLine) :
    Inv X pins σ (upd H l (.lst ys)) { s with heap:=s.heap.update l (Obj.mapSeq f),toks:=t' }:=by
  have q:=PySem.IsL.update e f
  rw [hf] at q
  refine I.write (x:=l) (e:=l) (by rw [hH]; exact trivial) (.inl rfl) (fun b' u hb hu=>(Heap.get?_update_other s.heap (Obj.mapSeq f) (Ne.symm hb)).trans hu) ⟨_,q⟩ ?_
  exact ⟨hz,its',_,hv,q⟩
theorem Inv.lnew {its : List Value} {t' : Nat} (I : Inv X pins σ H s) (hv : Vals ys its) (hz : ys.length ≤ sizeLine) :
    Inv X pins σ (upd H s.heap.objs.size (.lst ys)) { s with heap:=s.heap.push { cls:=.type "list",data:=.seq its.toArray },toks:=t' } :=
  I.laid (fun _ _ q=>Heap.get?_push_of_some _ q) (Nat.le_refl _) ⟨hz,its,0,hv,Heap.get?_push_size _ rfl⟩
theorem Inv.fresh (I : Inv X pins σ H s) : H s.heap.objs.size = none:=I.hok.fresh (Nat.le_refl _)
theorem Inv.lstM (I : Inv X pins σ H s) (hH : H l = some (.lst xs)) : xs.length ≤ sizeLine∧∃ (its : List Value) (n : Nat),Vals xs its∧xs.length = its.length∧s.heap.get? l = some { cls:=.type "list",data:=.seq its.toArray n }:=by
  obtain ⟨z,its,n,r,e⟩:=I.hok l _ hH
  exact ⟨z,its,n,r,r.length,e⟩
theorem qf {n : Nat} (h : n ≤ sizeLine) : Builtin.List.listTooLong n = false:=by
  unfold Builtin.List.listTooLong
  exact decide_eq_false (by omega)
end
section
variable {X : Cx}
def sG : V→List V→Hp→VK→Prop:=fun x vs H Q=>∃ l xs y,x = .ref l∧vs = [y]∧H l = some (.lst xs)∧xs.length < sizeLine∧Q .non (upd H l (.lst (xs ++ [y])))
theorem aU : MtM X "list.append" sG:=by
  intro pins s σ H x vs v us Q I rx rv h
  obtain ⟨l,xs,y,rfl,rfl,hH,hz,q⟩:=h
  cases rx
  obtain ⟨u,rfl,ru⟩:=rv.one
  obtain ⟨z,its,n,r,hl,e⟩:=I.lstM hH
  refine call_meets F.slot_list_append ⟨_,e,rfl⟩ F.entry_list_append (F.args_list_append_2 _ _) (PySem.list_append l its.toArray n u (by rw [List.size_toArray]; omega)) ⟨e,?_⟩
  refine ⟨.non,_,I.lset (its':=its ++ [u]) hH e (by simp) (r.append (.cons ru .nil)) ?_,rfl,q⟩
  rw [List.length_append,List.length_singleton]
  omega
def vH : V→List V→Hp→VK→Prop:=fun x vs H Q=>∃ l xs y,x = .ref l∧vs = []∧H l = some (.lst xs)∧xs[xs.length - 1]? = some y∧Q y (upd H l (.lst xs.dropLast))
theorem tN : MtM X "list.pop" vH:=by
  intro pins s σ H x vs v us Q I rx rv h
  obtain ⟨l,xs,y,rfl,rfl,hH,hy,q⟩:=h
  cases rx
  have hus:=rv.zero
  subst hus
  obtain ⟨z,its,n,r,hl,e⟩:=I.lstM hH
  obtain ⟨u,hu,ru⟩:=r.get hy
  have hy' : its.toArray[its.toArray.size - 1]? = some u:=by
    show its.toArray[its.length - 1]? = some u
    rw [← Array.getElem?_toList,← hl]
    exact hu
  refine call_meets F.slot_list_pop ⟨_,e,rfl⟩ F.entry_list_pop (F.args_list_pop_1 _) (MeetsSeq.list_pop_last l its.toArray n u hy' (by rw [List.size_toArray]; omega)) ⟨e,?_⟩
  refine ⟨y,_,I.lset (its':=its.dropLast) hH e ?_ r.dropLast ?_,ru,q⟩
  · show its.toArray.eraseIdxIfInBounds (its.toArray.size - 1) = its.dropLast.toArray
    rw [List.size_toArray,List.eraseIdxIfInBounds_toArray,lu]
  · rw [List.length_dropLast]
    omega
def tU : V→List V→Hp→VK→Prop:=fun x vs H Q=>∃ l xs,x = .ref l∧vs = []∧H l = some (.lst xs)∧Q .non (upd H l (.lst []))
theorem o8 : MtM X "list.clear" tU:=by
  intro pins s σ H x vs v us Q I rx rv h
  obtain ⟨l,xs,rfl,rfl,hH,q⟩:=h
  cases rx
  have hus:=rv.zero
  subst hus
  obtain ⟨z,its,n,r,hl,e⟩:=I.lstM hH
  refine call_meets F.slot_list_clear ⟨_,e,rfl⟩ F.entry_list_clear (F.args_list_clear_1 _) (AutoSeq1.list_clear_list_0 l its.toArray n (by rw [List.size_toArray]; omega)) ⟨e,?_⟩
  exact ⟨.non,_,I.lset (its':=[]) (ys:=[]) hH e rfl .nil (Nat.zero_le _),rfl,q⟩
def vD : R2:=fun x y H Q=>∃ l k xs,x = .ref l∧y = .int k∧H l = some (.lst xs)∧-(2 ^ 63) ≤ k∧k < 2 ^ 63∧xs.length * k.toNat ≤ sizeLine ∧
  ∀ p,H p = none→Q (.ref p) (upd H p (.lst (List.replicate k.toNat xs).flatten))
theorem rq {α : Type} (xs : List α) (k : Nat) : (List.replicate k xs).flatten.length = k * xs.length:=by
  induction k with
  | zero=>simp
  | succ k ih=>rw [List.replicate_succ,List.flatten_cons,List.length_append,ih,Nat.succ_mul,Nat.add_comm]
theorem uq : OpR X (binaryOp .Mult) vD:=by
  intro pins s σ H x y v u Q I rx ry h
  obtain ⟨l,k,xs,rfl,rfl,hH,h1,h2,hz,q⟩:=h
  cases rx
  obtain ⟨t,rfl⟩:=ry
  obtain ⟨z,its,n,r,hl,e⟩:=I.lstM hH
  have hlen : its.toArray.size * k.toNat ≤ sizeLine:=by rw [List.size_toArray,← hl]; exact hz
  have hcap : ¬ its.toArray.size * k.toNat > (2 ^ 63 - 1) / 8:=by
    have : (sizeLine : Nat) ≤ (2 ^ 63 - 1) / 8:=by decide
    omega
  have hfit : ¬ (!Builtin.List.listFitsIndex k) = true:=by
    rw [fitsIndex_both h1 h2]
    exact Bool.false_ne_true
  have hlong : ¬ Builtin.List.listTooLong (its.toArray.size * k.toNat) = true:=by
    rw [qf hlen]
    exact Bool.false_ne_true
  have hnew : List.foldl (fun x1 x2=>x1 ++ x2) #[] (List.replicate (if its.toArray.isEmpty = true then 0 else k.toNat) its.toArray) = (List.replicate k.toNat its).flatten.toArray:=by
    have f0 : ∀ m : Nat,List.foldl (fun x1 x2=>x1 ++ x2) #[] (List.replicate m its.toArray) = (List.replicate m its).flatten.toArray:=fun m=>by
      have:=jp its m []
      rw [List.nil_append] at this
      exact this
    rw [f0]
    cases its with
    | nil=>simp
    | cons a r'=>rw [if_neg (by simp)]
  refine wpAny_binaryOp_repeat_ref (T := "list") (U := "int") (by decide) ⟨_,e,rfl⟩ (fun s'=>typeIs_int s' k t) noFill_list_mul F.fills_int_mul F.slot_int_rmul repeat_list F.slot_int_index.lookup
    (call_meets F.slot_int_rmul (typeIs_int s k t) F.entry_int_rmul (F.args_int_rmul_2 _ _) (int___rmul___int_list k t l its.toArray n)
      ⟨e,rfl,⟨_,e,rfl⟩,call_meets F.slot_list_mul ⟨_,e,rfl⟩ F.entry_list_mul (F.args_list_mul_2 _ _) (AutoListH.list___mul___list_int_3 l its.toArray n k t hfit hcap hlong) ⟨e,?_⟩⟩)
  rw [hnew]
  exact ⟨.ref _,_,I.lnew (t':=s.toks) (r.rep k.toNat) (by rw [rq,Nat.mul_comm]; exact hz),rfl,q _ I.fresh⟩
end
section
variable {prog : Program} {w : World} {A : Around} {E : Value→Shared→Prop} {s : Shared}
set_option maxRecDepth 100000 in
end
section
variable {X : Cx}
end
section
variable {κ : Type} [DecidableEq κ]
def gx (kvs : List (κ × V)) (k : κ) : Option V:=(kvs.find? fun kv=>decide (kv.1 = k)).map (·.2)
def iE (kvs : List (κ × V)) (k : κ) (v : V) : List (κ × V) :=
  if (kvs.any fun kv=>decide (kv.1 = k)) = true then kvs.map (fun kv=>if kv.1 = k then (kv.1,v) else kv) else kvs ++ [(k,v)]
theorem kB {p : κ × V} {r : List (κ × V)} {k : κ} (e : p.1 = k) : gx (p :: r) k = some p.2:=by simp [gx,List.find?_cons,e]
theorem kj {p : κ × V} {r : List (κ × V)} {k : κ} (e : ¬ p.1 = k) : gx (p :: r) k = gx r k:=by simp [gx,List.find?_cons,e]
theorem kJ (kvs : List (κ × V)) (k : κ) (v : V) : (iE kvs k v).length ≤ kvs.length + 1:=by
  unfold iE
  split
  · rw [List.length_map]; omega
  · rw [List.length_append,List.length_cons,List.length_nil]; omega
theorem KV.val {kvs : List (κ × V)} {vs : List (κ × Value)} (r : KV kvs vs) (k : κ) : RelO (gx kvs k) (valueAt vs k):=by
  unfold KV at r
  induction r with
  | nil=>exact True.intro
  | @cons p q ps qs h t ih =>
    obtain ⟨h1,h2⟩:=h
    by_cases e : p.1 = k
    · have e' : q.1 = k:=h1.symm.trans e
      have b : valueAt (q :: qs) k = some q.2:=by simp [valueAt,List.find?_cons,e']
      rw [kB e,b]; exact h2
    · have e' : ¬ q.1 = k:=fun z=>e (h1.trans z)
      have b : valueAt (q :: qs) k = valueAt qs k:=by simp [valueAt,List.find?_cons,e']
      rw [kj e,b]; exact ih
theorem KV.any {kvs : List (κ × V)} {vs : List (κ × Value)} (r : KV kvs vs) (k : κ) : (kvs.any fun kv=>decide (kv.1 = k)) = vs.any fun kv=>decide (kv.1 = k):=by
  unfold KV at r
  induction r with
  | nil=>rfl
  | cons h t ih=>rw [List.any_cons,List.any_cons,ih,h.1]
theorem KV.repl {kvs : List (κ × V)} {vs : List (κ × Value)} (r : KV kvs vs) (k : κ) {y : V} {u : Value} (ry : RelV y u) :
    KV (kvs.map fun kv=>if kv.1 = k then (kv.1,y) else kv) (vs.map fun kv=>if kv.1 = k then (kv.1,u) else kv):=by
  unfold KV at r ⊢
  induction r with
  | nil=>exact .nil
  | @cons p q ps qs h t ih =>
    rw [List.map_cons,List.map_cons]
    refine .cons ?_ ih
    obtain ⟨h1,h2⟩:=h
    by_cases e : p.1 = k
    · rw [if_pos e,if_pos (h1.symm.trans e)]; exact ⟨h1,ry⟩
    · rw [if_neg e,if_neg (fun z=>e (h1.trans z))]; exact ⟨h1,h2⟩
theorem KV.put {kvs : List (κ × V)} {vs : List (κ × Value)} (r : KV kvs vs) (k : κ) {y : V} {u : Value} (ry : RelV y u) : KV (iE kvs k y) (stored vs k u):=by
  unfold iE stored
  rw [r.any k]
  by_cases e : (vs.any fun kv=>decide (kv.1 = k)) = true
  · rw [if_pos e,if_pos e]; exact r.repl k ry
  · rw [if_neg e,if_neg e]; exact Paired.snoc r ⟨rfl,ry⟩
theorem KV.length {kvs : List (κ × V)} {vs : List (κ × Value)} (r : KV kvs vs) : kvs.length = vs.length:=Paired.length r
end
theorem pZ {P : Program} {w : World} {k : Key} {u : Value} (r : RelV (kV k) u) : (bh P w).is k u = true:=by
  cases k with
  | inl i=>obtain ⟨t,e⟩:=(show ∃ t,u = Value.int i t from r); subst e; exact kd P w i t
  | inr x=>obtain ⟨t,e⟩:=(show ∃ t,u = Value.str x t from r); subst e; exact lj P w x t
theorem iY {P : Program} {w : World} : ∀ {ks : List Key} {us : List Value},Vals (ks.map kV) us→ItemsAre (bh P w) ks us
  | [],_,r=>by rw [List.map_nil] at r; cases r; exact .nil
  | k :: ks,_,r=>by
    rw [List.map_cons] at r
    cases r with
    | cons h t=>exact .cons (pZ h) (iY t)
abbrev KT (H : Hp) : List (List Key × V)→List (List Key × Addr × Value)→Prop:=Paired fun p q=>p.1 = q.1∧H q.2.1 = some (.tup (p.1.map kV))∧RelV p.2 q.2.2
theorem KT.val {H : Hp} {kvs : List (List Key × V)} {xs : List (List Key × Addr × Value)} (r : KT H kvs xs) (k : List Key) : RelO (gx kvs k) ((atKey xs k).map (·.2)):=by
  induction r with
  | nil=>exact True.intro
  | @cons p q ps qs h t ih =>
    obtain ⟨h1,_,h2⟩:=h
    by_cases e : p.1 = k
    · have e' : q.1 = k:=h1.symm.trans e
      have b : atKey (q :: qs) k = some q.2:=by simp [atKey,List.find?_cons,e']
      rw [kB e,b]; exact h2
    · have e' : ¬ q.1 = k:=fun z=>e (h1.trans z)
      have b : atKey (q :: qs) k = atKey qs k:=by simp [atKey,List.find?_cons,e']
      rw [kj e,b]; exact ih
section
variable {P : Program} {w : World} {H : Hp} {h : Heap} {a : Addr}
theorem sR {u : HO} (ok : HOk P w H h) (e : Rd H a u) : ObjOk P w H h a u:=e.ok ok
theorem sX {kvs : List (Key × V)} (ok : HOk P w H h) (e : Rd H a (.dK kvs)) : kvs.length ≤ sizeLine∧(a == sysModules) = false∧∃ vs,KV kvs vs∧h.DictOf (bh P w) a vs :=
  show ObjOk P w H h a (.dK kvs) from sR ok e
theorem oW {ks : List Key} (ok : HOk P w H h) (e : H a = some (.tup (ks.map kV))) : (tupleKind (bh P w)).is h ks a:=by
  obtain ⟨_,its,r,o,h1,h2,n,h3⟩:=(show ObjOk P w H h a (.tup (ks.map kV)) from ok a _ e)
  exact ⟨o,its.toArray,n,h1,h2,h3,by simpa using iY r⟩
theorem sZ {kvs : List (List Key × V)} (ok : HOk P w H h) (e : Rd H a (.dT kvs)) : kvs.length ≤ sizeLine∧(a == sysModules) = false ∧
    ∃ xs,KT H kvs xs∧h.DictOfH (tupleKind (bh P w)) a xs:=by
  obtain ⟨z,y,xs,r,o,es,ep,h1,h2,h3,h4,h5⟩:=(show ObjOk P w H h a (.dT kvs) from sR ok e)
  refine ⟨z,y,xs,r,o,es,ep,h1,h2,h3,h4,fun x hx=>?_,h5⟩
  have all : ∀ {l : List (List Key × V)} {m : List (List Key × Addr × Value)},KT H l m→∀ x ∈ m,(tupleKind (bh P w)).is h x.1 x.2.1:=by
    intro l m q
    induction q with
    | nil=>intro x hx; exact nomatch hx
    | @cons p q ps qs hq t ih =>
      intro x hx
      rcases List.mem_cons.mp hx with e | hx
      · subst e
        exact oW ok (by rw [← hq.1]; exact hq.2.1)
      · exact ih x hx
  exact all r x hx
end
def DGet (H : Hp) (a : Addr) (y : V) (r : Option V) : Prop :=
  (∃ kvs k,Rd H a (.dK kvs)∧y = kV k∧r = gx kvs k) ∨ ∃ kvs k b,Rd H a (.dT kvs)∧y = .ref b∧H b = some (.tup (k.map kV))∧r = gx kvs k
theorem DGet.k {H : Hp} {a : Addr} {kvs : List (Key × V)} {k : Key} (e : H a = some (.dK kvs)) : DGet H a (kV k) (gx kvs k):=.inl ⟨kvs,k,.inl e,rfl,rfl⟩
section
variable {X : Cx} {pins : List (Addr × Obj)} {σ : St} {H : Hp} {s : Shared} {a : Addr} {y v : V} {u r : Value} {o : Option V} {A : Around} {E : Value→Shared→Prop}
theorem Inv.big (I : Inv X pins σ H s) : sysModules < s.heap.objs.size:=by
  have h : mainGlobals < s.heap.objs.size:=(I.mod.glob.keeps I.bk).lt
  exact Nat.lt_trans (by decide) h
theorem nA {Q : Value→Shared→Prop} (hu : A.units + 1 < cLine) (I : Inv X pins σ H s) (g : DGet H a y (some v)) (ry : RelV y u) (h : ∀ w' s',Inv X pins σ H s'→RelV v w'→Q w' s') :
    wpAny (model X.prog X.w) A (getItem (.ref a) u) Q E s:=by
  rcases g with ⟨kvs,k,e,ey,l⟩ | ⟨kvs,k,b,e,ey,eb,l⟩
  · subst ey
    obtain ⟨z,hd,vs,rel,dd⟩:=sX I.hok e
    obtain ⟨w',hw,rw'⟩:=RelO.some_of (v:=v) (o:=valueAt vs k) (by rw [l]; exact rel.val k)
    exact wpAny_getItem_of (pZ ry) dd.mapOf hw (h w' _ (I.tok _) rw')
  · subst ey
    cases (show u = Value.ref b from ry)
    obtain ⟨z,hd,xs,rel,dd⟩:=sZ I.hok e
    obtain ⟨w',hw,rw'⟩:=RelO.some_of (v:=v) (o:=(atKey xs k).map (·.2)) (by rw [l]; exact rel.val k)
    obtain ⟨p,hp,hp2⟩:=Option.map_eq_some_iff.mp hw
    refine wpAny_getItem_heap (tupleKind_room_in1 hu) (oW I.hok eb) dd hp ?_
    rw [hp2]
    exact h w' _ (I.tok _) rw'
theorem ur {P : Program} {w : World} {H' : Hp} {h' : Heap} {kvs : List (Key × V)} {vs : List (Key × Value)} (z : kvs.length ≤ sizeLine) (hd : (a == sysModules) = false) (rel : KV kvs vs) (dd : h'.DictOf (bh P w) a vs) :
    ObjOk P w H' h' a (.dK kvs):=⟨z,hd,vs,rel,dd⟩
end
section
variable {X : Cx} {pins : List (Addr × Obj)} {σ : St} {H : Hp} {s : Shared} {a : Addr} {kvs : List (Key × V)} {k : Key} {u : Value} {A : Around} {E : Value→Shared→Prop}
end
def uJ (i : Expr) : Prop:=∀ ov iv,subscripted i false ov iv = operate [ov,iv] (getItem ov iv)
theorem rG {prog : Program} {w : World} {A : Around} {E : Value→Shared→Prop} {s : Shared} {env : Env} {value slice : Expr} {pos : Pos} {T id : String} {Q : Value→Shared→Prop}
    (hl : typeLookup (.type T) "__getitem__" = pure (some (.builtin id))) (hs : uJ slice)
    (h : wpAny (model prog w) A (eval value env) (fun o s₁=>wpAny (model prog w) A (eval slice env) (fun i s₂=>s₂.TypeIs o T∧wpAny (model prog w) A (getItem o i) Q E s₂) E s₁) E s) :
    wpAny (model prog w) A (eval (.Subscript value slice pos) env) Q E s:=by
  refine Subscript_ (wpAny_mono h (fun o s₁ h₁=>wpAny_mono h₁ (fun i s₂ h₂=>?_) fun _ _ x=>x) fun _ _ x=>x)
  obtain ⟨hT,h₂⟩:=h₂
  unfold subscriptTail
  refine wpAny_bind ?_
  rw [getitemInPython_of_ne hT.not_modules]
  refine wpAny_bind (wpAny_specialOf hT hl ?_)
  have fin : wpAny (model prog w) A (subscripted slice false o i) (fun r s₃=>wpAny (model prog w) A (letTemporaryGo value o r >>= fun _=>pure r) Q E s₃) E s₂:=by
    rw [hs o i]
    exact wpAny_operating (wpAny_mono h₂ (fun r s₃ h₃=>wpAny_bind (wpAny_letTemporaryGo (wpAny_pure h₃))) fun _ _ x=>x)
  first
    | exact wpAny_pure (wpAny_bind fin)
    | exact wpAny_bind (wpAny_pure (wpAny_bind fin))
    | exact wpAny_bind fin
theorem kI {X : Cx} {pins : List (Addr × Obj)} {σ : St} {H : Hp} {s : Shared} {a : Addr} {y : V} {o : Option V} (I : Inv X pins σ H s) (g : DGet H a y o) : s.TypeIs (.ref a) "dict":=by
  rcases g with ⟨kvs,k,e,_,_⟩ | ⟨kvs,k,b,e,_,_,_⟩
  · obtain ⟨_,_,vs,_,dd⟩:=sX I.hok e
    exact dd.typeIs
  · obtain ⟨_,_,xs,_,dd⟩:=sZ I.hok e
    exact dd.typeIs
def vo (td ty : TE) : TE:=fun σ H Q=>td σ H fun x H1=>ty σ H1 fun y H2=>∃ a v,x = .ref a∧DGet H2 a y (some v)∧Q v H2
section
variable {X : Cx} {o i e value : Expr} {pos pos' tpos : Pos} {td ty tv : TE}
theorem m4 (hu : X.A.units + 1 < cLine) (ho : PE X o td) (hi : PE X i ty) (hs : uJ i) : PE X (.Subscript o i pos) (vo td ty):=by
  intro pins s σ H Q I h
  refine rG PySem.F.slot_dict_getitem.lookup hs (thn (ho pins s σ H _ I h) fun u s1 hm0=>?_)
  obtain ⟨x,H1,I1,rx,q1⟩:=hm0
  refine thn (hi pins s1 σ H1 _ I1 q1) fun iv s2 hm1=>?_
  obtain ⟨y,H2,I2,ry,a,v,ex,g,q2⟩:=hm1
  subst ex
  obtain rfl : u = Value.ref a:=rx
  exact ⟨kI I2 g,nA hu I2 g ry fun w' s3 I3 rw'=>⟨v,H2,I3,rw',q2⟩⟩
end
section
variable {X : Cx} {pos : Pos}
end
section
variable {X : Cx} {pins : List (Addr × Obj)} {σ : St} {H : Hp} {s : Shared} {a : Addr} {y d : V} {u r : Value} {o : Option V} {A : Around} {E : Value→Shared→Prop}
end
section
variable {X : Cx} {o e f : Expr} {apos cpos : Pos} {td ty tx : TE}
end
section
variable {X : Cx} {pins : List (Addr × Obj)} {σ : St} {H : Hp} {s : Shared} {a : Addr} {kvs : List (Key × V)} {A : Around} {E : Value→Shared→Prop}
end
section
variable {X : Cx} {pins : List (Addr × Obj)} {σ : St} {H : Hp} {s : Shared} {a : Addr} {y : V} {u : Value} {A : Around} {E : Value→Shared→Prop}
end
end L2
namespace Att
open PySem PySem.W PySem.Calls PyProof.Rows
theorem gr {P : Params} {h : Heap} : ∀ (ns : List Int) (vs : List Value),WellAll P h vs (ns.map WData.int)→IntsAre vs ns:=by
  intro ns
  induction ns with
  | nil =>
    intro vs w
    rw [List.map_nil] at w
    cases w
    exact .nil
  | cons n ns ih =>
    intro vs w
    rw [List.map_cons] at w
    cases w with
    | cons a b =>
      cases a
      exact .cons _ _ (ih _ b)
theorem nH {l : OpenLaw} {n : Nat} (hn : l.most = some n) {P : Params} {h : Heap} {args : List WData} {vals : List Value}
    (hpre : l.row.toRowW.claim.pre args = true) (hwl : WellAll P h vals args) :
    ∃ a vs ns,vals = [Value.ref a]∧args = [WData.list (ns.map WData.int)]∧h.get? a = some { cls:=.type "list",data:=.seq vs.toArray }∧IntsAre vs ns∧ns.length ≤ n:=by
  have hsh : WShape.hasAll [] args [.list .int] = true:=(pre_splitW hpre).1
  have hc : l.pre.holds [] { args:=args } = true:=(pre_splitW hpre).2
  obtain ⟨d,r,rfl,h1,h2⟩:=hasAllW_cons hsh
  obtain rfl:=hasAllW_nil h2
  obtain ⟨xs,rfl,h3⟩:=hasW_list h1
  obtain ⟨ns,rfl⟩:=items_int h3
  have hlen : ns.length ≤ n:=by
    unfold OpenLaw.pre at hc
    have h4 : (WTm.not (.lt (.lit (.int (n : Int))) (.len (.arg 0)))).holds [] { args:=[.list (ns.map .int)] } = true:=by
      have h4:=(holds_andW hc).1
      rw [hn] at h4
      exact h4
    have h5:=condW_of h4 (w_not (w_lt w_lit (w_len_list (w_arg rfl))))
    rw [List.length_map] at h5
    refine Nat.le_of_not_lt fun q=>?_
    have q' : (n : Int) < ((ns.length : Nat) : Int):=by omega
    first
      | (rw [decide_eq_true q'] at h5; exact absurd h5 (by decide))
      | (simp at h5; omega)
  cases hwl with
  | cons w1 w2 =>
    cases w2
    cases w1 with
    | list ho hall=>exact ⟨_,_,ns,rfl,rfl,ho,gr ns _ hall,hlen⟩
theorem nN (l : OpenLaw) (args : List WData) : l.row.toRowW.claim.post args (.bool true) args = true :=
  postW_of (r:=l.row.toRowW) (X:=(true == true))
    (show WShape.has [] (.bool true) .bool = true by first | rfl | decide | simp [WShape.has,WShape.arms,WShape.armsAll])
    (show (WTm.eq .res (.lit (.bool true))).value [] { args:=args,res:=some (.bool true),after:=args } = some (.bool (true == true)) from w_eq_bool (w_res rfl) w_lit) rfl
theorem attach_call {l : OpenLaw} {n : Nat} {q : Program} {loose : List Str} {XP : (Str→Option Value)→Heap→Prop} {YP : World→Heap→Prop} {d : DefRec}
    (hn : l.most = some n) (hdf : d.params.defaults = [])
    (call : ∀ (w : World) (s₀ s₁ : Shared) (mg mb : Str→Option Value) (fa : Addr) (o : Obj) (pm cd doc : Value) (a : Addr) (vs : List Value) (ns : List Int),
      Ground q loose [] XP w s₀ mg mb s₁.heap→YP w s₁.heap →
      s₁.heap.get? fa = some o→o.data = .func (docDef d.name d.params d.body d.scope pm cd doc)→s₁.heap.CodeRec cd d.name→mg d.name = some (.ref fa) →
      s₁.heap.get? a = some { cls:=.type "list",data:=.seq vs.toArray }→IntsAre vs ns→ns.length ≤ n→s₁.gens = #[] →
      codeAny (model l.prog w) callerA (.call (.ref fa) ⟨[.ref a],[]⟩) (fun r s'=>r = .ok (.ret (.bool true))∧OldK s₁.heap s'.heap∧s'.os = s₁.os∧AllBare s'.gens) s₁) :
    WalkO q loose XP YP l.row.toRowW d [] (fun f vs=>PySem.call f vs):=by
  intro w s₀ s₁ mg mb G Y fa o pm cd doc dV kV ho hd hcd hD hmg hg args vals as hpre hlay hrd hwl hlo
  obtain rfl : dV = .none:=Dflts.none hD hdf
  obtain rfl : kV = .none:=Dflts.noKw hD
  obtain ⟨a,vs,ns,rfl,rfl,hobj,hints,hlen⟩:=nH hn hpre hwl
  refine enter_call (codeAny_mono (call w s₀ s₁ mg mb fa o pm cd doc a vs ns G Y ho (fd_plain hd) hcd hmg hobj hints hlen hg) fun r s' hq=>?_)
  obtain ⟨rfl,h2,h3,h4⟩:=hq
  exact ⟨.inl ⟨.bool true,.bool true,[],rfl,fun _=>rfl,.bool true,nN l _,fun _=>⟨List.Pairwise.nil,fun _ hm=>(nomatch hm)⟩⟩,h2,h3,h4⟩
section
variable {prog : Program} {w : World} {A : Around} {E : Value→Shared→Prop} {s : Shared} {K : Frag}
end
end Att
namespace L2
open PySem PySem.Spec PyProof.Rows
theorem jb : ∀ {vs : List Value} {ns : List Int},IntsAre vs ns→Vals (ns.map V.int) vs
  | _,_,.nil=>.nil
  | _,_,.cons n t h=>.cons ⟨t,rfl⟩ (jb h)
end L2
/- THE LAST THEOREM (shape; LID,My.* are yours):
   My.Adr: a structure of the addresses that your layer names (classes,functions); My.Txt K t: a structure (Prop) of the equations over K;
   My.txt_mk : {K} {implicit addresses ..} (e1 : nsIn K mainGlobals "law" = some (some (.ref f))) (e2 : K.lookup f = some ⟨oc,od,.func (fnOf "law" "law" params body scope dV kV doc pm an cdv ct),sl⟩) (e3 : codeIn K cdv "law" = true) .. : ∃ t,My.Txt K t
set_option maxRecDepth 100000 in
set_option maxHeartbeats 0 in
theorem PySem.Challenge.cw_LID_holds : PySem.Challenge.rw_LID.Holds := by
  w_on; o_law; k_head; (case hw=>w_witness2)
  k_fill
  refine L2.walk_of (l:=PySem.Challenge.rw_LID) (n:=63) (k:=40) (x := "script") (CX:=fun w=>..) (sp:=fun _=>My.sp_law) rfl (by decide) rfl ⟨rfl,by decide,by decide⟩ (fun w h Y=>PySem.W.kIn_of Y) ?F ?S ?C
  case F =>
    intro w mg fa h KX G hmg
    have T : ∃ t,My.Txt (L2.KOf KX) t:=by
      dsimp only [L2.KOf]                          -- K must stand as «<heap const> w.params» for k_is
      refine' My.txt_mk ?e1 ?e2 ?e3 ..
      (case e1=>PySem.W.k_is)                    -- in the order: a name -> its address -> its object -> its parts
      (case e2=>PySem.W.k_is)
      ..
    obtain ⟨t,T⟩:=T
    have e0:=hmg.symm.trans (PySem.W.mg_of KX G T.law)
    cases e0                                       -- fa is the law's own address
    exact ⟨_,fun s u=>.of_eq rfl,fun base kb nb=>My.law_fn T kb nb⟩     -- if «.of_eq rfl» comes too early: refine' ⟨_,?b,fun base kb nb=>My.law_fn T kb nb⟩; exact fun s u=>.of_eq rfl
  case S=>exact fun w H a ns hl hO hS=>..
  case C=>exact ..
(the tactic k_is has no namespace: write k_is) -/
namespace L2
open PySem PySem.Spec PyProof.Rows
def cP (s : Stmt) : Arguments:=match s with
  | .FunctionDef _ a _ _ _ _ _ _ _ _=>a
  | _=>{ posonlyargs:=[],args:=[],vararg:=none,kwonlyargs:=[],kw_defaults:=[],kwarg:=none,defaults:=[] }
def bu (s : Stmt) : List Stmt:=match s with
  | .FunctionDef _ _ b _ _ _ _ _ _ _=>b
  | _=>[]
def ai (s : Stmt) : Scope:=match s with
  | .FunctionDef _ _ _ _ _ _ sc _ _ _=>sc
  | _=>{ kind:=.function,names:=[],isGenerator:=false,isCoroutine:=false }
abbrev CX0 : CXT:=fun _ _ _ _ _ _=>False
abbrev E0 : XK:=fun _ _ _=>False
theorem u9 {X : Cx} : dw CX0 X E0:=fun _ _ _ _ _ _ _ h=>h.elim
structure Fun (K : PySem.W.Frag) (x qual : Str) (st : Stmt) (f : Addr) (fd : FuncData) : Prop where
  ex : ∃ (oc : Value) (od : Option Addr) (kV doc pm : Value) (an : Option Addr) (cdv ct : Value) (osl : Array (Option Value)),
    fd = PySem.W.fnOf x qual (cP st) (bu st) (ai st) .none kV doc pm an cdv ct∧K.lookup f = some ⟨oc,od,.func fd,osl⟩∧PySem.W.codeIn K cdv qual = true
  kp : PySem.W.keepIn K (.ref f) = true
section
variable {P : Program} {w : World} {K : PySem.W.Frag} {mg : Str→Option Value} {base : Heap}
theorem Fun.ok {x qual : Str} {st : Stmt} {f : Addr} {fd : FuncData} {N ps : List Str} {k : Nat} {sp : Sp} (F : Fun K x qual st f fd) (S : FnScope N ps (ai st)) (len : ∀ vs H Q E,sp vs H Q E→vs.length = ps.length)
    (hbody : ∀ (cdv : Value) (A : Around) (outer : List Env) (s : Shared) (H : Hp) (vs : List V) (Q : VK) (E : XK),Room k (A.deeper (envOfC qual (ai st) s.heap.objs.size f cdv))→sp vs H Q E →
      ∃ t,PSs (fN CX0 P w K mg base N qual (ai st) f cdv A outer s H E).nox (bu st) t∧t { nx:=fun _ H'=>Q .non H',rt:=Q } (start N vs) H) : FnOk P w K mg base CX0 (k + 1) f fd ps sp:=by
  obtain ⟨oc,od,kV,doc,pm,an,cdv,ct,osl,rfl,lk,hcd⟩:=F.ex
  refine ow lk hcd S len fun A outer s H vs Q E hr hsp=>?_
  obtain ⟨t,h,q⟩:=hbody cdv A outer s H vs Q E hr hsp
  exact ⟨t,h.nox,q⟩
theorem Fun.binds {x qual : Str} {st : Stmt} {f : Addr} {fd : FuncData} {ps : List Str} (F : Fun K x qual st f fd)
    (h : ∀ (kV doc pm : Value) (an : Option Addr) (cdv ct : Value) (us : List Value),us.length = ps.length→bindArgs (PySem.W.fnOf x qual (cP st) (bu st) (ai st) .none kV doc pm an cdv ct) ⟨us,[]⟩ = pure (ps.zip us)) : Binds K fd ps []:=by
  obtain ⟨oc,od,kV,doc,pm,an,cdv,ct,osl,rfl,lk,hcd⟩:=F.ex
  exact .all (h kV doc pm an cdv ct)
theorem pR {x qual : Str} {st : Stmt} {f : Addr} {oc : Value} {od an : Option Addr} {osl : Array (Option Value)} {kV doc pm cdv ct : Value} (l : K.lookup f = some ⟨oc,od,.func (PySem.W.fnOf x qual (cP st) (bu st) (ai st) .none kV doc pm an cdv ct),osl⟩)
    (c : PySem.W.codeIn K cdv qual = true) (k : PySem.W.keepIn K (.ref f) = true) : Fun K x qual st f (PySem.W.fnOf x qual (cP st) (bu st) (ai st) .none kV doc pm an cdv ct):=⟨⟨oc,od,kV,doc,pm,an,cdv,ct,osl,rfl,l,c⟩,k⟩
end
section
variable {X : Cx}
theorem pv (i : Nat) {x : Str} {pos : Pos} (hN : X.N[i]? = some x:=by rfl) (hv : Vis X.env.scope x:=by first | exact Or.inl rfl | exact Or.inr (Or.inl rfl) | exact Or.inr (Or.inr rfl)) (hd : (x == ("__debug__" : Str)) = false:=by decide)
    (hcd : (x == ("__classdict__" : Str)) = false:=by decide) : PE X (.Name x pos) (vb i):=t5 hN hv hd hcd
end
theorem bp {A B : Prop} (h : B) : if false = true then A else B:=by
  rw [if_neg Bool.false_ne_true]
  exact h
theorem dy {A B : Prop} (h : A) : if true = true then A else B:=by
  rw [if_pos rfl]
  exact h
theorem bf {c A B : Prop} [Decidable c] (h1 : c→A) (h2 : ¬ c→B) : if c then A else B:=by
  by_cases h : c
  · rw [if_pos h]
    exact h1 h
  · rw [if_neg h]
    exact h2 h
def Same (H H' : Hp) : Prop:=∀ b o,H b = some o→H' b = some o
theorem Same.refl (H : Hp) : Same H H:=fun _ _ h=>h
theorem Same.trans {H H1 H2 : Hp} (a : Same H H1) (b : Same H1 H2) : Same H H2:=fun c o h=>b c o (a c o h)
theorem Same.free {H H' : Hp} (e : Same H H') {l : Addr} (h : H' l = Option.none) : H l = Option.none:=by
  cases q : H l with
  | none=>rfl
  | some o =>
    rw [e l o q] at h
    cases h
theorem Same.seq {K : PySem.W.Frag} {H H' : Hp} {a : Addr} {xs : List V} (e : Same H H') (h : SqL K H a xs) : SqL K H' a xs:=by
  rcases h with (h | ⟨o,h⟩) | h
  · exact .inl (.inl (e _ _ h))
  · exact .inl (.inr ⟨o,e _ _ h⟩)
  · exact .inr h
section
variable {κ : Type} [DecidableEq κ]
end
theorem gW {env : Env} : ∀ (names : List (Str × NameKind)) (cs : List (Str × Addr)),(∀ x ∈ names,x.2 = .free→∃ c,env.cells.lookup x.1 = some c)→(∀ x c,cs.lookup x = some c→env.cells.lookup x = some c) →
    ∃ cl : List (Str × Addr),(forIn names cs fun x r=>if (x.snd == NameKind.free) = true then (do let a ← cellOf env x.fst; pure (ForInStep.yield ((x.fst,a) :: r)) : Sem (ForInStep (List (Str × Addr)))) else pure (ForInStep.yield r)) = pure cl ∧
      (∀ x c,cl.lookup x = some c→env.cells.lookup x = some c)∧∀ x,((x,NameKind.free) ∈ names ∨ ∃ c,cs.lookup x = some c)→∃ c,cl.lookup x = some c
  | [],cs,_,h2=>⟨cs,rfl,h2,fun x hx=>hx.elim (fun z=>nomatch z) id⟩
  | (n, k) :: r,cs,h1,h2=>by
    rw [List.forIn_cons]
    by_cases hk : k = .free
    · subst hk
      obtain ⟨c,hc⟩:=h1 (n,.free) List.mem_cons_self rfl
      obtain ⟨cl,e,q1,q2⟩:=gW r ((n,c) :: cs) (fun x hx=>h1 x (List.mem_cons_of_mem _ hx)) (fun x d hd=>by
        rw [List.lookup_cons] at hd
        split at hd
        · rename_i hx
          cases hd
          have : x = n:=by simpa using hx
          subst this; exact hc
        · exact h2 x d hd)
      refine ⟨cl,?_,q1,fun x hx=>q2 x ?_⟩
      · simp only [beq_self_eq_true,if_true]
        rw [show cellOf env n = pure c by unfold cellOf; rw [hc]]
        simp only [pure_bind]
        exact e
      · rcases hx with hx | ⟨d,hd⟩
        · rcases List.mem_cons.mp hx with z | z
          · cases z
            exact .inr ⟨c,by rw [List.lookup_cons]; simp⟩
          · exact .inl z
        · refine .inr ?_
          rw [List.lookup_cons]
          split
          · exact ⟨_,rfl⟩
          · exact ⟨d,hd⟩
    · obtain ⟨cl,e,q1,q2⟩:=gW r cs (fun x hx=>h1 x (List.mem_cons_of_mem _ hx)) h2
      have hb : (k == NameKind.free) = false:=by simpa using hk
      refine ⟨cl,?_,q1,fun x hx=>q2 x ?_⟩
      · simp only [hb,Bool.false_eq_true,if_false,pure_bind]
        exact e
      · rcases hx with hx | hx
        · rcases List.mem_cons.mp hx with z | z
          · cases z; exact absurd rfl hk
          · exact .inl z
        · exact .inr hx
theorem fu {env : Env} {scope : Scope} (h : ∀ x ∈ scope.names,x.2 = .free→∃ c,env.cells.lookup x.1 = some c) :
    ∃ cl : List (Str × Addr),closureFor scope env = pure cl∧(∀ x c,cl.lookup x = some c→env.cells.lookup x = some c)∧∀ x,(x,NameKind.free) ∈ scope.names→∃ c,cl.lookup x = some c:=by
  obtain ⟨cl,e,q1,q2⟩:=gW scope.names [] h (fun x c z=>by simp at z)
  refine ⟨cl,?_,q1,fun x hx=>q2 x (.inl hx)⟩
  simp only [closureFor]
  rw [e]
  rfl
theorem i4 {prog : Program} {w : World} {A : Around} {R : Result→Shared→Prop} {s : Shared} {elt target iter : Expr} {ifs : List Expr} {scope : Scope} {pos : Pos} {it acc : Value} {env : Env} (I : Nat→Shared→Prop)
    (turn : ∀ n s,I n s→wpAny (model prog w) A (pyNext it) (fun r s₁=>match r with
      | none=>R (.ok .next) s₁
      | some v=>wpAny (model prog w) A (letOwnedTupleGo target it v) (fun _ s₁'=>wpAny (model prog w) A (assign target env v) (fun _ s₂ =>
          wpAny (model prog w) A (forIn ifs true fun c r=>if r = true then do let ok ← isTrue c env (eval c env); pure (ForInStep.yield ok) else pure (ForInStep.yield r)) (fun ok s₃ =>
            if ok = true then wpAny (model prog w) A (eval elt env) (fun x s₄ =>
              wpAny (model prog w) A (call (.builtin "list.append") [acc,x]) (fun _ s₅=>∃ m,m < n∧I m s₅) (fun _ _=>False) s₄) (fun _ _=>False) s₃
            else ∃ m,m < n∧I m s₃) (fun _ _=>False) s₂) (fun _ _=>False) s₁') (fun _ _=>False) s₁) (fun _ _=>False) s)
    (n : Nat) (h : I n s) :
    codeAny (model prog w) A (.compLoop (.ListComp elt [⟨target,iter,ifs,0⟩] scope pos) 0 it acc env) R s:=by
  refine codeAny_loop rfl I (fun n s hI=>?_) n h
  show wpAny _ A ((compTurn (.ListComp elt [⟨target,iter,ifs,0⟩] scope pos) 0 it acc env).onRaise (fun x=>do noteFrame x env; theTreesLotGoes x)) _ _ s
  refine wpAny_noted ?_
  rw [compTurn_list]
  refine wpAny_bind (wpAny_standAt (wpAny_bind (wpAny_mono (turn n s hI) (fun r s₁ h₁=>?_) fun _ _ h'=>h'.elim)))
  cases r with
  | none=>exact wpAny_pure h₁
  | some v =>
    refine wpAny_bind (wpAny_mono h₁ (fun _ s₁' h₁'=>?_) fun _ _ h'=>h'.elim)
    refine wpAny_bind (wpAny_mono h₁' (fun _ s₂ h₂=>wpAny_bind (wpAny_mono h₂ (fun ok s₃ h₃=>?_) fun _ _ h'=>h'.elim)) fun _ _ h'=>h'.elim)
    cases ok with
    | false=>exact wpAny_pure ⟨rfl,h₃⟩
    | true =>
      exact wpAny_bind (wpAny_bind (wpAny_mono h₃ (fun x s₄ h₄=>wpAny_bind (wpAny_mono h₄ (fun _ s₅ h₅=>wpAny_pure (wpAny_pure ⟨rfl,h₅⟩)) fun _ _ h'=>h'.elim)) fun _ _ h'=>h'.elim))
abbrev aG (X : Cx) (scope : Scope) (N : List Str) (cl : List (Str × Addr)) (C : Addr) (s : Shared) (H : Hp) (ex : List Addr) (pn : List (Addr × Obj)) : Cx where
  prog:=X.prog
  w:=X.w
  K:=X.K
  mg:=X.mg
  base:=X.base
  A:=X.A
  N:=N
  s₀:=s
  H₀:=H
  env:=compEnvC scope cl C X.env
  outer:=X.stack
  stack:=X.stack
  ex:=ex
  calm:=X.calm
  fn:=fun _=>false
  pn:=pn
  xe:=fun _ _=>False
def PTs (X : Cx) (ifs : List Expr) (t : TT) : Prop :=
  ∀ (pins : List (Addr × Obj)) (s : Shared) (σ : St) (H : Hp) (Q : Bool→Hp→Prop),Inv X pins σ H s→t σ H Q →
    wpAny (model X.prog X.w) X.A (forIn ifs true fun c r=>if r = true then do let ok ← isTrue c X.env (eval c X.env); pure (ForInStep.yield ok) else pure (ForInStep.yield r)) (TP X pins σ Q) X.xe s
def uy : TT:=fun _ H Q=>Q true H
theorem bE {X : Cx} : PTs X [] uy:=fun _ _ _ H _ I h=>wpAny_tests_nil ⟨H,I,h⟩
theorem rN {X : Cx} {c : Expr} {t : TT} (h : PT X c t) : PTs X [c] t:=fun pins s σ H Q I hq=>wpAny_tests_one (h pins s σ H Q I hq)
abbrev TTg:=V→Hp→(List V→Prop)→Prop
def PTg (X : Cx) (k : Nat) (tg : Expr) (tt : TTg) : Prop :=
  ∀ (pins : List (Addr × Obj)) (s : Shared) (σ : St) (H : Hp) (v : V) (u : Value) (Q : List V→Prop),Inv X pins σ H s→k ≤ σ.length→RelV v u→tt v H Q →
    wpAny (model X.prog X.w) X.A (assign tg X.env u) (fun _ s'=>∃ ws,ws.length = k∧Q ws∧Inv X pins (ws.map some ++ σ.drop k) H s') X.xe s
def qt : TTg:=fun v _ Q=>Q [v]
theorem db {X : Cx} {x : Str} {pos : Pos} (hN : X.N.Nodup) (hi : X.N[0]? = some x) (hx : X.env.scope.names.lookup x = some .local) : PTg X 1 (.Name x pos) qt:=by
  intro pins s σ H v u Q I hl r h
  refine wpAny_assign_Name (fe I hN hi (.inl hx) r (fun s' I'=>⟨[v],rfl,h,?_⟩) (.inr hx))
  cases σ with
  | nil=>simp at hl
  | cons a t=>exact I'
def iy (K : PySem.W.Frag) (n : Nat) : TTg:=fun v H Q=>∃ a xs,v = .ref a∧SqT K H a xs∧xs.length = n∧Q xs
theorem sf {α : Type} (a b : α) : ∀ (σ : List α),2 ≤ σ.length→(σ.set 0 a).set 1 b = [a,b] ++ σ.drop 2
  | _ :: _ :: _,_=>rfl
theorem jc {α : Type} (a b c : α) : ∀ (σ : List α),3 ≤ σ.length→((σ.set 0 a).set 1 b).set 2 c = [a,b,c] ++ σ.drop 3
  | _ :: _ :: _ :: _,_=>rfl
theorem rm {α : Type} : ∀ (xs : List α),xs.length = 2→∃ a b,xs = [a,b]
  | [a,b],_=>⟨a,b,rfl⟩
theorem jn {α : Type} : ∀ (xs : List α),xs.length = 3→∃ a b c,xs = [a,b,c]
  | [a,b,c],_=>⟨a,b,c,rfl⟩
theorem oE {X : Cx} {x y : Str} {p1 p2 pos : Pos} {k : Nat} (hc : X.calm = true) (hN : X.N.Nodup) (h0 : X.N[0]? = some x) (h1 : X.N[1]? = some y) (hx : X.env.scope.names.lookup x = some .local) (hy : X.env.scope.names.lookup y = some .local) :
    PTg X 2 (.Tuple [.Name x p1,.Name y p2] k pos) (iy X.K 2):=by
  have g : PG X (.Tuple [.Name x p1,.Name y p2] k pos) (lY X.K 2 (bz (aN 0) (bz (aN 1) iS))):=by
    have a1 : PG X (.Name x p1) (aN 0):=av hN h0 (.inl hx) (.inr hx)
    have a2 : PG X (.Name y p2) (aN 1):=av hN h1 (.inl hy) (.inr hy)
    have a3 : PGs X [.Name x p1,.Name y p2] (bz (aN 0) (bz (aN 1) iS)):=aB a1 (aB a2 bR)
    exact cA hc a3
  intro pins s σ H v u Q I hl r h
  obtain ⟨a,xs,rfl,hq,hlen,q⟩:=h
  obtain ⟨x0,x1,e⟩:=rm xs hlen
  subst e
  have w : lY X.K 2 (bz (aN 0) (bz (aN 1) iS)) (.ref a) σ H (fun σ' H'=>σ' = (σ.set 0 (some x0)).set 1 (some x1)∧H' = H):=⟨a,[x0,x1],rfl,hq,rfl,x0,[x1],rfl,x1,[],rfl,rfl,rfl,rfl⟩
  refine thn (g pins s σ H _ _ _ I r w) ?_
  intro _ s' z
  obtain ⟨σ',H',I',e1,e2⟩:=z
  subst e2
  rw [sf _ _ _ hl] at e1
  subst e1
  exact ⟨[x0,x1],rfl,q,I'⟩
theorem pN {X : Cx} {x y z : Str} {p1 p2 p3 pos : Pos} {k : Nat} (hc : X.calm = true) (hN : X.N.Nodup) (h0 : X.N[0]? = some x) (h1 : X.N[1]? = some y) (h2 : X.N[2]? = some z) (hx : X.env.scope.names.lookup x = some .local) (hy : X.env.scope.names.lookup y = some .local)
    (hz : X.env.scope.names.lookup z = some .local) : PTg X 3 (.Tuple [.Name x p1,.Name y p2,.Name z p3] k pos) (iy X.K 3):=by
  have g : PG X (.Tuple [.Name x p1,.Name y p2,.Name z p3] k pos) (lY X.K 3 (bz (aN 0) (bz (aN 1) (bz (aN 2) iS)))):=by
    have a1 : PG X (.Name x p1) (aN 0):=av hN h0 (.inl hx) (.inr hx)
    have a2 : PG X (.Name y p2) (aN 1):=av hN h1 (.inl hy) (.inr hy)
    have a4 : PG X (.Name z p3) (aN 2):=av hN h2 (.inl hz) (.inr hz)
    have a3 : PGs X [.Name x p1,.Name y p2,.Name z p3] (bz (aN 0) (bz (aN 1) (bz (aN 2) iS))):=aB a1 (aB a2 (aB a4 bR))
    exact cA hc a3
  intro pins s σ H v u Q I hl r h
  obtain ⟨a,xs,rfl,hq,hlen,q⟩:=h
  obtain ⟨x0,x1,x2,e⟩:=jn xs hlen
  subst e
  have w : lY X.K 3 (bz (aN 0) (bz (aN 1) (bz (aN 2) iS))) (.ref a) σ H (fun σ' H'=>σ' = ((σ.set 0 (some x0)).set 1 (some x1)).set 2 (some x2)∧H' = H):=⟨a,[x0,x1,x2],rfl,hq,rfl,x0,[x1,x2],rfl,x1,[x2],rfl,x2,[],rfl,rfl,rfl,rfl⟩
  refine thn (g pins s σ H _ _ _ I r w) ?_
  intro _ s' z
  obtain ⟨σ',H',I',e1,e2⟩:=z
  subst e2
  rw [jc _ _ _ _ hl] at e1
  subst e1
  exact ⟨[x0,x1,x2],rfl,q,I'⟩
theorem HOk.adopt {P : Program} {w : World} {H : Hp} {h : Heap} {a : Addr} {o : HO} (x : HOk P w H h) (hn : H a = none) (new : ObjOk P w (upd H a o) h a o) : HOk P w (upd H a o) h:=fun b u e=>by
  by_cases hb : b = a
  · subst hb; rw [ae] at e; cases e; exact new
  · rw [ar hb] at e
    exact (x b u e).stay (fun c v _ q=>q) (fun c q=>by rw [ar (aC q hn)]; exact q) fun c xs q=>by rw [ar (aC q hn)]; exact q
theorem cO {env : Env} {x : Str} : ∀ {names : List (Str × NameKind)},names.lookup x = some .free →
    (names.map fun (n,k)=>if (k == NameKind.free && env.scope.kind == .function && env.kindOf n == some .cell) then (n,NameKind.cell) else (n,k)).lookup x = some .cell ∨
    (names.map fun (n,k)=>if (k == NameKind.free && env.scope.kind == .function && env.kindOf n == some .cell) then (n,NameKind.cell) else (n,k)).lookup x = some .free
  | [],h=>by simp at h
  | (n,k) :: r,h=>by
    have ih:=@cO env x r
    show (List.lookup x ((if (k == NameKind.free && env.scope.kind == .function && env.kindOf n == some .cell) = true then (n,NameKind.cell) else (n,k)) :: _) = _) ∨ (List.lookup x ((if (k == NameKind.free && env.scope.kind == .function && env.kindOf n == some .cell) = true then (n,NameKind.cell) else (n,k)) :: _) = _)
    cases hx : x == n with
    | true =>
      simp only [List.lookup_cons,hx] at h
      cases h
      split
      · left; simp [List.lookup_cons,hx]
      · right; simp [List.lookup_cons,hx]
    | false =>
      simp only [List.lookup_cons,hx] at h
      split
      · simp only [List.lookup_cons,hx]; exact ih h
      · simp only [List.lookup_cons,hx]; exact ih h
theorem dX {env : Env} {x : Str} : ∀ {names : List (Str × NameKind)},(∀ y ∈ names,y.2 ≠ .cell) →
    ((names.map fun (n,k)=>if (k == NameKind.free && env.scope.kind == .function && env.kindOf n == some .cell) then (n,NameKind.cell) else (n,k)).lookup x = some .cell ∨
    (names.map fun (n,k)=>if (k == NameKind.free && env.scope.kind == .function && env.kindOf n == some .cell) then (n,NameKind.cell) else (n,k)).lookup x = some .free)→(x,NameKind.free) ∈ names
  | [],_,h=>by simp at h
  | (n, k) :: r,hc,h=>by
    have ih:=@dX env x r (fun y hy=>hc y (List.mem_cons_of_mem _ hy))
    have hk : k ≠ .cell:=hc (n,k) List.mem_cons_self
    have h' : (List.lookup x ((if (k == NameKind.free && env.scope.kind == .function && env.kindOf n == some .cell) = true then (n,NameKind.cell) else (n,k)) :: _) = _) ∨ (List.lookup x ((if (k == NameKind.free && env.scope.kind == .function && env.kindOf n == some .cell) = true then (n,NameKind.cell) else (n,k)) :: _) = _):=h
    cases hx : x == n with
    | true =>
      have e : x = n:=by simpa using hx
      subst e
      by_cases hc2 : (k == NameKind.free && env.scope.kind == .function && env.kindOf x == some .cell) = true
      · have : k = .free:=by
          have:=(Bool.and_eq_true_iff.mp (Bool.and_eq_true_iff.mp hc2).1).1
          simpa using this
        subst this; exact List.mem_cons_self
      · rw [if_neg hc2] at h'
        simp only [List.lookup_cons,hx] at h'
        rcases h' with h' | h'
        · exact absurd (Option.some.inj h') hk
        · cases h'; exact List.mem_cons_self
    | false =>
      refine List.mem_cons_of_mem _ (ih ?_)
      split at h' <;> (simp only [List.lookup_cons,hx] at h'; exact h')
structure CompOk (scope psc : Scope) (N PN : List Str) (k : Nat) (cap : List Nat) : Prop where
  kind : scope.kind = .function
  len : N.length = k + cap.length
  cell : ∀ y ∈ scope.names,y.2 ≠ .cell
  loc : ∀ y ∈ scope.names,y.2 = .local→scope.names.lookup y.1 = some .local
  free : ∀ y ∈ scope.names,y.2 = .free→psc.names.lookup y.1 = some .cell ∨ psc.names.lookup y.1 = some .free
  cap : ∀ j ∈ List.range cap.length,∃ x i,N[k + j]? = some x∧cap[j]? = some i∧PN[i]? = some x∧scope.names.lookup x = some .free
  free2 : ∀ y ∈ scope.names,y.2 = .free→scope.names.lookup y.1 = some .free
def aT (σ : St) (cap : List Nat) : St:=cap.map fun j=>(σ[j]?).join
def d6 (wi : TI) (tt : TTg) (tc : TT) (te : TE) (cap : List Nat) : TE:=fun σ H Q=>wi σ H fun J H1 =>
  ∃ W : Nat→Nat→List V→Hp→Prop,(∃ m,W 0 m [] H1)∧∀ i m ys H2,W i m ys H2 →
    (J.stop i H2∧ys.length ≤ sizeLine∧∀ p,H2 p = none→Q (.ref p) (upd H2 p (.lst ys))) ∨
    (J.go i H2∧∃ N : List V→Hp→Prop,(∀ ys' H',N ys' H'→ys'.length ≤ sizeLine∧∃ m',m' < m∧W (i + 1) m' ys' H') ∧
      ∀ x H3,J.yld i H2 x H3→tt x H3 fun ws=>tc (ws.map some ++ aT σ cap) H3 fun b H4 =>
        if b = true then te (ws.map some ++ aT σ cap) H4 fun y H5=>N (ys ++ [y]) H5 else N ys H4)
structure Blk (X : Cx) (pins : List (Addr × Obj)) (H : Hp) (s : Shared) (C : Addr) : Prop where
  ns : ∃ m,s.heap.Ns C m
  un : H C = none
  ne : C ≠ X.env.locals
  new : X.s₀.heap.objs.size ≤ C
  cells : ∀ x c,X.env.cells.lookup x = some c→c ≠ C
  pins : ∀ p ∈ X.pn ++ pins,p.1 ≠ C
theorem Blk.turn {X : Cx} {pins : List (Addr × Obj)} {H : Hp} {σ : St} {s : Shared} {C : Addr} {h' : Heap} (B : Blk X pins H s C) (I : Inv X pins σ H s) (hs : Heap.SameBut C s.heap h') : Inv X pins σ H { s with heap:=h' } :=
  I.turned (t':=s.toks) (fun b o hb e=>hs.extBut b o hb e) B.un B.ne (.inr B.new) B.cells B.pins
theorem ie {X : Cx} {pins : List (Addr × Obj)} {σ : St} {H : Hp} {s : Shared} {scope : Scope} {N : List Str} {k : Nat} {cap : List Nat} {cl : List (Str × Addr)} {h₁ : Heap} {fp : List Addr} {tk : Nat} (I : Inv X pins σ H s) (S : CompOk scope X.env.scope N X.N k cap)
    (hcl1 : ∀ x c,cl.lookup x = some c→X.env.cells.lookup x = some c) (hcl2 : ∀ x,(x,NameKind.free) ∈ scope.names→∃ c,cl.lookup x = some c)
    (hf : ∀ b ∈ fp,FpOk X pins H b) (ho : ∀ b ∈ fp,∃ o,s.heap.get? b = some o)
    {m : Str→Option Value} (hns : h₁.Ns (s.heap.objs.size + 1) m)
    (hsb : ∀ b o,(s.heap.push { cls:=.type "list",data:=.seq #[] }).get? b = some o→h₁.get? b = some o) :
    Inv (aG X scope N cl (s.heap.objs.size + 1) { s with heap:=s.heap.push { cls:=.type "list",data:=.seq #[] } } H (s.heap.objs.size :: fp) (X.pn ++ pins))
      [(s.heap.objs.size,{ cls:=.type "list",data:=.seq #[] })] (List.replicate k none ++ aT σ cap) H { s with heap:=h₁,toks:=tk }:=by
  have Ik : Inv X pins σ H { s with heap:=s.heap.push { cls:=.type "list",data:=.seq #[] } }:=I.kept (t':=s.toks) fun b o e=>Heap.get?_push_of_some _ e
  have hold : ∀ b o,s.heap.get? b = some o→h₁.get? b = some o:=fun b o e=>hsb b o (Heap.get?_push_of_some _ e)
  have ltD : ∀ {b o},s.heap.get? b = some o→b < s.heap.objs.size:=fun e=>Heap.lt_size e
  have sizeP : (s.heap.push { cls:=.type "list",data:=.seq #[] }).objs.size = s.heap.objs.size + 1:=Heap.size_push ..
  have nD : H s.heap.objs.size = none:=I.fresh
  have nC : H (s.heap.objs.size + 1) = none:=I.hok.fresh (Nat.le_succ _)
  have cellLt : ∀ x c,X.env.cells.lookup x = some c→c < s.heap.objs.size:=fun x c e=>by
    obtain ⟨v,q⟩:=I.cell x c e
    exact q.lt
  have stkNe : ∀ b,b ≠ X.env.locals→b ∉ X.fs→b ∉ frs X.stack:=fun b h1 h2 hb=>(List.mem_cons.mp (I.stkSub b hb)).elim h1 h2
  have fpLt : ∀ b ∈ fp,b < s.heap.objs.size:=fun b hb=>by obtain ⟨o,e⟩:=ho b hb; exact Heap.lt_size e
  have hfn : ∀ {x : Str},scope.names.lookup x = some .free→(x,NameKind.free) ∈ scope.names:=fun e=>PySem.mem_of_lookup e
  refine ⟨⟨I.ok.mod,S.kind,I.ok.glob,I.ok.blt,?_,fun x y c h1 h2=>I.ok.inj x y c (hcl1 x c h1) (hcl1 y c h2),fun x hx=>hcl2 x (dX S.cell hx),fun x c z=>(by cases z),I.ok.hd,I.ok.frames,.inl rfl,?_,?_,?_,?_,?_,Ik.stack,I.stkFree⟩,
    rfl,I.bare,Un.kept hsb,?_,?_,nC,fun x c e=>I.freeC x c (hcl1 x c e),?_,I.hok.kept hold,?_⟩
  · exact Nat.le_of_eq sizeP
  · intro b hb
    rcases List.mem_cons.mp hb with rfl | hb
    · exact ⟨Nat.ne_of_lt (Nat.lt_succ_self _),fun x c e=>Nat.ne_of_lt (cellLt x c (hcl1 x c e))⟩
    · exact ⟨Nat.ne_of_lt (Nat.lt_succ_of_lt (fpLt b hb)),fun x c e=>(hf b hb).2.2.2.2.1 x c (hcl1 x c e)⟩
  · intro b o e
    obtain ⟨e1,e2⟩:=I.bs b o e
    exact ⟨Heap.get?_push_of_some _ e1,e2⟩
  · show X.base.objs.size ≤ (s.heap.push _).objs.size
    rw [sizeP]
    exact Nat.le_succ_of_le (Nat.le_trans I.ok.bsz I.sz)
  · intro b o e hb
    obtain ⟨e1,e2⟩:=I.bs b o e
    rcases List.mem_cons.mp hb with rfl | hb
    · exact absurd (ltD e1) (Nat.lt_irrefl _)
    · rcases (hf b hb).2.2.2.1 with z | z
      · exact I.ok.noex b o e z
      · exact absurd (Nat.lt_of_lt_of_le (Heap.lt_size (I.ok.bs b o e).1) z) (Nat.lt_irrefl _)
  · intro b hb
    rcases List.mem_cons.mp hb with rfl | hb
    · exact stkNe _ (Nat.ne_of_gt I.lt) (I.nofs (Nat.le_refl _))
    · exact stkNe b (hf b hb).2.1 (hf b hb).2.2.1
  · refine ⟨m,hns,fun i x v h1 h2 h3=>?_⟩
    have hik : k ≤ i:=by
      refine Nat.le_of_not_lt fun hlt=>?_
      rw [List.getElem?_append_left (by simpa using hlt),List.getElem?_replicate] at h2
      split at h2 <;> cases h2
    obtain ⟨j,rfl⟩:=Nat.exists_eq_add_of_le hik
    rw [List.getElem?_append_right (by simp),List.length_replicate,Nat.add_sub_cancel_left] at h2
    have hj : j < cap.length:=by
      have:=(List.getElem?_eq_some_iff.mp h2).1
      simpa [aT] using this
    obtain ⟨x',i,e1,e2,e3,e4⟩:=S.cap j (List.mem_range.mpr hj)
    rw [show N[k + j]? = some x from h1] at e1
    cases e1
    have h2' : σ[i]? = some (some v):=by
      unfold aT at h2
      rw [List.getElem?_map,e2] at h2
      have h2' : (σ[i]?).join = some v:=Option.some.inj h2
      cases q : σ[i]? with
      | none=>rw [q] at h2'; cases h2'
      | some z=>rw [q] at h2'; exact congrArg some h2'
    have hfm:=hfn e4
    have pk:=S.free _ hfm rfl
    obtain ⟨m0,_,hl⟩:=I.loc
    obtain ⟨u,r,lk⟩:=hl i x v e3 h2' (pk.elim (fun z=>.inr (.inl z)) fun z=>.inr (.inr z))
    refine ⟨u,r,?_⟩
    rcases lk with ⟨kl,_⟩ | ⟨_,c,e,ic⟩
    · rcases pk with z | z
      · have : X.env.scope.names.lookup x = some .local:=kl
        rw [z] at this; cases this
      · have : X.env.scope.names.lookup x = some .local:=kl
        rw [z] at this; cases this
    · obtain ⟨c',ec⟩:=hcl2 x hfm
      have:=hcl1 x c' ec
      rw [e] at this; cases this
      refine .inr ⟨?_,c,ec,?_⟩
      · exact cO e4
      · obtain ⟨ob,h3,h4⟩:=ic
        exact ⟨ob,hold _ _ h3,h4⟩
  · intro x c e
    obtain ⟨v,ob,h3,h4⟩:=I.cell x c (hcl1 x c e)
    exact ⟨v,ob,hold _ _ h3,h4⟩
  · intro p hp
    rcases List.mem_append.mp hp with hp | hp
    · obtain ⟨e,n,ne,nf,d⟩:=I.pin p hp
      exact ⟨hold _ _ e,n,Nat.ne_of_lt (Nat.lt_succ_of_lt (ltD e)),stkNe _ ne nf,d⟩
    · have : p = (s.heap.objs.size,{ cls:=.type "list",data:=.seq #[] }):=by simpa using hp
      subst this
      refine ⟨hsb _ _ (Heap.get?_push_size _ rfl),nD,Nat.ne_of_lt (Nat.lt_succ_self _),stkNe _ (Nat.ne_of_gt I.lt) (I.nofs (Nat.le_refl _)),fun v z=>by cases z⟩
  · show _ = N.length
    rw [S.len]
    simp [aT]
theorem i9 {X : Cx} {elt tg iter : Expr} {ifs : List Expr} {scope : Scope} {pos : Pos} {N : List Str} {k : Nat} {cap : List Nat} {wi : TI} {tt : TTg} {tc : TT} {te : TE} {cl : List (Str × Addr)}
    (hc : X.calm = true) (hi : PI X tg iter wi) (hg : ∀ cl C s H ex pn,PTg (aG X scope N cl C s H ex pn) k tg tt) (ht : ∀ cl C s H ex pn,PTs (aG X scope N cl C s H ex pn) ifs tc)
    (he : ∀ cl C s H ex pn,PE (aG X scope N cl C s H ex pn) elt te) (S : CompOk scope X.env.scope N X.N k cap)
    (hcl1 : ∀ x c,cl.lookup x = some c→X.env.cells.lookup x = some c) (hcl2 : ∀ x,(x,NameKind.free) ∈ scope.names→∃ c,cl.lookup x = some c)
    {pins : List (Addr × Obj)} {s : Shared} {σ : St} {H : Hp} {Q : VK} (I : Inv X pins σ H s) (h : d6 wi tt tc te cap σ H Q) {RR : Value→Addr→Result→Shared→Prop}
    (hRR : ∀ D C s1 H',Inv X pins σ H' s1→Blk X pins H' s1 C→Q (.ref D) H'→RR (.ref D) C (.ok .next) s1) :
    wpAny (model X.prog X.w) X.A (eval iter X.env) (fun x s₁=>wpAny (model X.prog X.w) X.A (pyIter x) (fun it s₂=>wpAny (model X.prog X.w) X.A (newList []) (fun acc s₃ =>
      wpAny (model X.prog X.w) X.A (newFunctionEnv scope X.env.globals cl [] X.env.qual none .none (some X.env)) (fun cenv s₄ =>
        codeAny (model X.prog X.w) X.A (.compStart (.ListComp elt [⟨tg,iter,ifs,0⟩] scope pos) 0 it acc { cenv with scope:=relabel scope X.env }) (RR acc cenv.locals) s₄) X.xe s₃) X.xe s₂) X.xe s₁) X.xe s:=by
  refine thn (hi pins s σ H _ I h) fun v s1 h1=>thn h1 fun itv s2 h2=>?_
  obtain ⟨it,fp,tn,J,H2,e,I2,T,st2,f2,W,⟨m0,w0⟩,turn⟩:=h2
  subst e
  refine wpAny_newObj_type (wpAny_newFunctionEnv S.cell (by intro y hy; simp at hy) (fun h₁ hns₁ hsb₁=>?_) S.kind)
  dsimp only at hns₁ hsb₁ ⊢
  have hP : s2.heap.push { cls:=.type "list",dict:=none,data:=.seq ([] : List Value).toArray } = s2.heap.push { cls:=.type "list",data:=.seq #[] }:=rfl
  rw [hP] at hns₁ hsb₁ ⊢
  have hC : (s2.heap.push { cls:=.type "list",data:=.seq #[] }).objs.size = s2.heap.objs.size + 1:=Heap.size_push ..
  rw [hC] at hns₁ hsb₁ ⊢
  have hsb : ∀ b o,(s2.heap.push { cls:=.type "list",data:=.seq #[] }).get? b = some o→h₁.get? b = some o:=fun b o e =>
    hsb₁.extBut b o (by have:=Heap.lt_size e; rw [hC] at this; exact Nat.ne_of_lt this) (Heap.get?_push_of_some _ e)
  have hob : ∀ b ∈ fp,∃ o,s2.heap.get? b = some o:=fun b hb=>by obtain ⟨o,e,_⟩:=T.obj _ _ st2 b hb; exact ⟨o,e⟩
  have IY:=ie (N:=N) (k:=k) (cap:=cap) (tk:=s2.toks + ([] : List (Str × Value)).length) I2 S hcl1 hcl2 f2 hob hns₁ hsb
  generalize hY : aG X scope N cl (s2.heap.objs.size + 1) { s2 with heap:=s2.heap.push { cls:=.type "list",data:=.seq #[] } } H2 (s2.heap.objs.size :: fp) (X.pn ++ pins) = Y at IY
  have yp : Y.prog = X.prog:=by rw [← hY]
  have yw : Y.w = X.w:=by rw [← hY]
  have yK : Y.K = X.K:=by rw [← hY]
  have yA : Y.A = X.A:=by rw [← hY]
  have yc : Y.calm = true:=by rw [← hY]; exact hc
  have yl : Y.env.locals = s2.heap.objs.size + 1:=by rw [← hY]; rfl
  have yenv : Y.env = compEnvC scope cl (s2.heap.objs.size + 1) X.env:=by rw [← hY]
  have yex : Y.ex = s2.heap.objs.size :: fp:=by rw [← hY]
  have yfs : Y.fs = frs X.stack:=by rw [← hY]
  have ypn : Y.pn = X.pn ++ pins:=by rw [← hY]
  have ycl : Y.env.cells = cl:=by rw [← hY]; rfl
  have yxe : Y.xe = fun _ _=>False:=by rw [← hY]
  have gT : PTg Y k tg tt:=by rw [← hY]; exact hg _ _ _ _ _ _
  have gC : PTs Y ifs tc:=by rw [← hY]; exact ht _ _ _ _ _ _
  have gE : PE Y elt te:=by rw [← hY]; exact he _ _ _ _ _ _
  have yH : Y.H₀ = H2:=by rw [← hY]
  have ys0 : Y.s₀ = { s2 with heap:=s2.heap.push { cls:=.type "list",data:=.seq #[] } }:=by rw [← hY]
  have fpLt : ∀ b ∈ fp,b < s2.heap.objs.size:=fun b hb=>by obtain ⟨o,e⟩:=hob b hb; exact Heap.lt_size e
  have pinLt : ∀ p ∈ X.pn ++ pins,p.1 < s2.heap.objs.size:=fun p hp=>Heap.lt_size (I2.pin p hp).1
  have cellLt : ∀ x c,X.env.cells.lookup x = some c→c < s2.heap.objs.size:=fun x c e=>by
    obtain ⟨v,q⟩:=I2.cell x c e
    exact q.lt
  have stkNe : ∀ b,b ≠ X.env.locals→b ∉ X.fs→b ∉ frs X.stack:=fun b h1 h2 hb=>(List.mem_cons.mp (I2.stkSub b hb)).elim h1 h2
  have fpY : ∀ {H' : Hp} {pl : List (Addr × Obj)},(∀ b ∈ fp,H' b = none)→(∀ p ∈ pl,p.1 = s2.heap.objs.size)→∀ b ∈ fp,FpOk Y pl H' b:=fun {H' pl} hn hpl b hb=>by
    refine ⟨hn b hb,?_,?_,.inl ?_,fun x c e=>?_,fun p hp=>?_⟩
    · rw [yl]; exact Nat.ne_of_lt (Nat.lt_succ_of_lt (fpLt b hb))
    · rw [yfs]; exact stkNe b (f2 b hb).2.1 (f2 b hb).2.2.1
    · rw [yex]; exact List.mem_cons_of_mem _ hb
    · rw [ycl] at e; exact (f2 b hb).2.2.2.2.1 x c (hcl1 x c e)
    · rcases List.mem_append.mp hp with hp | hp
      · rw [ypn] at hp; exact (f2 b hb).2.2.2.2.2 p hp
      · rw [hpl p hp]; exact Nat.ne_of_gt (fpLt b hb)
  have loop : ∀ s₃ : Shared,s₃ = { s2 with heap:=h₁,toks:=s2.toks + ([] : List (Str × Value)).length } →
      codeAny (model X.prog X.w) X.A (.compLoop (.ListComp elt [⟨tg,iter,ifs,0⟩] scope pos) 0 (.ref it) (.ref s2.heap.objs.size) (compEnvC scope cl (s2.heap.objs.size + 1) X.env)) (RR (.ref s2.heap.objs.size) (s2.heap.objs.size + 1)) s₃:=by
    rintro s₃ rfl
    refine i4 (fun n s'=>∃ i ys its H' c,Inv Y [(s2.heap.objs.size,{ cls:=.type "list",data:=.seq (List.toArray its) c })] (List.replicate k none ++ aT σ cap) H' s'∧tn i s'.heap∧(∀ b ∈ fp,H' b = none)∧Vals ys its∧W i n ys H') ?_ m0
      ⟨0,[],[],H2,_,IY,T.keep _ _ _ st2 fun b hb o e=>hsb b o (Heap.get?_push_of_some _ e),fun b hb=>(f2 b hb).1,.nil,w0⟩
    rintro n s3 ⟨i,ys,its,H3,c3,I3,st3,fr3,rv3,w3⟩
    have onlyD : ∀ p ∈ [(s2.heap.objs.size,({ cls:=.type "list",data:=.seq its.toArray c3 } : Obj))],p.1 = s2.heap.objs.size:=fun p hp=>by
      have : p = (s2.heap.objs.size,{ cls:=.type "list",data:=.seq its.toArray c3 }):=by simpa using hp
      rw [this]
    have pinD : ∀ {pl : List (Addr × Obj)} {σ' : St} {H' : Hp} {s' : Shared},Inv Y ([(s2.heap.objs.size,({ cls:=.type "list",data:=.seq its.toArray c3 } : Obj))] ++ pl) σ' H' s'→s'.heap.get? s2.heap.objs.size = some { cls:=.type "list",data:=.seq its.toArray c3 }∧H' s2.heap.objs.size = none:=fun I'=>by
      obtain ⟨e,n,_⟩:=I'.pin (s2.heap.objs.size,{ cls:=.type "list",data:=.seq its.toArray c3 }) (List.mem_append_right _ (List.mem_append_left _ (by simp)))
      exact ⟨e,n⟩
    rcases turn i n ys H3 w3 with ⟨stop,hz,qn⟩ | ⟨go,Nx,hNx,step⟩
    · have hd:=T.done Y yp yw yK yc i _ s3 _ H3 (fun _ _=>False) I3 (fpY fr3 onlyD) st3 stop
      rw [yA] at hd
      refine thn hd fun r s4 hm0=>?_
      obtain ⟨hr,I4⟩:=hm0
      subst hr
      obtain ⟨eD,nD⟩:=pinD (pl:=[]) (by simpa using I4)
      have nC : H3 (s2.heap.objs.size + 1) = none:=by have:=I4.free; rw [yl] at this; exact this
      obtain ⟨mC,nsC,_⟩:=I4.loc
      rw [yl] at nsC
      have U:=I4.base
      rw [yfs,yex,yH,ys0] at U
      have old : ∀ {b o},s2.heap.get? b = some o→b < s2.heap.objs.size:=fun e=>Heap.lt_size e
      have Un2 : Un (frs X.stack) (s2.heap.objs.size :: fp) H2 (upd H3 s2.heap.objs.size (.lst ys)) s2.heap s4.heap :=
        ⟨fun b o e n hb hx=>U.keep b o (Heap.get?_push_of_some _ e) n hb hx,fun b o e n hb hx=>U.slot b o (Heap.get?_push_of_some _ e) n hb hx,
          fun b o e n hx=>by rw [ar (Nat.ne_of_lt (old e))]; exact U.free b o (Heap.get?_push_of_some _ e) n hx,fun b o e hx=>U.there b o (Heap.get?_push_of_some _ e) hx,
          fun b xs e=>by have q:=U.tups b xs e; rw [ar (aC q nD)]; exact q,fun b o u e=>by have q:=U.frzs b o u e; rw [ar (aC q nD)]; exact q,
          fun b ps e=>by obtain ⟨mo,q⟩:=U.tbls b ps e; exact ⟨mo,by rw [ar (aC q nD)]; exact q⟩⟩
      have hok4:=I4.hok
      rw [yp,yw] at hok4
      have IX : Inv X pins σ (upd H3 s2.heap.objs.size (.lst ys)) s4:=by
        refine I2.call' (ch:=s2.heap.objs.size :: fp) ?_ Un2 (hok4.adopt nD ⟨hz,its,c3,rv3,eD⟩) I4.bare fun b hb=>?_
        · have:=I4.os; rw [ys0] at this; exact this
        · rcases List.mem_cons.mp hb with rfl | hb
          · exact ⟨.inr I2.sz,Nat.ne_of_gt I2.lt,fun x c e=>Nat.ne_of_lt (cellLt x c e),fun p hp=>Nat.ne_of_lt (pinLt p hp)⟩
          · exact ⟨(f2 b hb).2.2.2.1,(f2 b hb).2.1,(f2 b hb).2.2.2.2.1,(f2 b hb).2.2.2.2.2⟩
      refine hRR _ _ s4 _ IX ⟨⟨mC,nsC⟩,?_,?_,Nat.le_succ_of_le I2.sz,fun x c e=>Nat.ne_of_lt (Nat.lt_succ_of_lt (cellLt x c e)),fun p hp=>Nat.ne_of_lt (Nat.lt_succ_of_lt (pinLt p hp))⟩ (qn _ nD)
      · rw [ar (Nat.succ_ne_self _)]; exact nC
      · exact Nat.ne_of_gt (Nat.lt_succ_of_lt I2.lt)
    · have hd := T.item Y yp yw yK yc i _ s3 _ H3 (fun _ _=>False) I3 (fpY fr3 onlyD) st3 go
      rw [yA] at hd
      refine thn hd fun r s4 hm0=>?_
      obtain ⟨u,hr,h4⟩:=hm0
      subst hr
      refine thn h4 fun _ s5 hm0=>?_
      obtain ⟨x,H5,I5,r5,y5,st5,fr5⟩:=hm0
      have I5':=I5.pinned (fpY fr5 onlyD) (T.obj _ _ st5)
      have a5:=gT _ s5 _ H5 x u _ I5' (by simp) r5 (step x H5 y5)
      rw [yp,yw,yA,yxe,yenv] at a5
      refine thn a5 fun _ s6 hm0=>?_
      obtain ⟨ws,hlw,q6,I6⟩:=hm0
      have dr : (List.replicate k (none : Option V) ++ aT σ cap).drop k = aT σ cap:=by
        rw [List.drop_append_of_le_length (by simp)]; simp
      rw [dr] at I6
      have a6:=gC _ s6 _ H5 _ I6 q6
      rw [yp,yw,yA,yxe,yenv] at a6
      refine thn a6 fun ok s7 hm0=>?_
      obtain ⟨H7,I7,q7⟩:=hm0
      have wk : ∀ (j : Nat) v,(List.replicate k (none : Option V) ++ aT σ cap)[j]? = some (some v)→(ws.map some ++ aT σ cap)[j]? = some (some v):=fun j v e=>by
        have hik : k ≤ j:=by
          refine Nat.le_of_not_lt fun hlt=>?_
          rw [List.getElem?_append_left (by simpa using hlt),List.getElem?_replicate] at e
          split at e <;> cases e
        rw [List.getElem?_append_right (by simpa using hik),List.length_replicate] at e
        rw [List.getElem?_append_right (by simpa [hlw] using hik),List.length_map,hlw]
        exact e
      have wl : (List.replicate k (none : Option V) ++ aT σ cap).length = (ws.map some ++ aT σ cap).length:=by simp [hlw]
      have stn : ∀ {H' : Hp} {s' : Shared},Inv Y ([(s2.heap.objs.size,({ cls:=.type "list",data:=.seq its.toArray c3 } : Obj))] ++ fb fp s5.heap) (ws.map some ++ aT σ cap) H' s'→tn (i + 1) s'.heap∧∀ b ∈ fp,H' b = none:=fun {H' s'} I'=>by
        refine ⟨T.keep _ _ _ st5 fun b hb o e=>(I'.pin (b,o) (List.mem_append_right _ (List.mem_append_right _ (bG hb e)))).1,fun b hb=>?_⟩
        obtain ⟨o,e,d⟩:=T.obj _ _ st5 b hb
        exact (I'.pin (b,o) (List.mem_append_right _ (List.mem_append_right _ (bG hb e)))).2.1
      cases ok with
      | false =>
        obtain ⟨_,m',hm,w'⟩:=hNx _ _ q7
        obtain ⟨t7,f7⟩:=stn I7
        exact ⟨m',hm,i + 1,ys,its,H7,c3,(I7.weak wl wk).unpinned,t7,f7,rv3,w'⟩
      | true =>
        have a7:=gE _ s7 _ H7 _ I7 q7
        rw [yp,yw,yA,yxe,yenv] at a7
        rw [if_pos rfl]
        refine thn a7 fun yv s8 hm0=>?_
        obtain ⟨y,H8,I8,r8,q8⟩:=hm0
        obtain ⟨hz8,m',hm,w'⟩:=hNx _ _ q8
        rw [List.length_append,List.length_singleton] at hz8
        obtain ⟨eD,nD⟩:=pinD I8
        obtain ⟨t8,f8⟩:=stn I8
        refine wpAny_list_append_plain (hsz:=by rw [List.size_toArray,← rv3.length]; omega) ⟨c3,eD⟩ fun h9 pl9 sb9=>?_
        obtain ⟨c9,e9⟩:=pl9
        have I8' : Inv Y [] (List.replicate k none ++ aT σ cap) H8 s8:=(I8.weak wl wk).pins_of fun p hp=>by cases hp
        have I9 : Inv Y [] (List.replicate k none ++ aT σ cap) H8 { s8 with heap:=h9 } :=
          I8'.turned (t':=s8.toks) (it:=s2.heap.objs.size) (fun b o hb e=>sb9.extBut b o hb e) nD (by rw [yl]; exact Nat.ne_of_lt (Nat.lt_succ_self _)) (.inl (by rw [yex]; exact List.mem_cons_self)) (fun x c e=>by rw [ycl] at e; exact Nat.ne_of_lt (cellLt x c (hcl1 x c e)))
            fun p hp=>by
              rw [List.append_nil,ypn] at hp
              exact Nat.ne_of_lt (pinLt p hp)
        have e9' : h9.get? s2.heap.objs.size = some { cls:=.type "list",data:=.seq (its ++ [yv]).toArray c9 }:=by rw [e9]; simp
        refine ⟨m',hm,i + 1,ys ++ [y],its ++ [yv],H8,c9,I9.pins_of fun p hp=>?_,T.keep _ _ _ t8 fun b hb o e=>sb9.extBut b o (Nat.ne_of_lt (fpLt b hb)) e,f8,rv3.append (.cons r8 .nil),w'⟩
        have : p = (s2.heap.objs.size,{ cls:=.type "list",data:=.seq (its ++ [yv]).toArray c9 }):=by simpa using hp
        subst this
        refine ⟨e9',nD,?_,?_,fun v z=>by cases z⟩
        · rw [yl]; exact Nat.ne_of_lt (Nat.lt_succ_self _)
        · rw [yfs]; exact stkNe _ (Nat.ne_of_gt I2.lt) (I2.nofs (Nat.le_refl _))
  exact codeAny_compStart_list (loop _ rfl) (T.self _ 0 _ _ _ (T.keep _ _ _ st2 fun b hb o e=>hsb b o (Heap.get?_push_of_some _ e)) (loop _ rfl))
section
variable {X : Cx} {elt tg iter : Expr} {ifs : List Expr} {scope : Scope} {pos : Pos} {N : List Str} {k : Nat} {cap : List Nat} {wi : TI} {tt : TTg} {tc : TT} {te : TE}
theorem mX (hc : X.calm = true) (S : CompOk scope X.env.scope N X.N k cap) (hi : PI X tg iter wi) (hg : ∀ cl C s H ex pn,PTg (aG X scope N cl C s H ex pn) k tg tt) (ht : ∀ cl C s H ex pn,PTs (aG X scope N cl C s H ex pn) ifs tc)
    (he : ∀ cl C s H ex pn,PE (aG X scope N cl C s H ex pn) elt te) (hs : ∀ x,foldedSetIterable iter X.env x = pure x:=by intro _; rfl) :
    PE X (.ListComp elt [⟨tg,iter,ifs,0⟩] scope pos) (d6 wi tt tc te cap):=by
  intro pins s σ H Q I h
  obtain ⟨cl,hclos,hcl1,hcl2⟩:=fu (scope:=scope) (env:=X.env) fun y hy hf=>I.ok.has y.1 (S.free y hy hf)
  rw [eval_ListComp]
  refine wpAny_comprehension_free (use:=none) rfl hs hclos S.kind S.loc ?_
  refine i9 hc hi hg ht he S hcl1 hcl2 I h fun D C s1 H' I1 B q=>?_
  obtain ⟨m,hm⟩:=B.ns
  exact ⟨m,hm,fun h' sb=>⟨.ref D,H',B.turn I1 sb,rfl,q⟩⟩
theorem sd {i : Nat} {y : Str} {py spos : Pos} (hc : X.calm = true) (S : CompOk scope X.env.scope N X.N k cap) (hN : X.N.Nodup) (hiy : X.N[i]? = some y) (hy : X.env.scope.names.lookup y = some .local) (hi : PI X tg iter wi)
    (hg : ∀ cl C s H ex pn,PTg (aG X scope N cl C s H ex pn) k tg tt) (ht : ∀ cl C s H ex pn,PTs (aG X scope N cl C s H ex pn) ifs tc)
    (he : ∀ cl C s H ex pn,PE (aG X scope N cl C s H ex pn) elt te)
    (hsw : swapsWith (.ListComp elt [⟨tg,iter,ifs,0⟩] scope pos) (some (.Name y py)) spos.line X.env = pure true:=by rfl) (hs : ∀ x,foldedSetIterable iter X.env x = pure x:=by intro _; rfl) :
    PS X (.Assign [.Name y py] (.ListComp elt [⟨tg,iter,ifs,0⟩] scope pos) spos) (nF (d6 wi tt tc te cap) (aN i)):=by
  intro pins s σ H D I h
  obtain ⟨cl,hclos,hcl1,hcl2⟩:=fu (scope:=scope) (env:=X.env) fun y hy hf=>I.ok.has y.1 (S.free y hy hf)
  rw [exec_Assign_Name_used _ _ _ _ hsw]
  refine wpAny_bind (wpAny_standAt (wpAny_bind ?_))
  show wpAny _ X.A (do let _ ← comprehension (.ListComp elt [⟨tg,iter,ifs,0⟩] scope pos) scope X.env _ (newList []) false (eval iter X.env) (some (assign (.Name y py) X.env))) _ _ s
  refine wpAny_bind (wpAny_mono (wpAny_comprehension_free (use:=some (assign (.Name y py) X.env)) (Q:=fun _ s'=>SP X pins D .next s') rfl hs hclos S.kind S.loc ?_) (fun _ s' hq=>wpAny_pure (wpAny_pure hq)) fun _ _ e=>e)
  refine i9 hc hi hg ht he S hcl1 hcl2 I h fun Da C s1 H' I1 B q=>?_
  show wpAny _ X.A (assign (.Name y py) X.env (.ref Da)) _ _ _
  refine wpAny_assign_Name (fU (v:=.ref Da) I1 hN hiy (.inl hy) rfl (fun s' I' z=>?_) (.inr hy))
  obtain ⟨a,hsb,ha⟩:=z
  have hCa : C ≠ a:=by
    rcases ha with rfl | ha
    · exact B.ne
    · exact fun e=>B.cells _ _ ha e.symm
  obtain ⟨m,hm⟩:=B.ns
  refine ⟨m,hm.sameBut hsb hCa,fun h' sb=>?_⟩
  exact ⟨_,H',I'.turned (t':=s'.toks) (fun b o hb e=>sb.extBut b o hb e) B.un B.ne (.inr B.new) B.cells B.pins,q⟩
end
abbrev Rel (α : Type):=Hp→α→V→Prop
def cu : Rel Int:=fun _ i v=>v = .int i
def su {α : Type} (R : Rel α) : Rel (Option α):=fun H o v=>match o with
  | none=>v = .non
  | some x=>R H x v
def d4 {α : Type} (R : Rel α) : Rel (List α):=fun H xs v=>∃ a vs,v = .ref a∧H a = some (.lst vs)∧Paired (R H) xs vs
def rT2 {α β : Type} (R : Rel α) (S : Rel β) : Rel (α × β):=fun H p v=>∃ a x y,v = .ref a∧H a = some (.tup [x,y])∧R H p.1 x∧S H p.2 y
def rT3 {α β γ : Type} (R : Rel α) (S : Rel β) (T : Rel γ) : Rel (α × β × γ):=fun H p v=>∃ a x y z,v = .ref a∧H a = some (.tup [x,y,z])∧R H p.1 x∧S H p.2.1 y∧T H p.2.2 z
structure MonoR {α : Type} (R : Rel α) : Prop where
  go : ∀ (H H' : Hp) (x : α) (v : V),Same H H'→R H x v→R H' x v
theorem MonoR.up {α : Type} {R : Rel α} (m : MonoR R) {H H' : Hp} {x : α} {v : V} (s : Same H H') (h : R H x v) : R H' x v:=m.go H H' x v s h
theorem bg : MonoR cu:=⟨fun _ _ _ _ _ h=>h⟩
theorem aH {α : Type} {R : Rel α} (m : MonoR R) {H H' : Hp} (s : Same H H') {xs : List α} {vs : List V} (p : Paired (R H) xs vs) : Paired (R H') xs vs:=Paired.mapP p fun _ _ q=>m.up s q
theorem bw {α : Type} {R : Rel α} (m : MonoR R) : MonoR (d4 R):=⟨fun H H' x v s h=>by
  obtain ⟨a,vs,e,h1,p⟩:=h
  exact ⟨a,vs,e,s _ _ h1,aH m s p⟩⟩
theorem gA {α β : Type} {R : Rel α} {S : Rel β} (m : MonoR R) (n : MonoR S) : MonoR (rT2 R S):=⟨fun H H' x v s h=>by
  obtain ⟨a,x,y,e,h1,p,q⟩:=h
  exact ⟨a,x,y,e,s _ _ h1,m.up s p,n.up s q⟩⟩
theorem rW {α β γ : Type} {R : Rel α} {S : Rel β} {T : Rel γ} (m : MonoR R) (n : MonoR S) (o : MonoR T) : MonoR (rT3 R S T):=⟨fun H H' x v s h=>by
  obtain ⟨a,x,y,z,e,h1,p,q,r⟩:=h
  exact ⟨a,x,y,z,e,s _ _ h1,m.up s p,n.up s q,o.up s r⟩⟩
theorem g8 {α β : Type} {F : α→β→Prop} {f : α→β} (h : ∀ a,F a (f a)) : ∀ xs : List α,Paired F xs (xs.map f)
  | []=>.nil
  | a :: r=>.cons (h a) (g8 h r)
theorem gq {H : Hp} : ∀ {xs : List Int} {vs : List V},Paired (cu H) xs vs→vs = xs.map V.int
  | _,_,.nil=>rfl
  | _,_,.cons h t=>by rw [List.map_cons,← gq t]; exact congrArg (· :: _) h
theorem kP {H : Hp} (xs : List Int) : Paired (cu H) xs (xs.map V.int):=g8 (F:=cu H) (f:=V.int) (fun _=>rfl) xs
theorem rLst_ints {H : Hp} {xs : List Int} {v : V} : d4 cu H xs v ↔ ∃ a,v = .ref a∧H a = some (.lst (xs.map V.int)):=by
  constructor
  · rintro ⟨a,vs,rfl,h,p⟩
    rw [gq p] at h
    exact ⟨a,rfl,h⟩
  · rintro ⟨a,rfl,h⟩
    exact ⟨a,_,rfl,h,kP xs⟩
theorem Paired.at {α β : Type} {F : α→β→Prop} : ∀ {xs : List α} {ys : List β} {i : Nat} {x : α},Paired F xs ys→xs[i]? = some x→∃ y,ys[i]? = some y∧F x y
  | _,_,_,_,.nil,e=>by simp at e
  | _,_,0,_,.cons r _,e=>by simp at e; subst e; exact ⟨_,rfl,r⟩
  | _,_,i + 1,x,.cons _ t,e=>by
    obtain ⟨u,h1,h2⟩:=Paired.at (i:=i) (x:=x) t (by simpa using e)
    exact ⟨u,by simpa using h1,h2⟩
theorem Paired.app {α β : Type} {F : α→β→Prop} : ∀ {xs xs' : List α} {ys ys' : List β},Paired F xs ys→Paired F xs' ys'→Paired F (xs ++ xs') (ys ++ ys')
  | _,_,_,_,.nil,s=>s
  | _,_,_,_,.cons r t,s=>.cons r (Paired.app t s)
structure EqOk {α : Type} (n : Nat) (R : Rel α) : Prop where
  go : ∀ (X : Cx) (pins : List (Addr × Obj)) (σ : St) (H : Hp) (s : Shared) (A : Around) (x : α) (v w : V) (u1 u2 : Value),
    Inv X pins σ H s→A.units + n < cLine→R H x v→R H x w→RelV v u1→RelV w u2→SeqAt.EqAt A s u1 u2 true
theorem EqOk.at {α : Type} {n : Nat} {R : Rel α} (h : EqOk n R) {X : Cx} {pins : List (Addr × Obj)} {σ : St} {H : Hp} {s : Shared} {A : Around} {x : α} {v w : V} {u1 u2 : Value} (I : Inv X pins σ H s) (hu : A.units + n < cLine) (h1 : R H x v) (h2 : R H x w) (r1 : RelV v u1) (r2 : RelV w u2) : SeqAt.EqAt A s u1 u2 true :=
  h.go X pins σ H s A x v w u1 u2 I hu h1 h2 r1 r2
structure RcOk {α : Type} (n : Nat) (R : Rel α) : Prop where
  go : ∀ (X : Cx) (pins : List (Addr × Obj)) (σ : St) (H : Hp) (s : Shared) (A : Around) (x : α) (v w : V) (u1 u2 : Value),
    Inv X pins σ H s→A.units + n < cLine→R H x v→R H x w→RelV v u1→RelV w u2→SeqAt.RcAt A s u1 u2 true∧SeqAt.RcNeAt A s u1 u2 false
theorem RcOk.at {α : Type} {n : Nat} {R : Rel α} (h : RcOk n R) {X : Cx} {pins : List (Addr × Obj)} {σ : St} {H : Hp} {s : Shared} {A : Around} {x : α} {v w : V} {u1 u2 : Value} (I : Inv X pins σ H s) (hu : A.units + n < cLine) (h1 : R H x v) (h2 : R H x w) (r1 : RelV v u1) (r2 : RelV w u2) : SeqAt.RcAt A s u1 u2 true∧SeqAt.RcNeAt A s u1 u2 false :=
  h.go X pins σ H s A x v w u1 u2 I hu h1 h2 r1 r2
theorem EqOk.up {α : Type} {m n : Nat} {R : Rel α} (h : EqOk m R) (hm : m ≤ n) : EqOk n R:=⟨fun X pins σ H s A x v w u1 u2 I hu=>h.go X pins σ H s A x v w u1 u2 I (by omega)⟩
theorem dC : EqOk 0 cu:=by
  refine ⟨fun X pins σ H s A x v w u1 u2 I hu h1 h2 r1 r2=>?_⟩
  have e1 : v = .int x:=h1
  have e2 : w = .int x:=h2
  subst e1; subst e2
  have:=fO (A:=A) (s:=s) r1 r2 rfl rfl
  simpa [eqV] using this
theorem pu {α : Type} {n : Nat} {R : Rel α} (h : EqOk n R) : EqOk n (su R):=by
  refine ⟨fun X pins σ H s A x v w u1 u2 I hu h1 h2 r1 r2=>?_⟩
  cases x with
  | none =>
    have e1 : v = .non:=h1
    have e2 : w = .non:=h2
    subst e1; subst e2
    cases r1; cases r2
    exact SeqAt.EqAt.same _
  | some y=>exact h.at I hu h1 h2 r1 r2
theorem ix (n : Nat) : (List.range n).all (fun _=>true) = true:=by simp
theorem oj {α : Type} {R : Rel α} {H : Hp} {xs : List α} {vs ws : List V} {us1 us2 : List Value} (p1 : Paired (R H) xs vs) (p2 : Paired (R H) xs ws) (r1 : Vals vs us1) (r2 : Vals ws us2) :
    us1.length = us2.length∧∀ (j : Nat) (a b : Value),us1[j]? = some a→us2[j]? = some b→∃ x v w,R H x v∧R H x w∧RelV v a∧RelV w b:=by
  induction p1 generalizing ws us1 us2 with
  | nil =>
    cases p2
    cases r1; cases r2
    exact ⟨rfl,fun j a b e=>by simp at e⟩
  | cons h t ih =>
    cases p2 with
    | cons h' t' =>
      cases r1 with
      | cons q1 s1 =>
        cases r2 with
        | cons q2 s2 =>
          obtain ⟨e,f⟩:=ih t' s1 s2
          refine ⟨by simp [e],fun j a b ea eb=>?_⟩
          cases j with
          | zero=>simp at ea eb; subst ea; subst eb; exact ⟨_,_,_,h,h',q1,q2⟩
          | succ j=>exact f j a b (by simpa using ea) (by simpa using eb)
theorem iA {α : Type} {n : Nat} {R : Rel α} (h : EqOk n R) : RcOk (n + 1) (d4 R):=by
  refine ⟨fun X pins σ H s A xs v w u1 u2 I hu h1 h2 r1 r2=>?_⟩
  obtain ⟨a,vs,e1,ha,p1⟩:=h1
  obtain ⟨b,ws,e2,hb,p2⟩:=h2
  subst e1; subst e2
  cases r1; cases r2
  obtain ⟨its,n1,rv1,o1,z1⟩:=I.lst ha
  obtain ⟨its2,n2,rv2,o2,z2⟩:=I.lst hb
  obtain ⟨el,f⟩:=oj p1 p2 rv1 rv2
  have hl1 : s.heap.IsList a its.toArray:=⟨_,o1,rfl,n1,rfl⟩
  have hl2 : s.heap.IsList b its2.toArray:=⟨_,o2,rfl,n2,rfl⟩
  have he : ∀ j (h1 : j < its.toArray.size) (h2 : j < its2.toArray.size),SeqAt.EqAt A.in1 s its.toArray[j] its2.toArray[j] ((fun _=>true) j):=fun j h1 h2=>by
    obtain ⟨x,v,w,q1,q2,q3,q4⟩:=f j (its.toArray[j]) (its2.toArray[j]) (by simp) (by simp)
    exact h.at I (by show A.units + 1 + n < cLine; omega) q1 q2 q3 q4
  have A1:=SeqAt.RcAt.lists hl1 hl2 (by simpa using el) (by omega) he
  have A2:=SeqAt.RcNeAt.lists hl1 hl2 (by simpa using el) (by omega) he
  rw [ix] at A1 A2
  exact ⟨A1,A2⟩
theorem mj {α : Type} {n : Nat} {R : Rel α} (h : RcOk n R) (href : ∀ {H : Hp} {x : α} {v : V},R H x v→∃ a,v = .ref a) : EqOk n R:=by
  refine ⟨fun X pins σ H s A x v w u1 u2 I hu h1 h2 r1 r2=>?_⟩
  obtain ⟨a,rfl⟩:=href h1
  obtain ⟨b,rfl⟩:=href h2
  have q:=(h.at I hu h1 h2 r1 r2).1
  cases r1; cases r2
  by_cases e : a = b
  · subst e; exact SeqAt.EqAt.same _
  · exact SeqAt.EqAt.of_refs e q
theorem ib {α : Type} {n : Nat} {R : Rel α} (h : EqOk n R) : EqOk (n + 1) (d4 R):=mj (iA h) fun z=>by obtain ⟨a,_,e,_⟩:=z; exact ⟨a,e⟩
theorem sM {α β : Type} {n : Nat} {R : Rel α} {S : Rel β} (h : EqOk n R) (g : EqOk n S) : RcOk (n + 1) (rT2 R S):=by
  refine ⟨fun X pins σ H s A xs v w u1 u2 I hu h1 h2 r1 r2=>?_⟩
  obtain ⟨a,x1,y1,e1,ha,p1,q1⟩:=h1
  obtain ⟨b,x2,y2,e2,hb,p2,q2⟩:=h2
  subst e1; subst e2
  cases r1; cases r2
  obtain ⟨z1,its,rv1,t1⟩:=I.hok a _ ha
  obtain ⟨z2,its2,rv2,t2⟩:=I.hok b _ hb
  obtain ⟨c1,c2,rfl,rc1,rc2⟩:=rv1.two
  obtain ⟨d1,d2,rfl,rd1,rd2⟩:=rv2.two
  have he : ∀ j (h1 : j < [c1,c2].toArray.size) (h2 : j < [d1,d2].toArray.size),SeqAt.EqAt A.in1 s [c1,c2].toArray[j] [d1,d2].toArray[j] ((fun _=>true) j):=fun j h1 h2=>by
    have hj : j = 0 ∨ j = 1:=by have : j < 2:=h1; (clear hu z1 z2 h1 h2; omega)
    rcases hj with rfl | rfl
    · exact h.at I (by show A.units + 1 + n < cLine; omega) p1 p2 rc1 rd1
    · exact g.at I (by show A.units + 1 + n < cLine; omega) q1 q2 rc2 rd2
  have A1:=SeqAt.RcAt.tuples t1 t2 (by omega) he
  have A2:=SeqAt.RcNeAt.tuples t1 t2 (by omega) he
  simpa [ix] using And.intro A1 A2
theorem rF {α β γ : Type} {n : Nat} {R : Rel α} {S : Rel β} {T : Rel γ} (h : EqOk n R) (g : EqOk n S) (k : EqOk n T) : RcOk (n + 1) (rT3 R S T):=by
  refine ⟨fun X pins σ H s A xs v w u1 u2 I hu h1 h2 r1 r2=>?_⟩
  obtain ⟨a,x1,y1,w1,e1,ha,p1,q1,m1⟩:=h1
  obtain ⟨b,x2,y2,w2,e2,hb,p2,q2,m2⟩:=h2
  subst e1; subst e2
  cases r1; cases r2
  obtain ⟨z1,its,rv1,t1⟩:=I.hok a _ ha
  obtain ⟨z2,its2,rv2,t2⟩:=I.hok b _ hb
  cases rv1 with
  | cons rc1 rv1 =>
    obtain ⟨c2,c3,rfl,rc2,rc3⟩:=Vals.two rv1
    cases rv2 with
    | cons rd1 rv2 =>
      obtain ⟨d2,d3,rfl,rd2,rd3⟩:=Vals.two rv2
      rename_i c1 d1
      have he : ∀ j (h1 : j < [c1,c2,c3].toArray.size) (h2 : j < [d1,d2,d3].toArray.size),SeqAt.EqAt A.in1 s [c1,c2,c3].toArray[j] [d1,d2,d3].toArray[j] ((fun _=>true) j):=fun j h1 h2=>by
        have hj : j = 0 ∨ j = 1 ∨ j = 2:=by have : j < 3:=h1; (clear hu z1 z2 h1 h2; omega)
        rcases hj with rfl | rfl | rfl
        · exact h.at I (by show A.units + 1 + n < cLine; omega) p1 p2 rc1 rd1
        · exact g.at I (by show A.units + 1 + n < cLine; omega) q1 q2 rc2 rd2
        · exact k.at I (by show A.units + 1 + n < cLine; omega) m1 m2 rc3 rd3
      have A1:=SeqAt.RcAt.tuples t1 t2 (by omega) he
      have A2:=SeqAt.RcNeAt.tuples t1 t2 (by omega) he
      simpa [ix] using And.intro A1 A2
theorem rV {α β γ : Type} {n : Nat} {R : Rel α} {S : Rel β} {T : Rel γ} (h : EqOk n R) (g : EqOk n S) (k : EqOk n T) : EqOk (n + 1) (rT3 R S T):=mj (rF h g k) fun z=>by obtain ⟨a,_,_,_,e,_⟩:=z; exact ⟨a,e⟩
section
variable {X : Cx}
theorem qi {α : Type} {n : Nat} {R : Rel α} (ok : RcOk n R) (hu : X.A.units + n < cLine) : OpR X (compareOp .Eq) (fun v w H Q=>∃ x,R H x v∧R H x w∧Q (.bl true) H):=by
  intro pins s σ H v w u1 u2 Q I r1 r2 h
  obtain ⟨x,h1,h2,q⟩:=h
  exact (ok.at I hu h1 h2 r1 r2).1 _ _ _ _ ⟨.bl true,H,I,rfl,q⟩
theorem ux {α : Type} {n : Nat} {R : Rel α} (ok : RcOk n R) (hu : X.A.units + n < cLine) : OpR X (compareOp .NotEq) (fun v w H Q=>∃ x,R H x v∧R H x w∧Q (.bl false) H):=by
  intro pins s σ H v w u1 u2 Q I r1 r2 h
  obtain ⟨x,h1,h2,q⟩:=h
  exact (ok.at I hu h1 h2 r1 r2).2 _ _ _ _ ⟨.bl false,H,I,rfl,q⟩
def kindV (H : Hp) : V→String→Prop
  | .non,T=>T = "NoneType"
  | .bl _,T=>T = "bool"
  | .int _,T=>T = "int"
  | .str _,T=>T = "str"
  | .ref a,T=>(T = "list"∧((∃ xs,H a = some (.lst xs)) ∨ ∃ o xs,H a = some (.frz o (.lst xs)))) ∨ (T = "tuple"∧∃ xs,H a = some (.tup xs)) ∨ (T = "dict"∧∃ kvs,H a = some (.dK kvs))
  | _,_=>False
theorem kindV.ty {K : PySem.W.Frag} {H : Hp} {x : V} {T : String} (h : kindV H x T) : TyOf K H x (.type T):=by
  cases x with
  | non=>cases (show T = "NoneType" from h); exact .non
  | bl b=>cases (show T = "bool" from h); exact .bl b
  | int i=>cases (show T = "int" from h); exact .int i
  | str z=>cases (show T = "str" from h); exact .str z
  | ref a =>
    rcases h with ⟨rfl,⟨xs,e⟩ | ⟨o,xs,e⟩⟩ | ⟨rfl,xs,e⟩ | ⟨rfl,kvs,e⟩
    · exact .lst e
    · exact .frz e
    · exact .tup e
    · exact .dK e
  | _=>exact False.elim h
theorem pf {T : String} : dg X (.builtin "isinstance") (fun xs H Q=>∃ x S b,xs = [x,.ty T]∧kindV H x S∧PySem.W.kitOne X.K (.type S) (.type T) = some b∧Q (.bl b) H):=by
  intro pins s σ H xs us Q I r h
  obtain ⟨x,S,b,rfl,hk,e,q⟩:=h
  obtain ⟨u,c,rfl,ru,rc⟩:=r.two
  cases (show c = Value.type T from rc)
  exact nG I ru hk.ty e fun tk=>⟨.bl b,H,I.tok _,rfl,q⟩
theorem dQ {K : PySem.W.Frag} (T : String) : PySem.W.kitOne K (.type T) (.type T) = some true:=by
  unfold PySem.W.kitOne
  rw [if_pos (by simp)]
theorem fB {K : PySem.W.Frag} : PySem.W.kitOne K (.type "int") (.type "bool") = some false:=rfl
end
def eK (scope psc : Scope) (N PN : List Str) (k : Nat) (cap : List Nat) : Bool :=
  (scope.kind == .function) && (N.length == k + cap.length) &&
  (scope.names.all fun y=>(y.2 != .cell) && (y.2 != .local || scope.names.lookup y.1 == some .local) &&
    (y.2 != .free || (scope.names.lookup y.1 == some .free && (psc.names.lookup y.1 == some .cell || psc.names.lookup y.1 == some .free)))) &&
  ((List.range cap.length).all fun j=>match N[k + j]?,cap[j]? with
    | some x,some i=>PN[i]? == some x && scope.names.lookup x == some .free
    | _,_=>false)
theorem eJ {scope psc : Scope} {N PN : List Str} {k : Nat} {cap : List Nat} (h : eK scope psc N PN k cap = true) : CompOk scope psc N PN k cap:=by
  unfold eK at h
  simp only [Bool.and_eq_true] at h
  obtain ⟨⟨⟨h1,h2⟩,h3⟩,h4⟩:=h
  rw [List.all_eq_true] at h3 h4
  have q : ∀ y ∈ scope.names,y.2 ≠ .cell∧(y.2 = .local→scope.names.lookup y.1 = some .local)∧(y.2 = .free→scope.names.lookup y.1 = some .free∧(psc.names.lookup y.1 = some .cell ∨ psc.names.lookup y.1 = some .free)):=fun y hy=>by
    have:=h3 y hy
    simp only [Bool.and_eq_true,Bool.or_eq_true,bne_iff_ne,beq_iff_eq] at this
    obtain ⟨⟨a,b⟩,c⟩:=this
    exact ⟨a,fun e=>b.elim (fun z=>absurd e z) id,fun e=>c.elim (fun z=>absurd e z) id⟩
  refine ⟨by simpa using h1,by simpa using h2,fun y hy=>(q y hy).1,fun y hy=>(q y hy).2.1,fun y hy e=>((q y hy).2.2 e).2,fun j hj=>?_,fun y hy e=>((q y hy).2.2 e).1⟩
  have:=h4 j hj
  split at this
  · rename_i x i e1 e2
    simp only [Bool.and_eq_true,beq_iff_eq] at this
    exact ⟨x,i,e1,e2,this.1,this.2⟩
  · cases this
section
variable {X : Cx} {elt tg iter : Expr} {ifs : List Expr} {scope : Scope} {pos : Pos} {wi : TI} {tt : TTg} {tc : TT} {te : TE}
theorem kx (psc : Scope) (PN N : List Str) (k : Nat) (cap : List Nat) (hi : PI X tg iter wi) (hg : ∀ cl C s H ex pn,PTg (aG X scope N cl C s H ex pn) k tg tt) (ht : ∀ cl C s H ex pn,PTs (aG X scope N cl C s H ex pn) ifs tc)
    (he : ∀ cl C s H ex pn,PE (aG X scope N cl C s H ex pn) elt te) (hc : X.calm = true:=by rfl) (h1 : X.env.scope = psc:=by rfl) (h2 : X.N = PN:=by rfl) (S : eK scope psc N PN k cap = true:=by decide +kernel)
    (hs : ∀ x,foldedSetIterable iter X.env x = pure x:=by intro _; rfl) :
    PE X (.ListComp elt [⟨tg,iter,ifs,0⟩] scope pos) (d6 wi tt tc te cap):=mX hc (by rw [h1,h2]; exact eJ S) hi hg ht he hs
theorem mt {i : Nat} {y : Str} {py spos : Pos} (psc : Scope) (PN N : List Str) (k : Nat) (cap : List Nat) (hN : X.N.Nodup) (hiy : X.N[i]? = some y) (hy : X.env.scope.names.lookup y = some .local) (hi : PI X tg iter wi)
    (hg : ∀ cl C s H ex pn,PTg (aG X scope N cl C s H ex pn) k tg tt) (ht : ∀ cl C s H ex pn,PTs (aG X scope N cl C s H ex pn) ifs tc)
    (he : ∀ cl C s H ex pn,PE (aG X scope N cl C s H ex pn) elt te) (hc : X.calm = true:=by rfl) (h1 : X.env.scope = psc:=by rfl) (h2 : X.N = PN:=by rfl) (S : eK scope psc N PN k cap = true:=by decide +kernel)
    (hsw : swapsWith (.ListComp elt [⟨tg,iter,ifs,0⟩] scope pos) (some (.Name y py)) spos.line X.env = pure true:=by rfl) (hs : ∀ x,foldedSetIterable iter X.env x = pure x:=by intro _; rfl) :
    PS X (.Assign [.Name y py] (.ListComp elt [⟨tg,iter,ifs,0⟩] scope pos) spos) (nF (d6 wi tt tc te cap) (aN i)):=sd hc (by rw [h1,h2]; exact eJ S) hN hiy hy hi hg ht he hsw hs
end
structure Dn (P : Program) (w : World) (K : PySem.W.Frag) (mg : Str→Option Value) (base : Heap) (x : Str) (n : Nat) (ps : List Str) (sp : Sp) : Prop where
  ex : ∃ f fd,FnOk P w K mg base CX0 n f fd ps sp∧mg x = some (.ref f)∧PySem.W.keepIn K (.ref f) = true∧Binds K fd ps []
structure DefAt (K : PySem.W.Frag) (mg : Str→Option Value) (x : Str) (st : Stmt) (ps : List Str) : Prop where
  ex : ∃ f fd,Fun K x x st f fd∧mg x = some (.ref f)∧Binds K fd ps []
section
variable {P : Program} {w : World} {K : PySem.W.Frag} {mg : Str→Option Value} {base : Heap}
theorem DefAt.ok {x : Str} {st : Stmt} {N ps : List Str} {k : Nat} {sp : Sp} (F : DefAt K mg x st ps) (S : FnScope N ps (ai st)) (len : ∀ vs H Q E,sp vs H Q E→vs.length = ps.length)
    (hbody : ∀ (f : Addr) (cdv : Value) (A : Around) (outer : List Env) (s : Shared) (H : Hp) (vs : List V) (Q : VK) (E : XK),Room k (A.deeper (envOfC x (ai st) s.heap.objs.size f cdv))→sp vs H Q E →
      ∃ t,PSs (fN CX0 P w K mg base N x (ai st) f cdv A outer s H E).nox (bu st) t∧t { nx:=fun _ H'=>Q .non H',rt:=Q } (start N vs) H) : Dn P w K mg base x (k + 1) ps sp:=by
  obtain ⟨f,fd,F,hm,hb⟩:=F.ex
  exact ⟨f,fd,F.ok S len fun cdv A outer s H vs Q E=>hbody f cdv A outer s H vs Q E,hm,F.kp,hb⟩
end
theorem aE {X : Cx} {x : Str} {n k : Nat} {ps : List Str} {sp : Sp} {e : Expr} {es : List Expr} {t : TA} {p pos : Pos} (D : Dn X.prog X.w X.K X.mg X.base x n ps sp) (hr : Room k X.A) (ha : PA X (e :: es) t) (hk : n ≤ k:=by decide) (hg : Gl X x:=by rfl)
    (hdb : (x == ("__debug__" : Str)) = false:=by decide) (he : starEach (e :: es) X.env = (false,eval e X.env) :: starEach es X.env:=by rfl) (hpl : (backTo pos (starEach es X.env)).any (·.1) = false:=by rfl) :
    PE X (.Call (.Name x p) (e :: es) [] pos) (ox sp [] E0 t):=by
  obtain ⟨f,fd,F,hm,kp,hb⟩:=D.ex
  exact mI F (hr.mono hk) hg hm kp hb .nil u9 ha hdb he hpl
theorem jL {A : Around} {k : Nat} (hr : Room k A) (n : Nat) (h : n ≤ 64:=by decide) : A.units + n < cLine:=Nat.lt_of_le_of_lt (Nat.add_le_add_left h _) hr.units
def uP (t u : TS) : TS:=fun D σ H=>∃ M : St→Hp→Prop,t { D with nx:=M } σ H∧∀ σ' H',M σ' H'→u D σ' H'
theorem fo {X : Cx} {st : Stmt} {rest : List Stmt} {t u : TS} (h1 : PS X st t) (h2 : PSs X rest u) : PSs X (st :: rest) (uP t u):=by
  intro pins s σ H D I h
  obtain ⟨M,h,k⟩:=h
  refine wpAny_execs_cons (thn (h1 pins s σ H { D with nx:=M } I h) fun f s1 q=>?_)
  cases f with
  | next =>
    obtain ⟨σ',H',I',q⟩:=q
    exact h2 pins s1 σ' H' D I' (k σ' H' q)
  | ret v=>exact q
  | brk=>exact q
  | cont=>exact q
def cQ (H H' : Hp) : Hp:=fun b=>match H b with
  | none=>H' b
  | some _=>none
theorem dE (H H' : Hp) : Same (cQ H H') H':=fun b o e=>by
  unfold cQ at e
  cases q : H b with
  | none=>rw [q] at e; exact e
  | some u=>rw [q] at e; cases e
theorem i8 {H H' : Hp} {b : Addr} {o : HO} (h : H b = some o) : cQ H H' b = none:=by unfold cQ; rw [h]
theorem ce {H H' : Hp} {b : Addr} (h : H b = none) : cQ H H' b = H' b:=by unfold cQ; rw [h]
theorem dA {H H1 H' H2 : Hp} (a : Same H H1) (b : Same H' H2) : Same (cQ H1 H') (cQ H H2):=fun c o e=>by
  cases q : H1 c with
  | some u=>rw [i8 q] at e; cases e
  | none =>
    rw [ce q] at e
    rw [ce (a.free q)]
    exact b c o e
theorem ag {H : Hp} {p : Addr} (h : H p = none) (o : HO) : Same H (upd H p o):=fun b u q=>by rw [ar (aC q h)]; exact q
theorem Same.put {Hs H : Hp} {p : Addr} (s : Same Hs H) (h : Hs p = none) (o : HO) : Same Hs (upd H p o):=fun b u q=>by
  rw [ar (aC q h)]; exact s b u q
theorem bW {n m : Nat} (h : n ≤ m) (hm : m ≤ 1000000:=by decide) : n ≤ sizeLine:=Nat.le_trans h (Nat.le_trans hm (by decide))
theorem cV {x : V} {H : Hp} {f : List V→St} {A B : List V→Hp→Prop} (h : A [x] H) : qt x H fun ws=>uy (f ws) H fun b H4=>if b = true then A ws H4 else B ws H4:=by
  show if true = true then A [x] H else B [x] H
  rw [if_pos rfl]; exact h
theorem cq {K : PySem.W.Frag} {n : Nat} {a : Addr} {xs : List V} {H : Hp} {f : List V→St} {A B : List V→Hp→Prop} (hq : SqT K H a xs) (hn : xs.length = n) (h : A xs H) : iy K n (.ref a) H fun ws=>uy (f ws) H fun b H4=>if b = true then A ws H4 else B ws H4:=by
  refine ⟨a,xs,rfl,hq,hn,?_⟩
  show if true = true then A xs H else B xs H
  rw [if_pos rfl]; exact h
theorem mE : ∀ {vs : List Value} {ns : List Int},IntsAre vs ns→Vals (ns.map V.int) vs
  | _,_,.nil=>.nil
  | _,_,.cons _ t r=>.cons ⟨t,rfl⟩ (mE r)
section
variable {prog : Program} {w : World} {A : Around} {E : Value→Shared→Prop} {s : Shared} {T : String} {r d : Addr} {n : Nat} {P : Nat→Value→Prop} {OK : Heap→Prop} {Q : Value→Shared→Prop}
end
section
variable {X : Cx}
theorem jV : dg X (.builtin "sorted") (fun xs H Q=>∃ (a : Addr) (ks : List Int),xs = [.ref a]∧SqL X.K H a (ks.map V.int)∧ks.length < 64 ∧
    ∀ (p : Addr) (ns : List Int),H p = none→ns.Perm ks→ns.Pairwise (· ≤ ·)→Q (.ref p) (upd H p (.lst (ns.map V.int)))):=by
  intro pins s σ H xs us Q I r h
  obtain ⟨a,ks,rfl,ha,h64,q⟩:=h
  obtain ⟨u,rfl,ru⟩:=de r
  cases ru
  obtain ⟨its,rv,pl,hz⟩:=I.list ha
  have hi : IntsAre its ks:=bK rv
  refine sorted_ints pl.isList hi (by rw [hi.length]; exact h64) fun out ns' i2 pm pw=>?_
  obtain ⟨e,he⟩:=sortedAll_at s.heap its out
  have hz : (ns'.map V.int).length ≤ sizeLine:=by rw [List.length_map,pm.length_eq]; exact bW (m:=64) (Nat.le_of_lt h64)
  have k0 : ∀ b o,s.heap.get? b = some o→(sortedAll s.heap its out).get? b = some o:=fun b o=>sortedAll_old
  have I1 : Inv X pins σ H { s with heap:=sortedAll s.heap its out }:=I.kept (t':=s.toks) k0
  have f1 : H (s.heap.objs.size + 1) = none:=I.hok.fresh (Nat.le_succ _)
  refine ⟨.ref (s.heap.objs.size + 1),_,I.laid (t':=s.toks) (o:=.lst (ns'.map V.int)) k0 (Nat.le_succ _) ⟨hz,out.toList,e,mE i2,by simpa using he⟩,rfl,q _ ns' f1 pm pw⟩
end
def Ris (xs : List Nat) : Prop:=xs.Pairwise (· < ·)
theorem Ris.lt {xs : List Nat} (h : Ris xs) {i j a b : Nat} (hij : i < j) (ha : xs[i]? = some a) (hb : xs[j]? = some b) : a < b:=by
  obtain ⟨h1,e1⟩:=List.getElem?_eq_some_iff.mp ha
  obtain ⟨h2,e2⟩:=List.getElem?_eq_some_iff.mp hb
  have:=List.pairwise_iff_getElem.mp h i j h1 h2 hij
  rw [e1,e2] at this; exact this
theorem gU (xs : Array Nat) (hr : Ris xs.toList) (j : Nat) : ∀ (fuel lo hi : Nat),hi - lo ≤ fuel→lo ≤ hi→hi ≤ xs.size→(∀ (i v : Nat),i < lo→xs.toList[i]? = some v→v < j)→(∀ (i v : Nat),hi ≤ i→xs.toList[i]? = some v→j ≤ v) →
    SetTable.below.go xs j fuel lo hi ≤ xs.size∧(∀ (i v : Nat),i < SetTable.below.go xs j fuel lo hi→xs.toList[i]? = some v→v < j)∧∀ (i v : Nat),SetTable.below.go xs j fuel lo hi ≤ i→xs.toList[i]? = some v→j ≤ v
  | 0,lo,hi,h1,h2,h3,h4,h5=>by
    have e : lo = hi:=by omega
    subst e
    exact ⟨h3,h4,h5⟩
  | fuel + 1,lo,hi,h1,h2,h3,h4,h5=>by
    rw [SetTable.below.go]
    by_cases hl : lo < hi
    · rw [if_pos hl]
      have hm : (lo + hi) / 2 < xs.size:=by (clear h1 h2 h4 h5; omega)
      have hg : xs.toList[(lo + hi) / 2]? = some (xs.getD ((lo + hi) / 2) j):=by
        rw [Array.getElem?_toList,Array.getElem?_eq_getElem hm]
        simp [Array.getD,hm]
      dsimp only
      by_cases hc : xs.getD ((lo + hi) / 2) j < j
      · rw [if_pos hc]
        refine gU xs hr j fuel _ _ (by (clear h5 hl hm hc h3 h4 h2; omega)) (by (clear h1 h2 h3 h4 hm hc h5; omega)) h3 (fun i v hi' hv=>?_) h5
        by_cases e : i = (lo + hi) / 2
        · subst e; rw [hg] at hv; cases hv; exact hc
        · exact Nat.lt_trans (hr.lt (by (clear h1 h2 h3 h4 h5 hl hm hc; omega)) hv hg) hc
      · rw [if_neg hc]
        refine gU xs hr j fuel _ _ (by (clear h5 hl hm hc h3 h4 h2; omega)) (by (clear h1 h2 h3 h4 hm hc h5; omega)) (by (clear h1 h2 h3 h4 h5 hl hc; omega)) h4 (fun i v hi' hv=>?_)
        by_cases e : i = (lo + hi) / 2
        · subst e; rw [hg] at hv; cases hv; (clear h1 h2 h3 h4 h5 hi' hl hm; omega)
        · have:=hr.lt (by (clear h1 h2 h3 h4 h5 hl hm hc; omega) : (lo + hi) / 2 < i) hg hv; (clear h1 h2 h3 h4 h5 hl hi' e hm; omega)
    · rw [if_neg hl]
      have e : lo = hi:=by (clear h3 h4 h1 h5; omega)
      subst e
      exact ⟨h3,h4,h5⟩
theorem lG (xs : Array Nat) (hr : Ris xs.toList) (j : Nat) : SetTable.below xs j ≤ xs.size∧(∀ (i v : Nat),i < SetTable.below xs j→xs.toList[i]? = some v→v < j)∧∀ (i v : Nat),SetTable.below xs j ≤ i→xs.toList[i]? = some v→j ≤ v :=
  gU xs hr j xs.size 0 xs.size (by omega) (Nat.zero_le _) (Nat.le_refl _) (fun i v h=>by omega) (fun i v h e=>by
    have:=(List.getElem?_eq_some_iff.mp e).1
    rw [Array.length_toList] at this; omega)
theorem lX {xs : Array Nat} (hr : Ris xs.toList) {j : Nat} (hn : xs[SetTable.below xs j]? ≠ some j) : Ris (SetTable.insertAt xs (SetTable.below xs j) j).toList:=by
  obtain ⟨h1,h2,h3⟩:=lG xs hr j
  rw [SetTable.toList_insertAt]
  have hlt : ∀ a ∈ xs.toList.take (SetTable.below xs j),a < j:=fun a ha=>by
    obtain ⟨i,hi⟩:=List.getElem?_of_mem ha
    have hi' : i < SetTable.below xs j:=by
      have:=(List.getElem?_eq_some_iff.mp hi).1
      rw [List.length_take] at this; omega
    rw [List.getElem?_take_of_lt hi'] at hi
    exact h2 i a hi' hi
  have hgt : ∀ b ∈ xs.toList.drop (SetTable.below xs j),j < b:=fun b hb=>by
    obtain ⟨i,hi⟩:=List.getElem?_of_mem hb
    rw [List.getElem?_drop] at hi
    have hle:=h3 _ b (Nat.le_add_right _ i) hi
    rcases Nat.lt_or_eq_of_le hle with z | z
    · exact z
    · subst z
      exfalso
      cases i with
      | zero=>rw [Nat.add_zero,Array.getElem?_toList] at hi; exact hn hi
      | succ i =>
        obtain ⟨u,hu⟩ : ∃ u,xs.toList[SetTable.below xs j]? = some u:=by
          have hs:=(List.getElem?_eq_some_iff.mp hi).1
          have : SetTable.below xs j < xs.toList.length:=by (clear hn h1 h2 h3 hlt hle; omega)
          exact ⟨xs.toList[SetTable.below xs j],by simp⟩
        have a:=h3 _ u (Nat.le_refl _) hu
        have b:=hr.lt (by omega : SetTable.below xs j < SetTable.below xs j + (i + 1)) hu hi
        omega
  refine List.pairwise_append.mpr ⟨hr.sublist (List.take_sublist _ _),List.pairwise_cons.mpr ⟨hgt,hr.sublist (List.drop_sublist _ _)⟩,fun a ha b hb=>?_⟩
  rcases List.mem_cons.mp hb with rfl | hb
  · exact hlt a ha
  · exact Nat.lt_trans (hlt a ha) (hgt b hb)
structure Tab (led : Bool) (t : SetTable) : Prop where
  led : t.led = led
  dum : t.dummies = #[]
  ris : Ris t.place.toList
theorem Tab.standIn {led : Bool} {t : SetTable} (h : Tab led t) (n : Nat) : Tab led (t.standIn n):=⟨h.led,rfl,by
  show Ris (Array.range n).toList
  rw [Array.toList_range]
  exact List.pairwise_lt_range⟩
theorem mB (j : Nat) : SetTable.has #[] j = false:=by
  unfold SetTable.has
  simp
theorem mV (t : SetTable) (j : Nat) : t.slot j = if (t.place[SetTable.below t.place j]? == some j) = true then .live (SetTable.below t.place j) else if SetTable.has t.dummies j = true then .dummy else .empty:=rfl
theorem hV {t : SetTable} (hd : t.dummies = #[]) (f : Nat→Int) (h : Int) : ∀ (fuel : Nat) (p : SetTable.Probe) (j : Nat) (d : Option Nat),p.dummy = none→SetTable.probe.go t f h fuel p = some (.empty j d)→d = none∧t.place[SetTable.below t.place j]? ≠ some j
  | 0,p,j,d,_,e=>by rw [SetTable.probe.go] at e; cases e
  | fuel + 1,p,j,d,hp,e=>by
    rw [SetTable.probe.go] at e
    have hadv : (t.advance p).dummy = none:=by
      unfold SetTable.advance
      split
      · exact hp
      · exact hp
    split at e
    · rename_i hs
      cases e
      refine ⟨hp,fun hc=>?_⟩
      rw [mV,hc] at hs
      simp at hs
    · rename_i hs
      rw [mV,hd,mB] at hs
      exfalso
      by_cases hb : (t.place[SetTable.below t.place p.j]? == some p.j) = true
      · rw [if_pos hb] at hs; cases hs
      · rw [if_neg hb] at hs; simp at hs
    · split at e
      · cases e
      · exact hV hd f h fuel _ j d hadv e
theorem Tab.layNew {led : Bool} {t : SetTable} (T : Tab led t) (es : Array (Int × Value)) (h : Int) (x : Value) : Tab led (layNew t es h x).2.1:=by
  unfold PySem.layNew
  cases e : t.freeSlot h with
  | none=>exact T.standIn _
  | some sw =>
    obtain ⟨slot,wd⟩:=sw
    dsimp only
    have key : Tab led (t.put slot).1:=by
      have hne : t.place[SetTable.below t.place slot]? ≠ some slot:=by
        unfold SetTable.freeSlot at e
        split at e
        · rename_i j d hp
          cases e
          unfold SetTable.probe at hp
          obtain ⟨e1,e2⟩:=hV T.dum _ _ _ _ _ _ rfl hp
          subst e1
          exact e2
        · cases e
      refine ⟨T.led,?_,lX T.ris hne⟩
      show (if SetTable.has t.dummies slot then _ else t.dummies) = #[]
      rw [T.dum,mB]; rfl
    unfold SetTable.orStandIn
    split
    · exact key
    · exact key.standIn _
theorem eX (f : Nat→Option Nat) (n : Nat) : Ris (((List.range n).filterMap fun j=>(f j).map fun k=>(j,k)).map (·.1)):=by
  have : Ris (((List.range n).filterMap fun j=>(f j).map fun k=>(j,k)).map (·.1)):=by
    have e : ((List.range n).filterMap fun j=>(f j).map fun k=>(j,k)).map (·.1) = (List.range n).filter fun j=>(f j).isSome:=by
      induction (List.range n) with
      | nil=>rfl
      | cons a r ih =>
        cases h : f a with
        | none=>simp [List.filterMap_cons,h,ih]
        | some k=>simp [List.filterMap_cons,h,ih]
    rw [e]
    exact List.pairwise_lt_range.sublist List.filter_sublist
  exact this
theorem Tab.relay {led : Bool} {t : SetTable} (T : Tab led t) (es : Array (Int × Value)) (wanted : Nat) : Tab led (relayAll t es wanted).2.1:=by
  unfold relayAll
  cases e : t.relaid (es.map (·.1)) wanted with
  | none=>exact T.standIn _
  | some q =>
    obtain ⟨t',order⟩:=q
    dsimp only
    split
    · unfold SetTable.relaid SetTable.laid at e
      cases e2 : SetTable.layClean (SetTable.sizeAbove wanted - 1) (es.map (·.1)) with
      | none=>rw [e2] at e; cases e
      | some owner =>
        rw [e2] at e
        cases e
        refine ⟨T.led,rfl,?_⟩
        have:=eX (fun j=>owner.getD j none) (SetTable.sizeAbove wanted - 1 + 1)
        simpa using this
    · exact T.standIn _
def SetI (P : Program) (w : World) (h : Heap) (a : Addr) (led : Bool) (ks : List Int) : Prop :=
  ∃ (o : Obj) (es : Array (Int × Value)) (ep : Nat) (t : SetTable) (ns : List Int),h.get? a = some o∧o.ExactSet∧o.data = .set es ep t∧ElemsOf (intKind P w) es.toList∧IntsAre (es.toList.map (·.2)) ns∧ns.Nodup∧(∀ k,k ∈ ns ↔ k ∈ ks) ∧
    es.size < scanBound∧t.fits es.size = true∧Tab led t
theorem SetI.keep {P : Program} {w : World} {h h' : Heap} {a : Addr} {led : Bool} {ks : List Int} (S : SetI P w h a led ks) (k : ∀ o,h.get? a = some o→h'.get? a = some o) : SetI P w h' a led ks:=by
  obtain ⟨o,es,ep,t,ns,e,r⟩:=S
  exact ⟨o,es,ep,t,ns,k o e,r⟩
theorem nZ : ∀ {l l' : List Value} {ns : List Int},l'.Perm l→IntsAre l ns→∃ ns',IntsAre l' ns'∧ns'.Perm ns:=by
  intro l l' ns hp
  induction hp generalizing ns with
  | nil=>intro h; exact ⟨ns,h,.refl _⟩
  | cons x _ ih =>
    intro h
    cases h with
    | cons n t r =>
      obtain ⟨ns',h1,h2⟩:=ih r
      exact ⟨n :: ns',.cons n t h1,h2.cons n⟩
  | swap x y l =>
    intro h
    cases h with
    | cons n t r =>
      cases r with
      | cons m u r=>exact ⟨m :: n :: _,.cons m u (.cons n t r),.swap n m _⟩
  | trans _ _ ih1 ih2 =>
    intro h
    obtain ⟨n1,a1,a2⟩:=ih2 h
    obtain ⟨n2,b1,b2⟩:=ih1 a1
    exact ⟨n2,b1,b2.trans a2⟩
theorem eY {l l' : List (Int × Value)} {ns : List Int} (hp : l'.Perm l) (h : IntsAre (l.map (·.2)) ns) : ∃ ns',IntsAre (l'.map (·.2)) ns'∧ns'.Perm ns:=nZ (hp.map _) h
theorem dG : ∀ (l1 l2 : List Int),l1.Nodup→(∀ x ∈ l1,x ∈ l2)→l1.length ≤ l2.length
  | [],_,_,_=>Nat.zero_le _
  | x :: l1,l2,hn,hs=>by
    have hx : x ∈ l2:=hs x List.mem_cons_self
    have hxn:=(List.nodup_cons.mp hn).1
    have:=dG l1 (l2.erase x) (List.nodup_cons.mp hn).2 fun y hy=>(List.mem_erase_of_ne (fun e=>by subst e; exact hxn hy)).mpr (hs y (List.mem_cons_of_mem _ hy))
    rw [List.length_erase_of_mem hx] at this
    have hp : 0 < l2.length:=List.length_pos_of_mem hx
    rw [List.length_cons]; omega
theorem jw {k : Int} {t : Tok} : ∀ {vs : List Value} {ns : List Int},IntsAre vs ns→IntsAre (vs ++ [.int k t]) (ns ++ [k])
  | _,_,.nil=>.cons k t .nil
  | _,_,.cons n u r=>.cons n u (jw r)
theorem fT {P : Program} {w : World} {k : Int} : ∀ {l : List (Int × Value)} {ns : List Int},IntsAre (l.map (·.2)) ns→((∃ e ∈ l,(intKind P w).is k e.2 = true) ↔ k ∈ ns)
  | [],_,h=>by cases h; simp
  | (hh,v) :: l,_,h=>by
    cases h with
    | cons n t r =>
      have ih:=fT (P:=P) (w:=w) (k:=k) r
      rw [List.mem_cons,← ih]
      constructor
      · rintro ⟨e,he,q⟩
        rcases List.mem_cons.mp he with rfl | he
        · obtain ⟨u,z⟩:=Value.isInt_shape (k:=k) (v:=Value.int n t) q
          injection z with z _
          exact .inl z.symm
        · exact .inr ⟨e,he,q⟩
      · rintro (rfl | ⟨e,he,q⟩)
        · exact ⟨_,List.mem_cons_self,by simp [intKind,Value.isInt]⟩
        · exact ⟨e,List.mem_cons_of_mem _ he,q⟩
theorem stored {h : Heap} {a : Addr} {ob : Obj} {es : Array (Int × Value)} {ep : Nat} {t : SetTable} (ho : h.get? a = some ob) (hd : ob.data = .set es ep t) (es2 : Array (Int × Value)) (t2 : SetTable) :
    (h.update a (Obj.putSet es2 t2)).get? a = some { ob with data:=.set es2 (ep + 1) t2 }:=by
  have z:=Heap.get?_update_self (Obj.putSet es2 t2) ho (by rw [putSet_of es2 t2 hd]; rfl)
  rwa [putSet_of es2 t2 hd] at z
section
variable {P : Program} {w : World} {A : Around} {E : Value→Shared→Prop}
theorem kY {s : Shared} {g : Bool→Sem Unit} (hg : ∀ (b : Bool) (s1 : Shared) (Q1 : Unit→Shared→Prop),Q1 () s1→wpAny (model P w) A (g b) Q1 E s1) {a : Addr} {ob : Obj} {es : Array (Int × Value)} {ep : Nat} {t : SetTable}
    (ho : s.heap.get? a = some ob) (hex : ob.ExactSet) (hd : ob.data = .set es ep t) {led : Bool} {ks : List Int} {es1 : Array (Int × Value)} {t2 : SetTable} {ns : List Int} (hel : ElemsOf (intKind P w) es1.toList)
    (hi : IntsAre (es1.toList.map (·.2)) ns) (nd : ns.Nodup) (hm : ∀ k,k ∈ ns ↔ k ∈ ks) (hb : es1.size < scanBound) (hf : t2.fits es1.size = true) (hT : Tab led t2) {wd : Bool} {R : Option Bool→Shared→Prop}
    (h : ∀ h',Heap.SameBut a s.heap h'→SetI P w h' a led ks→R (some true) { s with heap:=h' }) :
    wpAny (model P w) A (storeSet a es1 t2 >>= fun _=>if (!wd && t2.tooFull) = true then (g (relayAll t2 es1 (SetTable.grown es1.size)).2.2 >>= fun _ =>
      storeSet a (relayAll t2 es1 (SetTable.grown es1.size)).1 (relayAll t2 es1 (SetTable.grown es1.size)).2.1 >>= fun _=>pure (some true)) else pure (some true)) R E s:=by
  refine wpAny_bind (wpAny_storeSet_of ho hd ?_ (fits_of_scanBound hb))
  have g1:=stored ho hd es1 t2
  have sb:=Heap.SameBut.update s.heap a (Obj.putSet es1 t2)
  have S1 : SetI P w (s.heap.update a (Obj.putSet es1 t2)) a led ks:=⟨_,es1,ep + 1,t2,ns,g1,hex,rfl,hel,hi,nd,hm,hb,hf,hT⟩
  by_cases hc : (!wd && t2.tooFull) = true
  · rw [if_pos hc]
    have pm:=relayAll_perm t2 es1 (SetTable.grown es1.size)
    have ft:=relayAll_fits t2 es1 (SetTable.grown es1.size)
    have T3:=hT.relay es1 (SetTable.grown es1.size)
    generalize relayAll t2 es1 (SetTable.grown es1.size) = q at pm ft T3 ⊢
    obtain ⟨es2,t3,gv⟩:=q
    dsimp only at pm ft T3 ⊢
    obtain ⟨ns2,i2,p2⟩:=eY pm hi
    have sz : es2.size = es1.size:=by rw [← Array.length_toList,pm.length_eq,Array.length_toList]
    have hb2 : es2.size < scanBound:=by omega
    refine wpAny_bind (hg _ _ _ (wpAny_bind (wpAny_storeSet_of g1 rfl ?_ (fits_of_scanBound hb2))))
    have g2:=stored g1 rfl es2 t3
    refine wpAny_pure (h _ (sb.trans (Heap.SameBut.update _ a _)) ⟨_,es2,ep + 1 + 1,t3,ns2,g2,hex,rfl,hel.perm pm,i2,p2.symm.nodup nd,fun k=>(p2.mem_iff).trans (hm k),hb2,ft,T3⟩)
  · rw [if_neg hc]
    exact wpAny_pure (h _ sb S1)
theorem sH {s : Shared} {a : Addr} {led : Bool} {ks : List Int} {k : Int} {tk : Tok} {Q : Bool→Shared→Prop} (S : SetI P w s.heap a led ks) (hroom : ks.length + 1 < scanBound)
    (h : ∀ b h',Heap.SameBut a s.heap h'→SetI P w h' a led (ks ++ [k])→Q b { s with heap:=h' }) :
    wpAny (model P w) A (setAddHashed a (.int k tk) ((intKind P w).hash k)) Q E s:=by
  obtain ⟨ob,es,ep,t,ns,ho,hex,hd,hel,hi,nd,hm,hb,hf,hT⟩:=S
  have hkey : (intKind P w).is k (.int k tk) = true:=intKind_is _ _ _ _
  have hsc : (Value.int k tk).scannable = true:=rfl
  have hsub : ns.length ≤ ks.length:=dG ns ks nd fun x hx=>(hm x).mp hx
  have hes : es.size = ns.length:=by
    have:=hi.length
    rw [List.length_map,Array.length_toList] at this; exact this
  unfold setAddHashed setAddHashedIn
  refine wpAny_holding (wpAny_bind (wpAny_setState_of ho hd hf ?_))
  dsimp only
  rw [byScan_of hsc hb hel]
  simp only [↓reduceIte]
  unfold setAddByScan
  refine wpAny_bind (wpAny_bind (wpAny_rule (wpAny_bind (wpAny_setScan_of hkey ho hd hf hel ?_))))
  cases hr : List.findIdx? (fun e=>(intKind P w).is k e.2) es.toList with
  | some j =>
    dsimp only
    obtain ⟨hj,hpj,_⟩:=List.findIdx?_eq_some_iff_getElem.mp hr
    have hin : k ∈ ns:=(fT (P:=P) (w:=w) hi).mp ⟨es.toList[j],List.getElem_mem hj,hpj⟩
    refine wpAny_pure (wpAny_pure ?_)
    have z:=h false s.heap (Heap.SameBut.refl a s.heap) ⟨ob,es,ep,t,ns,ho,hex,hd,hel,hi,nd,fun x=>?_,hb,hf,hT⟩
    · exact z
    · rw [List.mem_append,List.mem_singleton,hm x]
      exact ⟨.inl,fun q=>q.elim id fun e=>by subst e; exact (hm _).mp hin⟩
  | none =>
    dsimp only
    have hnin : k ∉ ns:=fun hk=>by
      obtain ⟨e,he,q⟩:=(fT (P:=P) (w:=w) hi).mpr hk
      have:=List.findIdx?_eq_none_iff.mp hr e he
      rw [q] at this; cases this
    have hgw : ∀ (b : Bool) (s1 : Shared) (Q1 : Unit→Shared→Prop),Q1 () s1→wpAny (model P w) A (match b with | true=>rule "set.scan.the-table-gave-way" | false=>pure ()) Q1 E s1:=fun b s1 Q1 hq=>by
      cases b
      · exact wpAny_pure hq
      · exact wpAny_rule hq
    have pm:=layNew_perm t es ((intKind P w).hash k) (.int k tk)
    have ft:=layNew_fits t es ((intKind P w).hash k) (.int k tk)
    have T1:=hT.layNew es ((intKind P w).hash k) (.int k tk)
    generalize layNew t es ((intKind P w).hash k) (.int k tk) = q at pm ft T1 ⊢
    obtain ⟨es1,t1,wd,gv⟩:=q
    dsimp only at pm ft T1 ⊢
    rw [Array.toList_push] at pm
    have hel1 : ElemsOf (intKind P w) es1.toList:=(hel.push hkey hsc).perm pm
    obtain ⟨ns1,i1,p1⟩:=eY pm (ns:=ns ++ [k]) (by rw [List.map_append]; exact jw hi)
    have nd1 : ns1.Nodup:=p1.symm.nodup (List.nodup_append.mpr ⟨nd,by simp,fun x hx y hy=>by
      have : y = k:=by simpa using hy
      subst this
      exact fun e=>hnin (e ▸ hx)⟩)
    have hm1 : ∀ x,x ∈ ns1 ↔ x ∈ ks ++ [k]:=fun x=>by rw [p1.mem_iff,List.mem_append,List.mem_append,hm x]
    have sz1 : es1.size = es.size + 1:=by rw [← Array.length_toList,pm.length_eq,List.length_append,Array.length_toList]; rfl
    have hb1 : es1.size < scanBound:=by omega
    refine wpAny_bind (hgw _ _ _ ?_)
    have fin : ∀ h',Heap.SameBut a s.heap h'→SetI P w h' a led (ks ++ [k])→Q true { s with heap:=h' }:=fun h' sb S'=>h true h' sb S'
    split
    · refine wpAny_bind ?_
      rw [hashByValue_scannable 8 hsc]
      refine wpAny_pure ?_
      have e1 : plainKind (Value.int k tk) = true:=rfl
      rw [e1]
      refine kY (g:=fun b=>match b with | true=>rule "set.scan.the-table-gave-way" | false=>pure ()) hgw ho hex hd hel1 i1 nd1 hm1 hb1 ft T1 fun h' sb S'=>?_
      exact wpAny_pure (fin h' sb S')
    · refine wpAny_bind (wpAny_pure ?_)
      refine kY (g:=fun b=>match b with | true=>rule "set.scan.the-table-gave-way" | false=>pure ()) hgw ho hex hd hel1 i1 nd1 hm1 hb1 ft T1 fun h' sb S'=>?_
      exact wpAny_pure (fin h' sb S')
end
end L2
namespace PySem
section
variable {prog : Program} {w : World} {A : Around} {E : Value→Shared→Prop} {s : Shared}
theorem kQ (v : Value) {Qn : Value→Shared→Prop}
    (h : Qn (.ref s.heap.objs.size) { s with heap:=s.heap.push { cls:=.type "set",dict:=none,data:=.set #[] 0 (.fresh 0 0 (!w.params.followText "set-order")) } }) :
    codeAny (model prog w) A (.call (.builtin "set.__new__") ⟨[.type "set",v],[]⟩) (wants Qn E) s:=by
  refine codeAny_of_tree ?_
  show wpAny _ A.in1 (checkBuiltinCall "set.__new__" ⟨[.type "set",v],[]⟩ >>= fun _=>again (.builtin "set.__new__" ⟨[.type "set",v],[]⟩)) _ _ s
  refine wpAny_bind (wpAny_of_eq (F.newCall_set_1 v) (wpAny_pure ⟨plainId_quiet F.plain_set_new _,codeAny_builtin F.entry_set_new ?_⟩))
  rw [Around.under_plainId F.plain_set_new _]
  unfold Builtin.«set.__new__» Builtin.Frozenset.newClass
  have hsub:=sub_set_self
  obtain ⟨hp,g,d,tk,os⟩:=s
  dsimp only
  wp_walk
  refine wpAny_askSetting (wpAny_pure ?_)
  dsimp only
  simp only [newObj]
  refine wpAny_bind (wpAny_alloc (wpAny_pure ?_))
  exact wpAny_pure h
end
end PySem
namespace L2
open PySem PySem.Spec PyProof.Rows
section
variable {P : Program} {w : World} {A : Around} {R : Result→Shared→Prop} {I : Addr} {fp wr : List Addr} {G : Array GenState→Array GenState→Prop} {n : Nat} {Pv : Nat→Value→Prop} {St : Nat→Shared→Prop}
theorem qr (W : WalksS P w A.in1 I fp wr G n Pv St) (a : Addr) (hSf : a ∉ fp) (led : Bool) (val : Nat→Int) (hval : ∀ i v,Pv i v→∃ t,v = .int (val i) t) (hb : n + 1 < scanBound) :
    ∀ (k i : Nat) (s : Shared),n - i = k→i ≤ n→St i s→SetI P w s.heap a led ((List.range i).map val) →
      (∀ s',Moved (a :: wr) G s s'→SetI P w s'.heap a led ((List.range n).map val)→R (.ok (.ret .none)) s') →
      codeAny (model P w) A (.builtin "set.update.loop" ⟨[.ref a,.ref I],[]⟩) R s:=by
  have hSw : a ∉ wr:=fun h=>hSf (W.sub _ h)
  have hsub : ∀ b ∈ wr,b ∈ a :: wr:=fun b hb=>List.mem_cons_of_mem _ hb
  intro k
  induction k with
  | zero =>
    intro i s hk hi hst hS hR
    obtain rfl : i = n:=by omega
    refine codeAny_builtin F.entry_set_update_loop ?_
    rw [Around.under_plainId F.plain_set_update_loop _]
    show wpAny _ A.in1 (pyNext (.ref I) >>= _) _ _ s
    refine wpAny_bind (W.done s _ _ hst fun s' hm=>?_)
    show wpAny _ A.in1 (ret Value.none) _ _ s'
    exact wpAny_pure (hR s' (hm.mono hsub) (hS.keep fun o e=>hm.heap a o hSw e))
  | succ k ih =>
    intro i s hk hi hst hS hR
    have hlt : i < n:=by omega
    refine codeAny_builtin F.entry_set_update_loop ?_
    rw [Around.under_plainId F.plain_set_update_loop _]
    show wpAny _ A.in1 (pyNext (.ref I) >>= _) _ _ s
    refine wpAny_bind (W.item i s _ _ hlt hst fun v s1 hP hst1 hm=>?_)
    obtain ⟨t,rfl⟩:=hval i v hP
    have S1 : SetI P w s1.heap a led ((List.range i).map val):=hS.keep fun o e=>hm.heap a o hSw e
    show wpAny _ A.in1 (holding [Value.int (val i) t] (setAdd a (.int (val i) t)) >>= _) _ _ s1
    refine wpAny_bind (wpAny_holding ?_)
    unfold setAdd
    refine wpAny_holding (wpAny_bind ((intKind P w).pyHash (k:=val i) (intKind_is _ _ _ _) ?_))
    refine sH (s:={ s1 with toks:=s1.toks + 1 }) S1 (by rw [List.length_map,List.length_range]; omega) fun b h2 sb S2=>?_
    have S3 : SetI P w h2 a led ((List.range (i + 1)).map val):=by
      rw [List.range_succ,List.map_append]; exact S2
    refine wpAny_pure ⟨plainId_quiet F.plain_set_update_loop _,ih (i + 1) _ (by omega) hlt (W.frame _ s1 _ _ hst1 (Nat.le_succ _) fun c hc o e=>?_) S3 fun s2 hm2 S4=>?_⟩
    · rw [sb.2 c (fun z : c = a=>hSf (by rw [← z]; exact hc))]; exact e
    · refine hR s2 (Moved.trans W.gtrans ((hm.mono hsub).then_heap (Nat.le_succ _) fun c o hc e=>?_) hm2) S4
      rw [sb.2 c (fun z : c = a=>hc (by rw [z]; exact List.mem_cons_self))]; exact e
end
theorem pP {P : Program} {w : World} {h : Heap} {a : Addr} {led : Bool} (e : h.get? a = some { cls:=.type "set",dict:=none,data:=.set #[] 0 (.fresh 0 0 led) }) : SetI P w h a led [] :=
  ⟨_,#[],0,.fresh 0 0 led,[],e,⟨rfl,rfl,rfl⟩,rfl,fun e he=>by simp at he,.nil,List.nodup_nil,fun k=>Iff.rfl,by decide,rfl,⟨rfl,rfl,List.Pairwise.nil⟩⟩
end L2
namespace PySem
open L2
section
variable {prog : Program} {w : World} {A : Around} {E : Value→Shared→Prop} {s : Shared}
theorem own_set_list {l : Addr} {items : Array Value} {ns : List Int} {Q : Value→Shared→Prop} (hh : A.handled = none) (hl : s.heap.IsList l items) (hi : PyProof.Rows.IntsAre items.toList ns) (hb : items.size + 1 < scanBound)
    (h : ∀ (h' : Heap) (tk : Nat),SetI prog w h' s.heap.objs.size (!w.params.followText "set-order") ((List.range items.size).map fun i=>ns.getD i 0)→(∀ b o,s.heap.get? b = some o→h'.get? b = some o)→Q (.ref s.heap.objs.size) { s with heap:=h',toks:=tk }) :
    wpAny (model prog w) A (call (.type "set") [.ref l]) Q E s:=by
  obtain ⟨cc,tl,hmro⟩:=F.called_set.mro
  have hmade:=F.called_set.made
  have hsub:=F.called_set.sub
  refine wpAny_call (codeAny_of_tree ?_)
  show wpAny _ _ (callAny (.type "set") _) _ _ _
  refine wpAny_pure ⟨Code.quiet_builtin _ (by decide +kernel),codeAny_builtin F.entry_type_call ?_⟩
  rw [Around.under_plain (weight_type_call_type "set" [.ref l] []) rfl]
  have hnt:=F.called_set.notType
  have hcc:=F.called_set.canCreate
  have hct:=F.typeCall_set_1 (.ref l)
  repeat (any_goals (first | assumption | wp_step))
  refine codeAny_mono (kQ (.ref l) (E:=E) (Qn:=fun ob s1=>ob = .ref s.heap.objs.size∧s1 = { s with heap:=s.heap.push { cls:=.type "set",dict:=none,data:=.set #[] 0 (.fresh 0 0 (!w.params.followText "set-order")) } }) ⟨rfl,rfl⟩) fun r s1 hr=>?_
  generalize hled : (!w.params.followText "set-order") = led at hr h
  cases r with
  | error e=>exact hr
  | ok fl =>
    cases fl with
    | ret ob =>
      obtain ⟨rfl,rfl⟩:=hr
      have hS : (s.heap.push { cls:=.type "set",dict:=none,data:=.set #[] 0 (.fresh 0 0 led) }).get? s.heap.objs.size = some { cls:=.type "set",dict:=none,data:=.set #[] 0 (.fresh 0 0 led) }:=Heap.get?_push_size _ rfl
      have hT : Shared.TypeIs { s with heap:=s.heap.push { cls:=.type "set",dict:=none,data:=.set #[] 0 (.fresh 0 0 led) } } (.ref s.heap.objs.size) "set":=⟨_,hS,rfl⟩
      have hli:=F.called_set.init.lookup
      have hbi:=F.called_set.init.bind (.ref s.heap.objs.size)
      repeat (any_goals (first | assumption | wp_step))
      refine codeAny_mono (codeAny_call_builtin (R:=wants (fun r s2=>r = .none∧∃ h' tk,s2 = { s with heap:=h',toks:=tk }∧SetI prog w h' s.heap.objs.size led ((List.range items.size).map fun i=>ns.getD i 0) ∧
          (∀ b o,s.heap.get? b = some o→h'.get? b = some o)) E) F.called_set.init.plain F.entry_set_init (check_set_init_1 hT ?_)) fun r2 s2 hr2=>?_
      · obtain ⟨ol,hol,hcl,nl,hdl⟩:=hl
        obtain ⟨ocls,odict,odata,oslots⟩:=ol
        simp only at hcl hdl
        subst hcl; subst hdl
        have hol' : (s.heap.push { cls:=.type "set",dict:=none,data:=.set #[] 0 (.fresh 0 0 led) }).get? l = some { cls:=.type "list",dict:=odict,data:=.seq items nl,slots:=oslots }:=Heap.get?_push_of_some _ hol
        have hsls:=F.sub_list_set
        have hslf:=F.sub_list_frozenset
        have hnd : (Value.type "list" == Value.type "dict") = false:=by decide
        have hl1 : (s.heap.push { cls:=.type "set",dict:=none,data:=.set #[] 0 (.fresh 0 0 led) }).IsList l items:=⟨_,hol',rfl,nl,rfl⟩
        unfold Builtin.«set.__init__» noKeywords Builtin.Frozenset.updateFrom
        generalize hPI : pyIter = PI
        wp_walk
        subst hPI
        refine wpAny_pyIter_list hl1 ?_
        refine wpAny_bind (wpAny_runValue ?_)
        have hlS : l < s.heap.objs.size:=Heap.lt_size hol
        have hh3 : A.in1.in1.in1.handled = none:=by simp [hh]
        have hsz : (s.heap.push { cls:=.type "set",dict:=none,data:=.set #[] 0 (.fresh 0 0 led) }).objs.size = s.heap.objs.size + 1:=Heap.size_push ..
        have hneI : l ≠ (s.heap.push { cls:=.type "set",dict:=none,data:=.set #[] 0 (.fresh 0 0 led) }).objs.size:=by rw [hsz]; exact Nat.ne_of_lt (Nat.lt_succ_of_lt hlS)
        have hSf : s.heap.objs.size ∉ [(s.heap.push { cls:=.type "set",dict:=none,data:=.set #[] 0 (.fresh 0 0 led) }).objs.size,l]:=by
          rw [hsz]
          intro z
          rcases List.mem_cons.mp z with z | z
          · exact absurd z (Nat.ne_of_lt (Nat.lt_succ_self _))
          · exact absurd (List.mem_singleton.mp z) (Nat.ne_of_gt hlS)
        have hval : ∀ (i : Nat) (v : Value),items[i]? = some v→∃ t,v = .int ((fun i=>ns.getD i 0) i) t:=fun i v hv=>PyProof.Rows.IntsAre.int_at hi i v (by rw [Array.getElem?_toList]; exact hv)
        refine qr ((Walks.list hh3 _ l hneI items).toS) s.heap.objs.size hSf led (fun i=>ns.getD i 0) hval hb (items.size - 0) 0 _ (by omega) (Nat.zero_le _) ⟨⟨_,Heap.get?_push_size _ rfl,rfl,rfl⟩,hl1.push _⟩ ?hS0 ?hR
        case hS0=>exact pP (Heap.get?_push_of_some _ hS)
        case hR =>
          intro s' hm hS'
          obtain ⟨h',g',d',tk',os'⟩:=s'
          have eg : g' = s.gens:=hm.gens
          have ed : d' = s.drawn:=hm.drawn
          have eo : os' = s.os:=hm.os
          subst eg; subst ed; subst eo
          show wpAny _ _ _ _ _ _
          refine wpAny_pure ?_
          show wpAny _ _ (ret Value.none) _ _ _
          refine wpAny_pure ⟨rfl,h',tk',rfl,hS',fun b o e=>hm.heap b o (fun z=>?_) (Heap.get?_push_of_some _ (Heap.get?_push_of_some _ e))⟩
          have hlt:=Heap.lt_size e
          rcases List.mem_cons.mp z with z | z
          · exact absurd z (Nat.ne_of_lt hlt)
          · have z':=List.mem_singleton.mp z
            rw [hsz] at z'
            exact absurd z' (Nat.ne_of_lt (Nat.lt_succ_of_lt hlt))
      · cases r2 with
        | error e=>exact hr2
        | ok fl2 =>
          cases fl2 with
          | ret r =>
            obtain ⟨rfl,h',tk,rfl,hS',hk'⟩:=hr2
            repeat (any_goals (first | assumption | wp_step))
            exact h _ _ hS' hk'
          | _=>exact hr2.elim
    | _=>exact hr.elim
end
end PySem
namespace PySem.F
end PySem.F
namespace L2
open PySem PySem.Spec PyProof.Rows
section
variable {P : Program} {w : World} {A : Around} {E : Value→Shared→Prop} {s : Shared}
end
section
variable {P : Program} {w : World} {A : Around} {E : Value→Shared→Prop} {s : Shared}
end
section
variable {P : Program} {w : World} {A : Around} {E : Value→Shared→Prop} {s : Shared}
theorem px {α : Type} (d : α) (L : List α) : (List.range L.length).map (fun p=>L.getD p d) = L:=by
  refine List.ext_getElem? fun i=>?_
  by_cases h : i < L.length
  · simp [List.getD,h]
  · rw [List.getElem?_eq_none (by simp; omega),List.getElem?_eq_none (by omega)]
end
section
variable {P : Program} {w : World} {A : Around} {E : Value→Shared→Prop} {s : Shared}
end
theorem eO (ns : List Int) : (ns.map V.int).all fz = true:=by rw [List.all_eq_true]; intro v hv; obtain ⟨i,_,rfl⟩:=List.mem_map.mp hv; rfl
theorem er (x : Int) (ns : List Int) : inV (.int x) (ns.map V.int) = decide (x ∈ ns):=by
  unfold inV
  rw [List.any_map,Bool.eq_iff_iff,decide_eq_true_iff,List.any_eq_true]
  constructor
  · rintro ⟨y,hy,e⟩
    have : y = x:=by simpa [eqV] using e
    exact this ▸ hy
  · intro h
    exact ⟨x,h,by simp [eqV]⟩
theorem eP {ns : List Int} {i : Nat} {x : V} (h : (ns.map V.int)[i]? = some x) : ∃ z,ns[i]? = some z∧x = .int z:=by
  rw [List.getElem?_map] at h
  cases e : ns[i]? with
  | none=>rw [e] at h; cases h
  | some z=>rw [e] at h; exact ⟨z,rfl,(Option.some.inj h).symm⟩
theorem d8 {n m : Nat} (h : n ≤ m) (hm : m + 1 ≤ 1000000:=by decide) : n < sizeLine:=bW (n:=n + 1) (m:=m + 1) (Nat.succ_le_succ h) hm
theorem iU {xs : List Int} {i : Nat} {z : Int} (h : xs[i]? = some z) {x : Int} : x ∈ xs.take (i + 1) ↔ x ∈ xs.take i ∨ x = z:=by
  rw [List.take_add_one,h]; simp
def del (H : Hp) (g : Addr) : Hp:=fun b=>if b = g then none else H b
theorem cw {H : Hp} {g b : Addr} (h : b ≠ g) : del H g b = H b:=if_neg h
theorem ng {H : Hp} {g : Addr} {o : HO} : del (upd H g o) g = del H g:=by
  funext b
  by_cases e : b = g
  · unfold del; rw [if_pos e,if_pos e]
  · rw [cw e,cw e,ar e]
theorem kH (H : Hp) (g : Addr) : Same (del H g) H:=fun b o e=>by
  by_cases q : b = g
  · unfold del at e; rw [if_pos q] at e; cases e
  · rw [cw q] at e; exact e
theorem ko {H H' : Hp} (s : Same H H') (g : Addr) : Same (del H g) (del H' g):=fun b o e=>by
  by_cases q : b = g
  · unfold del at e; rw [if_pos q] at e; cases e
  · rw [cw q] at e; rw [cw q]; exact s b o e
def pV (H H2 : Hp) (g : Addr) : Hp:=cQ H (del H2 g)
structure Bld {α : Type} (R : Rel α) (H H2 : Hp) (g : Addr) (xs : List α) : Prop where
  g0 : H g = none
  s : Same H H2
  ex : ∃ vs,H2 g = some (.lst vs)∧Paired (R (pV H H2 g)) xs vs
section
variable {α : Type} {R : Rel α} {H H1 H2 H3 : Hp} {g : Addr} {xs : List α}
theorem Bld.start (s : Same H H1) (h : H1 g = none) : Bld R H (upd H1 g (.lst [])) g []:=⟨s.free h,s.trans (ag h _),[],ae,.nil⟩
theorem Bld.go (m : MonoR R) (b : Bld R H H2 g xs) (s : Same H2 H3) : Bld R H H3 g xs:=by
  obtain ⟨g0,s0,vs,h,p⟩:=b
  exact ⟨g0,s0.trans s,vs,s _ _ h,aH m (dA (Same.refl _) (ko s g)) p⟩
theorem Bld.push (m : MonoR R) (b : Bld R H H2 g xs) (s : Same H2 H3) {x : α} {v : V} (r : R (cQ H2 H3) x v) : ∃ vs,H3 g = some (.lst vs)∧vs.length = xs.length∧Bld R H (upd H3 g (.lst (vs ++ [v]))) g (xs ++ [x]):=by
  have b3:=b.go m s
  obtain ⟨g0,s0,vs,h,p⟩:=b3
  refine ⟨vs,h,p.length.symm,g0,s0.put g0 _,vs ++ [v],ae,?_⟩
  have e : pV H (upd H3 g (.lst (vs ++ [v]))) g = pV H H3 g:=by unfold pV; rw [ng]
  rw [e]
  refine Paired.app p (.cons (m.up (fun c o q=>?_) r) .nil)
  have hc2 : H2 c = none:=by
    cases z : H2 c with
    | none=>rfl
    | some u=>rw [i8 z] at q; cases q
  rw [ce hc2] at q
  have hcg : c ≠ g:=fun z=>by subst z; rw [b.ex.choose_spec.1] at hc2; cases hc2
  unfold pV
  rw [ce (b.s.free hc2),cw hcg]; exact q
theorem Bld.done (m : MonoR R) (b : Bld R H H2 g xs) : d4 R (cQ H H2) xs (.ref g):=by
  obtain ⟨g0,s0,vs,h,p⟩:=b
  exact ⟨g,vs,rfl,by rw [ce g0]; exact h,aH m (dA (Same.refl _) (kH _ _)) p⟩
theorem Bld.sq (b : Bld R H H2 g xs) : ∃ vs,H2 g = some (.lst vs)∧vs.length = xs.length:=by
  obtain ⟨vs,h,p⟩:=b.ex
  exact ⟨vs,h,p.length.symm⟩
end
theorem gG {H H1 H2 : Hp} (s : Same H1 H2) : Same (cQ H H1) (cQ H H2):=dA (Same.refl _) s
theorem sK {H H1 H2 : Hp} (s : Same H H1) : Same (cQ H1 H2) (cQ H H2):=dA s (Same.refl _)
theorem qe {H H' : Hp} {p : Addr} {ns : List Int} (h : H p = none) (h' : H' p = some (.lst (ns.map V.int))) : d4 cu (cQ H H') ns (.ref p):=rLst_ints.mpr ⟨p,rfl,by rw [ce h]; exact h'⟩
abbrev Row:=Int × Int × List Int
abbrev nR : Rel Row:=rT3 cu cu (d4 cu)
abbrev cL : Rel (List Row):=d4 nR
theorem ek : MonoR nR:=rW bg bg (bw bg)
theorem mono_game : MonoR cL:=bw ek
theorem nq {H : Hp} {r : Row} {v : V} (h : nR H r v) : ∃ t wa,v = .ref t∧H t = some (.tup [.int r.1,.int r.2.1,.ref wa])∧H wa = some (.lst (r.2.2.map V.int)):=by
  obtain ⟨t,x,y,z,rfl,h1,h2,h3,h4⟩:=h
  obtain ⟨wa,rfl,h5⟩:=rLst_ints.mp h4
  cases h2; cases h3
  exact ⟨t,wa,rfl,h1,h5⟩
theorem mh {H H1 : Hp} {h r : Int} {ws : List Int} {wa t : Addr} (s : Same H H1) (h1 : H wa = none) (h2 : H1 wa = some (.lst (ws.map V.int))) (ht : H1 t = none) : nR (cQ H (upd H1 t (.tup [.int h,.int r,.ref wa]))) (h,r,ws) (.ref t):=by
  refine ⟨t,_,_,_,rfl,?_,rfl,rfl,qe h1 ?_⟩
  · rw [ce (s.free ht),ae]
  · rw [ar (aC h2 ht)]; exact h2
theorem bY {H : Hp} {G : List Row} {v : V} (h : cL H G v) : ∃ g vs,v = .ref g∧H g = some (.lst vs)∧vs.length = G.length ∧
    ∀ (i : Nat) (r : Row),G[i]? = some r→∃ t wa,vs[i]? = some (.ref t)∧H t = some (.tup [.int r.1,.int r.2.1,.ref wa])∧H wa = some (.lst (r.2.2.map V.int)):=by
  obtain ⟨g,vs,rfl,h1,p⟩:=h
  refine ⟨g,vs,rfl,h1,p.length.symm,fun i r hr=>?_⟩
  obtain ⟨y,hy,ry⟩:=Paired.at p hr
  obtain ⟨t,wa,rfl,h2,h3⟩:=nq ry
  exact ⟨t,wa,hy,h2,h3⟩
theorem sU {vs : List V} {z : Int} {v : V} (h0 : 0 ≤ z) (h : vs[z.toNat]? = some v) : atI vs z = some v:=by
  have:=aj h
  rwa [Int.toNat_of_nonneg h0] at this
section
variable {X : Cx} {K : PySem.W.Frag} (hK : X.K = K)
include hK
theorem ixL : IxR X (vd K):=by subst hK; exact sF
theorem ixT : IxR X (uU K):=by subst hK; exact uc
theorem gM : OpR X (compareOp .NotIn) (rIn K true):=by subst hK; exact jB
theorem bI : dg X (.builtin "len") (fun xs H Q=>∃ p ys,xs = [.ref p]∧(SqL K H p ys ∨ SqT K H p ys)∧Q (.int ys.length) H):=by subst hK; exact j5
theorem lK : dg X (.type "list") (fun xs H Q=>∃ p ys,xs = [.ref p]∧(SqL K H p ys ∨ SqT K H p ys)∧∀ l,H l = none→Q (.ref l) (upd H l (.lst ys))):=by subst hK; exact j1
theorem fX {T : String} : dg X (.builtin "isinstance") (fun xs H Q=>∃ x S b,xs = [x,.ty T]∧kindV H x S∧PySem.W.kitOne K (.type S) (.type T) = some b∧Q (.bl b) H):=by subst hK; exact pf
theorem vS {x y z : Str} {p1 p2 p3 pos : Pos} {k : Nat} (hc : X.calm = true) (hN : X.N.Nodup) (h0 : X.N[0]? = some x) (h1 : X.N[1]? = some y) (h2 : X.N[2]? = some z) (hx : X.env.scope.names.lookup x = some .local) (hy : X.env.scope.names.lookup y = some .local)
    (hz : X.env.scope.names.lookup z = some .local) : PTg X 3 (.Tuple [.Name x p1,.Name y p2,.Name z p3] k pos) (iy K 3):=by subst hK; exact pN hc hN h0 h1 h2 hx hy hz
theorem nB {x y : Str} {p1 p2 pos : Pos} {k : Nat} (hc : X.calm = true) (hN : X.N.Nodup) (h0 : X.N[0]? = some x) (h1 : X.N[1]? = some y) (hx : X.env.scope.names.lookup x = some .local) (hy : X.env.scope.names.lookup y = some .local) :
    PTg X 2 (.Tuple [.Name x p1,.Name y p2] k pos) (iy K 2):=by subst hK; exact oE hc hN h0 h1 hx hy
end
theorem aP {K : PySem.W.Frag} {a : Addr} {xs : List V} {tt : TTg} {tc : TT} {te : TE} {cap : List Nat} {σ : St} {H : Hp} {D : Addr→List V→Hp→Prop} (Pv : Nat→List V→Hp→Prop) (h0 : Pv 0 [] H) (hz : xs.length ≤ sizeLine) (hl : ∀ i ys H,i ≤ xs.length→Pv i ys H→SqL K H a xs∧ys.length ≤ i)
    (hs : ∀ i x ys H,xs[i]? = some x→Pv i ys H→tt x H fun ws=>tc (ws.map some ++ aT σ cap) H fun b H4=>if b = true then te (ws.map some ++ aT σ cap) H4 fun y H5=>Pv (i + 1) (ys ++ [y]) H5 else Pv (i + 1) ys H4)
    (hd : ∀ ys H,Pv xs.length ys H→∀ p,H p = none→D p ys H) :
    ∃ W : Nat→Nat→List V→Hp→Prop,(∃ m,W 0 m [] H)∧∀ i m ys H2,W i m ys H2 →
    ((Itl K a).stop i H2∧ys.length ≤ sizeLine∧∀ p,H2 p = none→D p ys H2) ∨
    ((Itl K a).go i H2∧∃ N : List V→Hp→Prop,(∀ ys' H',N ys' H'→ys'.length ≤ sizeLine∧∃ m',m' < m∧W (i + 1) m' ys' H') ∧
      ∀ x H3,(Itl K a).yld i H2 x H3→tt x H3 fun ws=>tc (ws.map some ++ aT σ cap) H3 fun b H4 =>
        if b = true then te (ws.map some ++ aT σ cap) H4 fun y H5=>N (ys ++ [y]) H5 else N ys H4):=by
  refine ⟨fun i m ys H=>m = xs.length - i∧i ≤ xs.length∧Pv i ys H,⟨xs.length,by simp,Nat.zero_le _,h0⟩,?_⟩
  rintro i m ys H2 ⟨rfl,hi,p⟩
  obtain ⟨q,hy⟩:=hl i ys H2 hi p
  by_cases hlt : i < xs.length
  · refine .inr ⟨⟨xs,xs[i],q,by simp [hlt]⟩,Pv (i + 1),fun ys' H' r=>?_,fun x H3 y=>?_⟩
    · obtain ⟨_,h2⟩:=hl (i + 1) ys' H' hlt r
      exact ⟨by omega,xs.length - (i + 1),by omega,rfl,hlt,r⟩
    · obtain ⟨e,y⟩:=y
      subst e
      exact hs i x ys _ (y xs q) p
  · have e : i = xs.length:=by omega
    subst e
    exact .inl ⟨⟨xs,q,Nat.le_refl _⟩,by omega,hd ys H2 p⟩
theorem ki {lo : Int} {n : Nat} {tt : TTg} {tc : TT} {te : TE} {cap : List Nat} {σ : St} {H : Hp} {D : Addr→List V→Hp→Prop} (Pv : Nat→List V→Hp→Prop) (h0 : Pv 0 [] H) (hz : n ≤ sizeLine) (hl : ∀ i ys H,i ≤ n→Pv i ys H→ys.length ≤ i)
    (hs : ∀ i ys H,i < n→Pv i ys H→tt (.int (lo + i)) H fun ws=>tc (ws.map some ++ aT σ cap) H fun b H4=>if b = true then te (ws.map some ++ aT σ cap) H4 fun y H5=>Pv (i + 1) (ys ++ [y]) H5 else Pv (i + 1) ys H4)
    (hd : ∀ ys H,Pv n ys H→∀ p,H p = none→D p ys H) :
    ∃ W : Nat→Nat→List V→Hp→Prop,(∃ m,W 0 m [] H)∧∀ i m ys H2,W i m ys H2 →
    ((Itr lo n).stop i H2∧ys.length ≤ sizeLine∧∀ p,H2 p = none→D p ys H2) ∨
    ((Itr lo n).go i H2∧∃ N : List V→Hp→Prop,(∀ ys' H',N ys' H'→ys'.length ≤ sizeLine∧∃ m',m' < m∧W (i + 1) m' ys' H') ∧
      ∀ x H3,(Itr lo n).yld i H2 x H3→tt x H3 fun ws=>tc (ws.map some ++ aT σ cap) H3 fun b H4 =>
        if b = true then te (ws.map some ++ aT σ cap) H4 fun y H5=>N (ys ++ [y]) H5 else N ys H4):=by
  refine ⟨fun i m ys H=>m = n - i∧i ≤ n∧Pv i ys H,⟨n,by simp,Nat.zero_le _,h0⟩,?_⟩
  rintro i m ys H2 ⟨rfl,hi,p⟩
  have hy:=hl i ys H2 hi p
  by_cases hlt : i < n
  · refine .inr ⟨hlt,Pv (i + 1),fun ys' H' r=>?_,fun x H3 y=>?_⟩
    · have h2:=hl (i + 1) ys' H' hlt r
      exact ⟨by omega,n - (i + 1),by omega,rfl,hlt,r⟩
    · obtain ⟨e,y⟩:=y
      subst e; subst y
      exact hs i ys _ hlt p
  · have e : i = n:=by omega
    subst e
    exact .inl ⟨Nat.le_refl _,by omega,hd ys H2 p⟩
theorem Inv.turnedL {X : Cx} {pins : List (Addr × Obj)} {σ : St} {H : Hp} {s : Shared} {h' : Heap} {t' : Nat} {ch : List Addr} (I : Inv X pins σ H s) (hf : ∀ b ∈ ch,FpOk X pins H b) (k : ∀ b o,b ∉ ch→s.heap.get? b = some o→h'.get? b = some o) :
    Inv X pins σ H { s with heap:=h',toks:=t' }:=by
  have nit : ∀ b u,H b = some u→b ∉ ch:=fun b u e z=>by rw [(hf b z).1] at e; cases e
  refine I.step (g':=s.gens) (d':=s.drawn) (ch:=ch) (fun b hb=>?_) (fun b o _ _ hc e _=>k b o hc e) (fun b o _ _ hc e _=>⟨o.slots,k b o hc e⟩) (fun _ _ _ _ n=>n)
    (fun b o hc e=>⟨o,k b o hc e⟩) (fun _ _ e=>e) (fun _ _ _ e=>e) (fun b ps e=>⟨#[],by rw [e]; simp⟩) (fun m hm=>?_) (fun b u e=>?_) I.bare
  · obtain ⟨_,h1,_,h3,h4,h5⟩:=hf b hb
    exact ⟨h3,h1,h4,h5⟩
  · obtain ⟨o,es,ep,ho,r⟩:=hm
    exact ⟨o,es,ep,k _ o (fun z=>(hf _ z).2.1 rfl) ho,r⟩
  · refine (I.hok b u e).stay (fun c v hc q=>k c v ?_ q) (fun _ q=>q) fun _ _ q=>q
    rcases hc with z | z
    · rw [z]; exact nit b u e
    · exact nit c _ z
theorem Inv.adopt {X : Cx} {pins : List (Addr × Obj)} {σ : St} {H : Hp} {s : Shared} {T : Addr} {o : HO} (I : Inv X pins σ H s) (hf : FpOk X pins H T) (new : ObjOk X.prog X.w (upd H T o) s.heap T o) : Inv X pins σ (upd H T o) s:=by
  obtain ⟨h0,h1,h2,h3,h4,h5⟩:=hf
  refine I.step (h':=s.heap) (g':=s.gens) (d':=s.drawn) (t':=s.toks) (ch:=[T]) (fun b hb=>?_) (fun b u _ _ _ e _=>e) (fun b u _ _ _ e _=>⟨u.slots,e⟩) (fun b u hc e n=>?_)
    (fun b u _ e=>⟨u,e⟩) (fun b xs e=>?_) (fun b u v e=>?_) (fun b ps e=>⟨#[],?_⟩) (fun m hm=>hm) (I.hok.adopt h0 new) I.bare
  · have e : b = T:=by simpa using hb
    subst e
    exact ⟨h3,h1,h4,h5⟩
  · rw [ar (fun z=>hc (by simp [z]))]; exact n
  · rw [ar (aC e h0)]; exact e
  · rw [ar (aC e h0)]; exact e
  · rw [ar (aC e h0),e]; simp
def Ite (K : PySem.W.Frag) (a : Addr) : It :=
  ⟨fun i H=>∃ xs x,SqL K H a xs∧xs[i]? = some x,fun i H v H'=>∃ T x,v = .ref T∧H T = none∧(∀ xs,SqL K H a xs→xs[i]? = some x)∧H' = upd H T (.tup [.int (i : Nat),x]),fun i H=>∃ xs,SqL K H a xs∧xs.length ≤ i⟩
theorem nM {P : Program} {w : World} {K : PySem.W.Frag} {elts : List Expr} {k : Nat} {pos : Pos} (a e it : Addr) (hne : e ≠ it) : Turn P w K (.Tuple elts k pos) (Ite K a) [e,it] e (fun i h=>(∃ old,IsEnum h e it (i : Nat) old)∧h.IsListIter it a i) where
  mem:=by simp
  obj := fun i h st b hb=>by
    obtain ⟨⟨old,s1⟩,o,e1,c,d⟩:=st
    rcases List.mem_cons.mp hb with z | z
    · subst z
      exact ⟨_,s1,fun v z=>by cases z⟩
    · have z : b = it:=by simpa using z
      subst z
      exact ⟨o,e1,fun v z=>by rw [d] at z; cases z⟩
  keep:=fun i h h' st k=>⟨by obtain ⟨⟨old,s1⟩,_⟩:=st; exact ⟨old,k e (by simp) _ s1⟩,st.2.at fun o q=>k it (by simp) o q⟩
  item:=by
    intro X hP hw hK hc i pins s σ H E I hf st hg
    subst hP hw hK
    obtain ⟨xs,x,hq,hx⟩:=hg
    obtain ⟨its,rv,p,hz⟩:=I.list hq
    obtain ⟨u,hu,ru⟩:=rv.get hx
    obtain ⟨⟨old,s1⟩,s2⟩:=st
    have le : e < s.heap.objs.size:=Heap.lt_size s1
    refine wpAny_pyNext_enum_item s1 s2 p.isList (x:=u) (by simpa using hu) hne fun h' ho hi' ht hsz kp=>?_
    refine ⟨_,rfl,wpAny_letOwnedTupleGo_enum ho fun h2 he2 sb=>?_⟩
    have I1 : Inv X pins σ H { s with heap:=h2,toks:=s.toks + 1 }:=I.turnedL (t':=s.toks + 1) (ch:=[e,it]) hf fun b o hb q=>by
      have hbe : b ≠ e:=fun z=>hb (by simp [z])
      have hbi : b ≠ it:=fun z=>hb (by simp [z])
      exact (sb.2 b hbe).trans (kp b o hbe hbi q)
    have hT : h2.get? s.heap.objs.size = some { cls:=.type "tuple",data:=.seq #[Value.int (i : Nat) s.toks,u] }:=(sb.2 _ (Nat.ne_of_gt le)).trans ht
    have hfr : H s.heap.objs.size = none:=I.hok.fresh (Nat.le_refl _)
    have vs2 : Vals [V.int (i : Nat),x] [Value.int (i : Nat) s.toks,u]:=.cons ⟨s.toks,rfl⟩ (.cons ru .nil)
    have I2:=I1.adopt (o:=.tup [.int (i : Nat),x]) (I.fpOk (Nat.le_refl _) hfr) ⟨(by show 2 ≤ sizeLine; decide),[Value.int (i : Nat) s.toks,u],vs2,⟨_,hT,rfl,_,rfl⟩⟩
    have en : IsEnum h2 e it ((i + 1 : Nat) : Int) u:=by
      have e1 : ((i + 1 : Nat) : Int) = ((i : Nat) : Int) + 1:=by omega
      rw [e1]; exact he2
    refine ⟨.ref s.heap.objs.size,_,I2,rfl,⟨_,x,rfl,hfr,fun ys hy=>by rw [I.list_inj hy hq]; exact hx,rfl⟩,⟨⟨u,en⟩,hi'.at fun o q=>(sb.2 it (Ne.symm hne)).trans q⟩,fun b hb=>?_⟩
    rw [ar (fun z=>?_)]
    · exact (hf b hb).1
    · subst z
      rcases List.mem_cons.mp hb with z | z
      · exact absurd z (Nat.ne_of_gt le)
      · have z : s.heap.objs.size = it:=by simpa using z
        obtain ⟨o,q,_⟩:=s2
        exact absurd z (Nat.ne_of_gt (Heap.lt_size q))
  done:=by
    intro X hP hw hK hc i pins s σ H E I hf st hg
    subst hP hw hK
    obtain ⟨xs,hq,hx⟩:=hg
    obtain ⟨its,rv,p,hz⟩:=I.list hq
    obtain ⟨⟨old,s1⟩,s2⟩:=st
    have hl:=rv.length
    refine wpAny_pyNext_enum_end (I.ok.hd hc) s1 s2 p.isList (by simp; omega) fun h' eb=>⟨rfl,?_⟩
    exact I.turnedL (t':=s.toks) (ch:=[it]) (fun b hb=>hf b (List.mem_cons_of_mem _ hb)) fun b o hb q=>eb b o (fun z=>hb (by simp [z])) q
  self:=fun _ _ _ _ _ st h=>wpAny_pyIter_enum st.1.choose_spec h
def uL (K : PySem.W.Frag) (ta : TA) : TI:=fun σ H R=>ta σ H fun vs H1=>∃ a,vs = [.ref a]∧(∃ xs,SqL K H1 a xs)∧R (Ite K a) H1
theorem mJ {X : Cx} {K : PySem.W.Frag} {elts : List Expr} {k : Nat} {tpos : Pos} {l : Expr} {ta : TA} {p pos : Pos} (hK : X.K = K) (hg : Gl X "enumerate") (hm : X.mg "enumerate" = none) (ha : PA X [l] ta) (hs : starEach [l] X.env = [(false,eval l X.env)]:=by rfl) :
    PI X (.Tuple elts k tpos) (.Call (.Name "enumerate" p) [l] [] pos) (uL K ta):=by
  subst hK
  intro pins s σ H R I h
  refine Call_ (c6 I hg hm PyProof.Rows.boot_enumerate (PyProof.Rows.callWith_type1 (thn (ha pos pins s σ H _ I h) fun us s1 hm0=>?_) hs rfl))
  obtain ⟨vs,H1,I1,r1,q1⟩:=hm0
  obtain ⟨a,rfl,⟨xs,hq⟩,q⟩:=q1
  obtain ⟨u,rfl,ru⟩:=de r1
  cases ru
  obtain ⟨its,rv,p,hz⟩:=I1.list hq
  refine call_enumerate_list p.isList fun h' he hi hsz kp=>?_
  refine wpAny_pyIter_enum he ?_
  refine ⟨s1.heap.objs.size + 1,[s1.heap.objs.size + 1,s1.heap.objs.size],_,_,H1,rfl,I1.kept (t':=s1.toks) kp,nM a _ _ (Nat.succ_ne_self _),⟨⟨_,he⟩,hi⟩,fun b hb=>?_,q⟩
  have hb' : s1.heap.objs.size ≤ b:=by
    rcases List.mem_cons.mp hb with z | z
    · rw [z]; exact Nat.le_succ _
    · have z : b = s1.heap.objs.size:=by simpa using z
      rw [z]; exact Nat.le_refl _
  exact I1.fpOk hb' (I1.hok.fresh hb')
theorem kD {K : PySem.W.Frag} {a : Addr} {xs : List V} {g : TG} {tb : TS} {D : Ends} {σ : St} {H : Hp} (Pv : Nat→St→Hp→Prop) (h0 : Pv 0 σ H) (hl : ∀ i σ H,i ≤ xs.length→Pv i σ H→SqL K H a xs)
    (hs : ∀ i x σ H T,xs[i]? = some x→Pv i σ H→H T = none→g (.ref T) σ (upd H T (.tup [.int (i : Nat),x])) fun σ2 H2=>tb { D with nx:=Pv (i + 1),ct:=Pv (i + 1),bk:=D.nx } σ2 H2) (hd : ∀ σ H,Pv xs.length σ H→D.nx σ H) :
    ∃ W : Nat→Nat→St→Hp→Prop,(∃ m,W 0 m σ H)∧∀ i m σ H,W i m σ H →
      ((Ite K a).stop i H∧D.nx σ H) ∨ ((Ite K a).go i H∧∃ N : St→Hp→Prop,(∀ σ' H',N σ' H'→∃ m',m' < m∧W (i + 1) m' σ' H')∧∀ x H',(Ite K a).yld i H x H'→g x σ H' fun σ2 H2=>tb { D with nx:=N,ct:=N,bk:=D.nx } σ2 H2):=by
  refine ⟨fun i m σ H=>m = xs.length - i∧i ≤ xs.length∧Pv i σ H,⟨xs.length,by simp,Nat.zero_le _,h0⟩,?_⟩
  rintro i m σ H ⟨rfl,hi,p⟩
  have q:=hl i σ H hi p
  by_cases hlt : i < xs.length
  · refine .inr ⟨⟨xs,xs[i],q,by simp [hlt]⟩,Pv (i + 1),fun σ' H' p'=>⟨xs.length - (i + 1),by omega,rfl,hlt,p'⟩,fun x H' y=>?_⟩
    obtain ⟨T,z,rfl,hT,y,rfl⟩:=y
    exact hs i z σ _ T (y xs q) p hT
  · have e : i = xs.length:=by omega
    subst e
    exact .inl ⟨⟨xs,q,Nat.le_refl _⟩,hd σ H p⟩
end L2
namespace L2
open PySem
section
variable {H H' : Hp} {r : Addr} {as : List Addr} {Ls : List (List Int)}
end
end L2
namespace L2
open PySem PySem.Spec PyProof.Rows
section
variable {X : Cx}
theorem rp {x : Str} {n : Int} {pos : Pos} (hm : ∃ t,X.mg x = some (.int n t)) (hg : Gl X x:=by rfl) (hd : (x == ("__debug__" : Str)) = false:=by decide) : PE X (.Name x pos) (tC (.int n)):=by
  obtain ⟨t,hm⟩:=hm
  exact se hg hm ⟨t,rfl⟩ hd
end
section
variable {X : Cx}
end
def Itz (K : PySem.W.Frag) (a b : Addr) : It :=
  ⟨fun i H=>∃ xs ys x y,SqL K H a xs∧SqL K H b ys∧xs[i]? = some x∧ys[i]? = some y,
   fun i H v H'=>∃ T x y,v = .ref T∧H T = none∧(∀ xs,SqL K H a xs→xs[i]? = some x)∧(∀ ys,SqL K H b ys→ys[i]? = some y)∧H' = upd H T (.tup [x,y]),
   fun i H=>∃ xs ys,SqL K H a xs∧SqL K H b ys∧(xs.length ≤ i ∨ ys.length ≤ i)⟩
structure ZTurn (a b z TI TO i1 i2 : Addr) (i : Nat) (h : Heap) : Prop where
  zz : IsZip h z TI TO .none
  ti : IsPair h TI (.ref i1) (.ref i2)
  to : ∃ p q,IsPair h TO p q
  s1 : h.IsListIter i1 a i
  s2 : h.IsListIter i2 b i
theorem oO {P : Program} {w : World} {K : PySem.W.Frag} {elts : List Expr} {k : Nat} {pos : Pos} (a b z TI TO i1 i2 : Addr) (ap : ZipApart z TI TO i1 i2 a b) : Turn P w K (.Tuple elts k pos) (Itz K a b) [z,TI,TO,i1,i2] z (ZTurn a b z TI TO i1 i2) where
  mem:=by simp
  obj:=fun i h st c hc=>by
    obtain ⟨zz,ti,⟨p,q,to⟩,⟨o1,e1,c1,d1⟩,⟨o2,e2,c2,d2⟩⟩:=st
    simp only [List.mem_cons,List.not_mem_nil,or_false] at hc
    rcases hc with rfl | rfl | rfl | rfl | rfl
    · exact ⟨_,zz,fun v z=>by cases z⟩
    · exact ⟨_,ti,fun v z=>by cases z⟩
    · exact ⟨_,to,fun v z=>by cases z⟩
    · exact ⟨o1,e1,fun v z=>by rw [d1] at z; cases z⟩
    · exact ⟨o2,e2,fun v z=>by rw [d2] at z; cases z⟩
  keep:=fun i h h' st k=>by
    obtain ⟨zz,ti,⟨p,q,to⟩,s1,s2⟩:=st
    exact ⟨k z (by simp) _ zz,k TI (by simp) _ ti,⟨p,q,k TO (by simp) _ to⟩,s1.at fun o q=>k i1 (by simp) o q,s2.at fun o q=>k i2 (by simp) o q⟩
  item:=by
    intro X hP hw hK hc i pins s σ H E I hf st hg
    subst hP hw hK
    obtain ⟨xs,ys,x,y,hq,hq2,hx,hy⟩:=hg
    obtain ⟨its,rv,p,hz⟩:=I.list hq
    obtain ⟨its2,rv2,p2,hz2⟩:=I.list hq2
    obtain ⟨u,hu,ru⟩:=rv.get hx
    obtain ⟨u2,hu2,ru2⟩:=rv2.get hy
    obtain ⟨zz,ti,⟨pp,qq,to⟩,s1,s2⟩:=st
    have lz : z < s.heap.objs.size:=Heap.lt_size zz
    refine wpAny_pyNext_zip_item ap zz ti to s1 s2 p.isList p2.isList (x:=u) (y:=u2) (by simpa using hu) (by simpa using hu2) fun h' zo to' s1' s2' ht hsz kp=>?_
    refine ⟨_,rfl,wpAny_letOwnedTupleGo_zip zo fun h2 zz2 sb=>?_⟩
    have I1 : Inv X pins σ H { s with heap:=h2 }:=I.turnedL (t':=s.toks) (ch:=[z,TI,TO,i1,i2]) hf fun c o hc q=>by
      simp only [List.mem_cons,List.not_mem_nil,or_false,not_or] at hc
      exact (sb.2 c hc.1).trans (kp c o hc.1 hc.2.2.1 hc.2.2.2.1 hc.2.2.2.2 q)
    have hT : h2.get? s.heap.objs.size = some { cls:=.type "tuple",data:=.seq #[u,u2] }:=(sb.2 _ (Nat.ne_of_gt lz)).trans ht
    have hfr : H s.heap.objs.size = none:=I.hok.fresh (Nat.le_refl _)
    have I2:=I1.adopt (o:=.tup [x,y]) (I.fpOk (Nat.le_refl _) hfr) ⟨(by show 2 ≤ sizeLine; decide),[u,u2],.cons ru (.cons ru2 .nil),⟨_,hT,rfl,_,rfl⟩⟩
    have hti : IsPair h2 TI (.ref i1) (.ref i2):=(sb.2 TI ap.TIz).trans (kp TI _ ap.TIz ap.TITO ap.TIi1 ap.TIi2 ti)
    refine ⟨.ref s.heap.objs.size,_,I2,rfl,⟨_,x,y,rfl,hfr,(fun zs hzs=>by rw [I.list_inj hzs hq]; exact hx),(fun zs hzs=>by rw [I.list_inj hzs hq2]; exact hy),rfl⟩,
      ⟨zz2,hti,⟨u,u2,(sb.2 TO ap.TOz).trans to'⟩,s1'.at fun o q=>(sb.2 i1 ap.i1z).trans q,s2'.at fun o q=>(sb.2 i2 ap.i2z).trans q⟩,fun c hc=>?_⟩
    rw [ar (fun e=>?_)]
    · exact (hf c hc).1
    · subst e
      obtain ⟨o1,e1,_⟩:=s1
      obtain ⟨o2,e2,_⟩:=s2
      simp only [List.mem_cons,List.not_mem_nil,or_false] at hc
      rcases hc with h | h | h | h | h
      · exact absurd h (Nat.ne_of_gt lz)
      · exact absurd h (Nat.ne_of_gt (Heap.lt_size ti))
      · exact absurd h (Nat.ne_of_gt (Heap.lt_size to))
      · exact absurd h (Nat.ne_of_gt (Heap.lt_size e1))
      · exact absurd h (Nat.ne_of_gt (Heap.lt_size e2))
  done:=by
    intro X hP hw hK hc i pins s σ H E I hf st hg
    subst hP hw hK
    obtain ⟨xs,ys,hq,hq2,hx⟩:=hg
    obtain ⟨its,rv,p,hz⟩:=I.list hq
    obtain ⟨its2,rv2,p2,hz2⟩:=I.list hq2
    have hl:=rv.length
    have hl2:=rv2.length
    obtain ⟨zz,ti,⟨pp,qq,to⟩,s1,s2⟩:=st
    refine wpAny_pyNext_zip_end (I.ok.hd hc) ap zz ti to s1 s2 p.isList p2.isList ?_ fun h' kp=>⟨rfl,?_⟩
    · rcases hx with h | h
      · exact .inl (by simp; (clear hc hf hz hz2 hl2; omega))
      · exact .inr (by simp; (clear hc hf hz hz2 hl; omega))
    · exact I.turnedL (t':=s.toks) (ch:=[z,TI,TO,i1,i2]) hf fun c o hc q=>by
        simp only [List.mem_cons,List.not_mem_nil,or_false,not_or] at hc
        exact kp c o hc.1 hc.2.2.1 hc.2.2.2.1 hc.2.2.2.2 q
  self:=fun _ _ _ _ _ st h=>wpAny_pyIter_zip st.zz h
theorem nV (n a b : Nat) (la : a < n) (lb : b < n) : ZipApart (n + 4) (n + 2) (n + 3) n (n + 1) a b:=by
  constructor
  all_goals (intro h; have h' : (_ : Nat) = _:=h; omega)
def vp (K : PySem.W.Frag) (ta : TA) : TI:=fun σ H R=>ta σ H fun vs H1=>∃ a b,vs = [.ref a,.ref b]∧(∃ xs,SqL K H1 a xs)∧(∃ ys,SqL K H1 b ys)∧R (Itz K a b) H1
theorem gY {X : Cx} {K : PySem.W.Frag} {elts : List Expr} {k : Nat} {tpos : Pos} {l l2 : Expr} {ta : TA} {p pos : Pos} (hK : X.K = K) (hg : Gl X "zip") (hm : X.mg "zip" = none) (ha : PA X [l,l2] ta) (hs : starEach [l,l2] X.env = (false,eval l X.env) :: starEach [l2] X.env:=by rfl)
    (hs2 : (backTo pos (starEach [l2] X.env)).any (·.1) = false:=by rfl) :
    PI X (.Tuple elts k tpos) (.Call (.Name "zip" p) [l,l2] [] pos) (vp K ta):=by
  subst hK
  intro pins s σ H R I h
  refine Call_ (c6 I hg hm PyProof.Rows.boot_zip (PyProof.Rows.callWith_type1 (thn (ha pos pins s σ H _ I h) fun us s1 hm0=>?_) hs hs2))
  obtain ⟨vs,H1,I1,r1,q1⟩:=hm0
  obtain ⟨a,b,rfl,⟨xs,hq⟩,⟨ys,hq2⟩,q⟩:=q1
  cases r1 with
  | cons ra rr =>
    cases ra
    obtain ⟨u,rfl,ru⟩:=de rr
    cases ru
    obtain ⟨its,rv,p,hz⟩:=I1.list hq
    obtain ⟨its2,rv2,p2,hz2⟩:=I1.list hq2
    have la : a < s1.heap.objs.size:=by obtain ⟨o,e,_⟩:=p.isList; exact Heap.lt_size e
    have lb : b < s1.heap.objs.size:=by obtain ⟨o,e,_⟩:=p2.isList; exact Heap.lt_size e
    refine call_zip_2 p.isList p2.isList fun h' zz ti to i1 i2 hsz kp=>?_
    refine wpAny_pyIter_zip zz ?_
    refine ⟨s1.heap.objs.size + 4,[s1.heap.objs.size + 4,s1.heap.objs.size + 2,s1.heap.objs.size + 3,s1.heap.objs.size,s1.heap.objs.size + 1],_,_,H1,rfl,I1.kept (t':=s1.toks) kp,oO a b _ _ _ _ _ (nV _ a b la lb),⟨zz,ti,⟨_,_,to⟩,i1,i2⟩,fun c hc=>?_,q⟩
    have hc' : s1.heap.objs.size ≤ c:=by
      simp only [List.mem_cons,List.not_mem_nil,or_false] at hc
      rcases hc with rfl | rfl | rfl | rfl | rfl
      · exact Nat.le_add_right _ _
      · exact Nat.le_add_right _ _
      · exact Nat.le_add_right _ _
      · exact Nat.le_refl _
      · exact Nat.le_add_right _ _
    exact I1.fpOk hc' (I1.hok.fresh hc')
theorem fv {K : PySem.W.Frag} {a b : Addr} {xs ys : List V} {g : TG} {tb : TS} {D : Ends} {σ : St} {H : Hp} (hlen : xs.length = ys.length) (Pv : Nat→St→Hp→Prop) (h0 : Pv 0 σ H) (hl : ∀ i σ H,i ≤ xs.length→Pv i σ H→SqL K H a xs∧SqL K H b ys)
    (hs : ∀ i x y σ H T,xs[i]? = some x→ys[i]? = some y→Pv i σ H→H T = none→g (.ref T) σ (upd H T (.tup [x,y])) fun σ2 H2=>tb { D with nx:=Pv (i + 1),ct:=Pv (i + 1),bk:=D.nx } σ2 H2) (hd : ∀ σ H,Pv xs.length σ H→D.nx σ H) :
    ∃ W : Nat→Nat→St→Hp→Prop,(∃ m,W 0 m σ H)∧∀ i m σ H,W i m σ H →
      ((Itz K a b).stop i H∧D.nx σ H) ∨ ((Itz K a b).go i H∧∃ N : St→Hp→Prop,(∀ σ' H',N σ' H'→∃ m',m' < m∧W (i + 1) m' σ' H')∧∀ x H',(Itz K a b).yld i H x H'→g x σ H' fun σ2 H2=>tb { D with nx:=N,ct:=N,bk:=D.nx } σ2 H2):=by
  refine ⟨fun i m σ H=>m = xs.length - i∧i ≤ xs.length∧Pv i σ H,⟨xs.length,by simp,Nat.zero_le _,h0⟩,?_⟩
  rintro i m σ H ⟨rfl,hi,p⟩
  obtain ⟨q,q2⟩:=hl i σ H hi p
  by_cases hlt : i < xs.length
  · refine .inr ⟨⟨xs,ys,xs[i],ys[i]'(by omega),q,q2,by simp [hlt],by simp⟩,Pv (i + 1),fun σ' H' p'=>⟨xs.length - (i + 1),by (clear hlen hl hs hd hi; omega),rfl,hlt,p'⟩,fun x H' y=>?_⟩
    obtain ⟨T,u,v,rfl,hT,e1,e2,rfl⟩:=y
    exact hs i u v σ _ T (e1 xs q) (e2 ys q2) p hT
  · have e : i = xs.length:=by (clear hlen hl hs hd; omega)
    subst e
    exact .inl ⟨⟨xs,ys,q,q2,.inl (Nat.le_refl _)⟩,hd σ H p⟩
section
variable {X : Cx}
end
section
variable {P : Program} {w : World} {A : Around} {E : Value→Shared→Prop} {s : Shared}
end
end L2
namespace L2
open PySem PySem.Spec PySem.W PyProof.Rows PySem.Builtin PySem.Builtin.ObjectAttr PySem.Builtin.Getset_descriptor
structure XcK (K : Frag) (C : Addr) : Prop where
  ga : findIn K (.ref C) "__getattribute__" = some (some (.builtin "BaseException.__getattribute__"))
  gn : findIn K (.ref C) "__getattr__" = some none
  cl : findIn K (.ref C) "__class__" = some (some (.builtin "object.__class__"))
  sp : specialIn K (.builtin "object.__class__") "__get__" = some (some (.builtin "getset_descriptor.__get__"))
  tk : takesIn K (.builtin "object.__class__") = some true
  mo : mroIn K C (.type "object") = some true
  me : mroIn K C (.type "BaseException") = some true
  ci : (clsIn K C).isSome = true
section
variable {prog : Program} {w : World} {A : Around} {E : Value→Shared→Prop} {s : Shared} {K : Frag} {x C : Addr}
end
end L2
namespace L2
open PySem PySem.Spec PyProof.Rows
theorem ObjOk.got {P : Program} {w : World} {H : Hp} {h : Heap} {a : Addr} {o : HO} (x : ObjOk P w H h a o) : ∃ ob,h.get? a = some ob:=by
  cases o with
  | lst xs=>obtain ⟨_,_,_,_,e⟩:=x; exact ⟨_,e⟩
  | tup xs=>obtain ⟨_,_,_,_,e,_⟩:=x; exact ⟨_,e⟩
  | dK kvs=>obtain ⟨_,_,_,_,_,_,_,e,_⟩:=x; exact ⟨_,e⟩
  | dT kvs=>obtain ⟨_,_,_,_,_,_,_,e,_⟩:=x; exact ⟨_,e⟩
  | set S n=>obtain ⟨_,_,_,_,e,_⟩:=x; exact ⟨_,e⟩
  | ins C dx fs=>obtain ⟨_,_,_,e,_⟩:=x; exact ⟨_,e⟩
  | own y=>exact x
  | xd fs=>obtain ⟨_,⟨_,_,_,e,_⟩,_⟩:=x; exact ⟨_,e⟩
  | rng lo hi=>obtain ⟨_,_,_,e⟩:=x; exact ⟨_,e⟩
  | frz ob u=>exact ⟨_,x.1⟩
  | tbl ps=>exact ⟨_,x⟩
  | met f y=>exact ⟨_,x⟩
  | ext φ=>exact x.2.1
theorem HOk.by {P : Program} {w : World} {H : Hp} {h h' B : Heap} (x : HOk P w H h) (hB : ∀ b u,H b = some u→∃ o,B.get? b = some o) (k1 : ∀ b o,B.get? b = some o→h.get? b = some o) (k2 : ∀ b o,B.get? b = some o→h'.get? b = some o) : HOk P w H h':=fun a o e =>
  (x a o e).stay (fun b u hb q=>by
    have ht : ∃ v,H b = some v:=by
      rcases hb with rfl | hb
      · exact ⟨_,e⟩
      · exact ⟨_,hb⟩
    obtain ⟨v,hv⟩:=ht
    obtain ⟨ob,ho⟩:=hB b v hv
    have:=k1 b ob ho
    rw [q] at this
    cases this
    exact k2 b _ ho) (fun _ q=>q) fun _ _ q=>q
def CXR (P : Program) (w : World) : CXT:=fun outer H s E e s'=>∃ (ea C t : Addr) (H' : Hp) (B : Heap),e = .ref ea∧s'.os = s.os∧AllBare s'.gens∧Un (frs outer) [] H H' s.heap s'.heap∧HOk P w H' s'.heap ∧
  Heap.FlyingW B outer ea (.ref C) (.ref t) s'.heap∧(∀ b o,s.heap.get? b = some o→b ∉ frs outer→∃ o',B.get? b = some o')∧(∀ b u,H' b = some u→∃ o,B.get? b = some o)∧E (.ref C) none H'
theorem l8 {P : Program} {w : World} {X : Cx} : dw (CXR P w) X E0:=fun _ _ _ _ _ _ _ ⟨_,_,_,_,_,_,_,_,_,_,_,_,_,h⟩=>h.elim
section
variable {X : Cx} {pins : List (Addr × Obj)} {σ : St} {H : Hp} {s : Shared}
theorem Inv.notStk (I : Inv X pins σ H s) {b : Addr} {o : Obj} (e : X.s₀.heap.get? b = some o) (h : b ∉ X.fs) : b ∉ frs X.stack:=fun z=>by
  rcases List.mem_cons.mp (I.stkSub b z) with q | q
  · exact absurd q (Nat.ne_of_lt (Nat.lt_of_lt_of_le (Heap.lt_size e) I.ok.above))
  · exact h q
theorem Inv.stkSup (I : Inv X pins σ H s) {b : Addr} (h : b ∈ X.fs) : b ∈ frs X.stack:=by
  rcases I.ok.stk with e | ⟨e,hf⟩
  · rw [e]; exact h
  · rw [e]; unfold frs; rw [List.filterMap_cons,hf]; exact List.mem_cons_of_mem _ h
theorem kF {M : Model} {E2 : Value→Shared→Prop} {h' : Heap} {e C : Addr} {us : List Value} {E : XK} (I : Inv X pins σ H s) (hst : X.stack = X.env :: X.outer) (hf : X.env.frame = some X.env.locals) (hex : X.ex = [])
    (hm : Heap.MadeExcOf s.heap h' e (.ref C) us) (hE : E (.ref C) none H) : wpAny M X.A (leaving X.env (.ref e)) (fun _ s''=>CXR X.prog X.w X.outer X.H₀ X.s₀ E (.ref e) s'') E2 { s with heap:=h' }:=by
  have hfun:=I.stack
  have hin : ∀ env ∈ X.stack,∀ a,env.frame = some a→a ∈ frs X.stack:=fun env he a ha=>List.mem_filterMap.mpr ⟨env,he,ha⟩
  have hB1 : ∀ b o,s.heap.get? b = some o→b ∉ frs X.stack→(PySem.W.hideAll s.heap (frs X.stack)).get? b = some o:=fun b o q n=>PySem.W.hideAll_get _ q n
  have hB0 : ∀ b o,(PySem.W.hideAll s.heap (frs X.stack)).get? b = some o→s.heap.get? b = some o:=fun b o q=>PySem.W.of_hideAll _ q
  have hfun2:=PySem.W.funFrames_hide hfun hin
  have noex : ∀ b,b ∉ X.ex:=fun b z=>by rw [hex] at z; cases z
  rw [hst] at hfun2
  have trk : ∀ b u,H b = some u→∃ o,(PySem.W.hideAll s.heap (frs X.stack)).get? b = some o:=fun b u q=>by
    obtain ⟨o,ho⟩:=(I.hok b u q).got
    exact ⟨o,hB1 b o ho fun z=>by rw [I.stkFree b z] at q; cases q⟩
  have old : ∀ b o,X.s₀.heap.get? b = some o→b ∉ X.fs→∃ o',(PySem.W.hideAll s.heap (frs X.stack)).get? b = some o':=fun b o q n=>by
    obtain ⟨o',ho⟩:=I.base.there b o q (noex b)
    exact ⟨o',hB1 b o' ho (I.notStk q n)⟩
  refine wpAny_leaves_madeW (base:=PySem.W.hideAll s.heap (frs X.stack)) (hst ▸ I.ok.frames) hf hB0 (hst ▸ hfun2) hm fun h2 t x1 x2 x3 x4=>?_
  have fr : ∀ b o,s.heap.get? b = some o→b ∈ X.fs→∃ sl,h2.get? b = some { o with slots:=sl }:=fun b o q hb=>by
    obtain ⟨_,o',ho',hd⟩:=I.funs.mem hb
    rw [q] at ho'; cases ho'
    exact x4 b o (hm.keeps b o q) hd
  refine ⟨e,C,t,H,_,rfl,I.os,I.bare,⟨fun b o q n hb _=>?_,fun b o q n hb _=>?_,fun b o q n _=>I.base.free b o q n (noex b),fun b o q _=>?_,I.base.tups,I.base.frzs,I.base.tbls⟩,I.hok.by trk hB0 x1.1,x1,old,trk,hE⟩
  · exact x1.1 b o (hB1 b o (I.base.keep b o q n hb (noex b)) (I.notStk q hb))
  · obtain ⟨sl,e1⟩:=I.base.slot b o q n hb (noex b)
    obtain ⟨sl2,e2⟩:=fr b _ e1 hb
    exact ⟨sl2,e2⟩
  · by_cases hb : b ∈ X.fs
    · obtain ⟨o',e1⟩:=I.base.there b o q (noex b)
      obtain ⟨sl2,e2⟩:=fr b _ e1 hb
      exact ⟨_,e2⟩
    · obtain ⟨o',e1⟩:=old b o q hb
      exact ⟨_,x1.1 b o' e1⟩
theorem ni {M : Model} {E2 : Value→Shared→Prop} {e : Value} {s' : Shared} {E : XK} (I : Inv X pins σ H s) (hst : X.stack = X.env :: X.outer) (hf : X.env.frame = some X.env.locals) (hex : X.ex = [])
    (h : CXR X.prog X.w X.stack H s E e s') : wpAny M X.A (leaving X.env e) (fun _ s''=>CXR X.prog X.w X.outer X.H₀ X.s₀ E e s'') E2 s':=by
  obtain ⟨ea,C,t,H',B,rfl,os,bare,un,hok,fl,b1,b2,hE⟩:=h
  have noex : ∀ b,b ∉ X.ex:=fun b z=>by rw [hex] at z; cases z
  have fl0:=fl
  rw [hst] at fl0
  refine wpAny_leaves_onW (hst ▸ I.ok.frames) hf fl0 fun h2 x1 x2=>?_
  have nex : ∀ b : Addr,b ∉ ([] : List Addr):=fun b z=>by cases z
  have old : ∀ b o,X.s₀.heap.get? b = some o→b ∉ X.fs→∃ o',B.get? b = some o':=fun b o q n=>by
    obtain ⟨o',ho⟩:=I.base.there b o q (noex b)
    exact b1 b o' ho (I.notStk q n)
  have fr : ∀ b o,s'.heap.get? b = some o→b ∈ X.fs→∃ sl,h2.get? b = some { o with slots:=sl }:=fun b o q hb=>by
    obtain ⟨_,o',ho',hd⟩:=fl.2.2.1.mem (I.stkSup hb)
    rw [q] at ho'; cases ho'
    exact x2 b o q hd
  refine ⟨ea,C,t,H',B,rfl,os.trans I.os,bare,⟨fun b o q n hb _=>?_,fun b o q n hb _=>?_,fun b o q n _=>?_,fun b o q _=>?_,fun b xs q=>un.tups b xs (I.base.tups b xs q),fun b o u q=>un.frzs b o u (I.base.frzs b o u q),fun b ps q=>?_⟩,hok.by b2 fl.1 x1.1,x1,old,b2,hE⟩
  · have e1:=I.base.keep b o q n hb (noex b)
    have e2:=un.keep b o e1 (I.base.free b o q n (noex b)) (I.notStk q hb) (nex b)
    obtain ⟨o',e3⟩:=old b o q hb
    have e4:=fl.1 b o' e3
    rw [e2] at e4; cases e4
    exact x1.1 b _ e3
  · obtain ⟨sl,e1⟩:=I.base.slot b o q n hb (noex b)
    obtain ⟨sl1,e2⟩:=un.slot b _ e1 (I.base.free b o q n (noex b)) (I.stkSup hb) (nex b)
    obtain ⟨sl2,e3⟩:=fr b _ e2 hb
    exact ⟨sl2,e3⟩
  · obtain ⟨o',e1⟩:=I.base.there b o q (noex b)
    exact un.free b o' e1 (I.base.free b o q n (noex b)) (nex b)
  · by_cases hb : b ∈ X.fs
    · obtain ⟨o',e1⟩:=I.base.there b o q (noex b)
      obtain ⟨o2,e2⟩:=un.there b o' e1 (nex b)
      obtain ⟨sl2,e3⟩:=fr b _ e2 hb
      exact ⟨_,e3⟩
    · obtain ⟨o',e1⟩:=old b o q hb
      exact ⟨_,x1.1 b o' e1⟩
  · obtain ⟨m1,e1⟩:=I.base.tbls b ps q
    obtain ⟨m2,e2⟩:=un.tbls b _ e1
    exact ⟨m1 ++ m2,by rw [e2,Array.append_assoc]⟩
end
abbrev bmV : List Value:=[.type "ValueError",.type "Exception",.type "BaseException",.type "object"]
theorem tW {K : PySem.W.Frag} {h : Heap} {C : Addr} {bmB : List Value} {newId : String} (X : K.In h) (q : PySem.W.excIn K C bmB newId = true) :
    ∃ bm N nm qn bs hdct sn sub ab col dd k0 k1 k2 k3 k5 mN,h.get? C = some (excClassObj nm qn C N bs bm hdct sn sub ab col dd k0 k1 k2 k3 k5 newId)∧h.Ns N mN∧mN "__init__" = none∧OwnTail h bmB bm:=by
  unfold PySem.W.excIn at q
  split at q
  case h_2=>cases q
  case h_1 dd cd sl ho =>
    split at q
    case h_2=>cases q
    case h_1 C' bm k0 k1 k2 k3 n k5 hm hs =>
      simp only [Bool.and_eq_true,beq_iff_eq,Bool.not_eq_true'] at q
      obtain ⟨⟨⟨⟨⟨z1,z2⟩,z3⟩,z4⟩,z5⟩,z6⟩:=q
      cases z1
      cases z2
      obtain ⟨nm,bs,mro,ns,qn,hd,sn,sub,ab,col,del⟩:=cd
      cases hm
      cases z3
      have es : sl = #[k0,k1,k2,k3,some (.builtin newId),k5]:=by
        cases sl with
        | mk l=>simp only at hs; rw [hs]
      cases es
      exact ⟨bm,ns,nm,qn,bs,hd,sn,sub,ab,col,dd,k0,k1,k2,k3,k5,_,X _ _ ho,Heap.Ns.of_isNs (PySem.W.isNs_of_in X z5),PySem.W.nsMap_none_of_in X z5 z6,PySem.W.tail_of_in X z4⟩
def oY (X : Cx) (E : XK) : Prop:=∀ (pins : List (Addr × Obj)) (σ : St) (H : Hp) (s : Shared) (h' : Heap) (e C : Addr) (us : List Value),Inv X pins σ H s→Heap.MadeExcOf s.heap h' e (.ref C) us→E (.ref C) none H→X.xe (.ref e) { s with heap:=h' }
def ug (t : TA) (C : Addr) (E : XK) : TS:=fun _ σ H=>t σ H fun vs H1=>vs.length ≤ sizeLine∧E (.ref C) none H1
section
variable {X : Cx}
theorem dO {E : XK} {x : Str} {C : Addr} {e0 : Expr} {rest : List Expr} {t : TA} {np cpos pos : Pos} (hr : oY X E) (hm : X.mg x = some (.ref C)) (q : PySem.W.excIn X.K C bmV "ValueError.__new__" = true) (ha : PA X (e0 :: rest) t) (hc : X.calm = true:=by rfl) (hg : Gl X x:=by rfl)
    (hdb : (x == ("__debug__" : Str)) = false:=by decide) (he : starEach (e0 :: rest) X.env = (false,eval e0 X.env) :: starEach rest X.env:=by rfl) (hpl : (backTo cpos (starEach rest X.env)).any (·.1) = false:=by rfl) :
    PS X (.Raise (some (.Call (.Name x np) (e0 :: rest) [] cpos)) none pos) (ug t C E):=by
  intro pins s σ H D I h
  obtain ⟨tl,N,nm,qn,bs,hdct,sn,sub,ab,col,dd,k0,k1,k2,k3,k5,mN,hC,hN,hni,T⟩:=tW I.mod.kin q
  refine wpAny_Raise_call_subT (C:=C) (nm:=nm) (q:=qn) (N:=N) (bs:=bs) (bm:=tl) (hdct:=hdct) (sn:=sn) (sub:=sub) (ab:=ab) (col:=col) (dd:=dd) (k0:=k0) (k1:=k1) (k2:=k2) (k3:=k3) (k5:=k5)
    PySem.F.excBase_ValueError (mN:=mN) (T.hasType PySem.F.excBase_ValueError.hasBase) (I.ok.hd hc) ?_ hni (gB I hg hm ⟨rfl,?_⟩ hdb)
  · rw [he]
    show (false || (backTo cpos (starEach rest X.env)).any (·.1)) = false
    rw [hpl]; rfl
  have h2:=ha cpos pins s σ H _ I h
  rw [he] at h2 ⊢
  refine Calls.evalArgs_plain (thn h2 fun us s2 hm0=>?_)
  obtain ⟨vs,H1,I1,r1,q1,q2⟩:=hm0
  exact ⟨rfl,by rw [← r1.length]; exact q1,I1.bk _ _ hC,hN.keeps I1.bk,T.keeps I1.bk,fun h' e hm=>hr pins σ H1 s2 h' e C us I1 hm q2⟩
end
section
variable {P : Program} {w : World} {K : PySem.W.Frag} {mg : Str→Option Value} {base : Heap}
abbrev cxR (P : Program) (w : World) (K : PySem.W.Frag) (mg : Str→Option Value) (base : Heap) (N : List Str) (qual : Str) (scope : Scope) (f : Addr) (cd : Value) (A : Around) (outer : List Env) (s : Shared) (H : Hp) (E : XK) : Cx:=fN (CXR P w) P w K mg base N qual scope f cd A outer s H E
theorem eQ {N : List Str} {qual : Str} {scope : Scope} {f : Addr} {cd : Value} {A : Around} {outer : List Env} {s : Shared} {H : Hp} {E : XK} : oY (cxR P w K mg base N qual scope f cd A outer s H E) E :=
  fun pins σ H1 s1 h' e C us I hm hE=>kF (X:=cxR P w K mg base N qual scope f cd A outer s H E) I rfl rfl rfl hm hE
theorem fw {N : List Str} {qual : Str} {scope : Scope} {f : Addr} {cd : Value} {A : Around} {outer : List Env} {s : Shared} {H : Hp} {E : XK} : dw (CXR P w) (cxR P w K mg base N qual scope f cd A outer s H E) E :=
  fun pins σ H1 s1 e s' I h=>ni (X:=cxR P w K mg base N qual scope f cd A outer s H E) I rfl rfl rfl h
structure DnX (P : Program) (w : World) (K : PySem.W.Frag) (mg : Str→Option Value) (base : Heap) (x : Str) (n : Nat) (ps : List Str) (sp : Sp) : Prop where
  ex : ∃ f fd,FnOk P w K mg base (CXR P w) n f fd ps sp∧mg x = some (.ref f)∧PySem.W.keepIn K (.ref f) = true∧Binds K fd ps []
theorem DefAt.okX {x : Str} {st : Stmt} {N ps : List Str} {k : Nat} {sp : Sp} (F : DefAt K mg x st ps) (S : FnScope N ps (ai st)) (len : ∀ vs H Q E,sp vs H Q E→vs.length = ps.length)
    (hbody : ∀ (f : Addr) (cdv : Value) (A : Around) (outer : List Env) (s : Shared) (H : Hp) (vs : List V) (Q : VK) (E : XK),Room k (A.deeper (envOfC x (ai st) s.heap.objs.size f cdv))→sp vs H Q E →
      ∃ t,PSs (cxR P w K mg base N x (ai st) f cdv A outer s H E) (bu st) t∧t { nx:=fun _ H'=>Q .non H',rt:=Q } (start N vs) H) : DnX P w K mg base x (k + 1) ps sp:=by
  obtain ⟨f,fd,F,hm,hb⟩:=F.ex
  have kp:=F.kp
  obtain ⟨oc,od,kV,doc,pm,an,cdv,ct,osl,rfl,lk,hcd⟩:=F.ex
  exact ⟨f,_,ow lk hcd S len fun A outer s H vs Q E hr hsp=>hbody f cdv A outer s H vs Q E hr hsp,hm,kp,hb⟩
end
theorem cr {X : Cx} {E : XK} {x : Str} {n k : Nat} {ps : List Str} {sp : Sp} {e : Expr} {es : List Expr} {t : TA} {p pos : Pos} (hx : dw (CXR X.prog X.w) X E) (D : DnX X.prog X.w X.K X.mg X.base x n ps sp) (hr : Room k X.A) (ha : PA X (e :: es) t) (hk : n ≤ k:=by decide) (hg : Gl X x:=by rfl)
    (hdb : (x == ("__debug__" : Str)) = false:=by decide) (he : starEach (e :: es) X.env = (false,eval e X.env) :: starEach es X.env:=by rfl) (hpl : (backTo pos (starEach es X.env)).any (·.1) = false:=by rfl) :
    PE X (.Call (.Name x p) (e :: es) [] pos) (ox sp [] E t):=by
  obtain ⟨f,fd,F,hm,kp,hb⟩:=D.ex
  exact mI F (hr.mono hk) hg hm kp hb .nil hx ha hdb he hpl
section
variable {X : Cx} {pins : List (Addr × Obj)} {σ : St} {H : Hp} {s : Shared}
end
section
variable {X : Cx} {CX : CXT} {k : Nat} {f : Addr} {fd : FuncData} {ps : List Str} {sp : Sp} {E : XK} {x : Str} {p pos : Pos} {e : Expr} {es : List Expr} {t : TA} {pins : List (Addr × Obj)} {σ : St} {H : Hp} {s : Shared} {Q : VK} {EE : Value→Shared→Prop}
end
section
variable {X : Cx} {x y g n : Str} {i j m k : Nat} {ps : List Str} {sp : Sp} {p py pos epos np hpos tpos : Pos} {e : Expr} {es : List Expr} {t : TA} {th : TS} {G : Addr} {b0 : Stmt} {suite : List Stmt}
end
def clK (K : PySem.W.Frag) (x : Str) : Addr:=match PySem.W.nsIn K mainGlobals x with
  | some (some (.ref C))=>C
  | _=>0
def xcB (K : PySem.W.Frag) (C : Addr) : Bool :=
  PySem.W.findIn K (.ref C) "__getattribute__" == some (some (.builtin "BaseException.__getattribute__")) && PySem.W.findIn K (.ref C) "__getattr__" == some none &&
  PySem.W.findIn K (.ref C) "__class__" == some (some (.builtin "object.__class__")) && PySem.W.specialIn K (.builtin "object.__class__") "__get__" == some (some (.builtin "getset_descriptor.__get__")) &&
  PySem.W.takesIn K (.builtin "object.__class__") == some true && PySem.W.mroIn K C (.type "object") == some true && PySem.W.mroIn K C (.type "BaseException") == some true && (PySem.W.clsIn K C).isSome
def jE (K : PySem.W.Frag) (top : Str) (rs ns : List Str) : Bool :=
  (PySem.W.nsIn K mainGlobals top == some (some (.ref (clK K top)))) &&
  (ns.all fun y=>PySem.W.nsIn K mainGlobals y == some (some (.ref (clK K y)))) &&
  rs.all fun x=>(PySem.W.nsIn K mainGlobals x == some (some (.ref (clK K x)))) && xcB K (clK K x) && PySem.W.excIn K (clK K x) bmV "ValueError.__new__" &&
    (PySem.W.exmOne K (.ref (clK K x)) (.ref (clK K top)) == some true) && (PySem.W.kitOne K (.ref (clK K x)) (.type "ValueError") == some true) &&
    ns.all fun y=>PySem.W.kitOne K (.ref (clK K x)) (.ref (clK K y)) == some (decide (x = y))
structure XT (K : PySem.W.Frag) (mg : Str→Option Value) (top : Str) (rs ns : List Str) : Prop where
  m : ∀ x,(x = top ∨ x ∈ rs ∨ x ∈ ns)→mg x = some (.ref (clK K x))
  exc : ∀ x ∈ rs,PySem.W.excIn K (clK K x) bmV "ValueError.__new__" = true
  k : ∀ x ∈ rs,XcK K (clK K x)
  hit : ∀ x ∈ rs,PySem.W.exmOne K (.ref (clK K x)) (.ref (clK K top)) = some true
  val : ∀ x ∈ rs,PySem.W.kitOne K (.ref (clK K x)) (.type "ValueError") = some true
  one : ∀ x ∈ rs,∀ y ∈ ns,PySem.W.kitOne K (.ref (clK K x)) (.ref (clK K y)) = some (decide (x = y))
theorem vm {K : PySem.W.Frag} {h : Heap} {mg : Str→Option Value} {top : Str} {rs ns : List Str} (X : K.In h) (G : h.Ns mainGlobals mg) (e : jE K top rs ns = true) : XT K mg top rs ns:=by
  unfold jE at e
  simp only [Bool.and_eq_true,List.all_eq_true,beq_iff_eq] at e
  obtain ⟨⟨e1,e2⟩,e3⟩:=e
  refine ⟨fun x hx=>?_,fun x hx=>(e3 x hx).1.1.1.2,fun x hx=>?_,fun x hx=>(e3 x hx).1.1.2,fun x hx=>(e3 x hx).1.2,fun x hx y hy=>(e3 x hx).2 y hy⟩
  · rcases hx with rfl | hx | hx
    · exact PySem.W.mg_of X G e1
    · exact PySem.W.mg_of X G (e3 x hx).1.1.1.1.1
    · exact PySem.W.mg_of X G (e2 x hx)
  · have z:=(e3 x hx).1.1.1.1.2
    unfold xcB at z
    simp only [Bool.and_eq_true,beq_iff_eq] at z
    obtain ⟨⟨⟨⟨⟨⟨⟨z1,z2⟩,z3⟩,z4⟩,z5⟩,z6⟩,z7⟩,z8⟩:=z
    exact ⟨z1,z2,z3,z4,z5,z6,z7,z8⟩
section
variable {X : Cx}
end
section
variable {X : Cx}
end
section
variable {X : Cx}
def PJ (X : Cx) (es : List Expr) (n : Nat) : Prop:=∀ (out : Str) (pins : List (Addr × Obj)) (s : Shared) (σ : St) (H : Hp) (Q : VK),Inv X pins σ H s→out.length + n ≤ sizeLine→(∀ x,Q (.str x) H) →
  wpAny (model X.prog X.w) X.A (joinParts out (evalEach es X.env)) (EP X pins σ Q) X.xe s
theorem tH : PJ X [] 0:=fun out pins s σ H Q I hz q=>joinParts_nil ⟨.str out,H,I.tok _,⟨_,rfl⟩,q _⟩ (by omega)
theorem pG {x : Str} {j pos} {rest : List Expr} {n : Nat} (h : PJ X rest n) : PJ X (.Constant (.str x) j pos :: rest) (x.length + n):=fun out pins s σ H Q I hz q=>by
  have e : (out ++ x).length = out.length + x.length:=strLen_append ..
  refine joinParts_cons (Calls.Constant_str ⟨by omega,h _ pins _ σ H Q (I.tok _) (by omega) q⟩)
theorem tI {g : Str} {v : Int} {p p2 : Pos} {rest : List Expr} {n : Nat} (hm : ∃ t,X.mg g = some (.int v t)) (h : PJ X rest n) (hg : Gl X g:=by rfl) (hd : (g == ("__debug__" : Str)) = false:=by decide) (hv : v.natAbs.log2 < 1920:=by decide +kernel) :
    PJ X (.FormattedValue (.Name g p) (-1) none p2 :: rest) ((toString v : Str).length + n):=fun out pins s σ H Q I hz q=>by
  obtain ⟨t,hm⟩:=hm
  have e : (out ++ (toString v : Str)).length = out.length + (toString v : Str).length:=strLen_append ..
  refine joinParts_cons (FormattedValue_plain (gB I hg hm (formatField_int_small hv ⟨by omega,h _ pins _ σ H Q (I.tok _) (by omega) q⟩) hd))
def qN : TE:=fun _ H Q=>∀ x,Q (.str x) H
theorem sB {v1 v2 : Expr} {rest : List Expr} {pos : Pos} {n : Nat} (h : PJ X (v1 :: v2 :: rest) n) (hn : n ≤ sizeLine:=by decide +kernel) : PE X (.JoinedStr (v1 :: v2 :: rest) pos) qN:=fun pins s σ H Q I q =>
  JoinedStr_many (h Str.empty pins s σ H Q I (by rw [show Str.empty.length = 0 from rfl]; omega) q)
end
section
variable {X : Cx}
end
section
variable {X : Cx} {pins : List (Addr × Obj)} {σ : St} {H : Hp} {s : Shared}
end
def uX (K : PySem.W.Frag) (ta : TA) : TE:=fun σ H Q=>ta σ H fun vs H1=>∃ (a : Addr) (ks : List Int),vs = [.ref a]∧SqL K H1 a (ks.map V.int)∧ks.length + 1 < 4096 ∧
  ∀ ns : List Int,ns.Nodup→(∀ k,k ∈ ns ↔ k ∈ ks)→Q (.int ns.length) H1
theorem lq {X : Cx} {K : PySem.W.Frag} {e : Expr} {ta : TA} {p1 p2 pos1 pos2 : Pos} (hK : X.K = K) (hc : X.calm = true) (hg : Gl X "len") (hm : X.mg "len" = none) (hg2 : Gl X "set") (hm2 : X.mg "set" = none) (he : PA X [e] ta)
    (h1 : starEach [e] X.env = [(false,eval e X.env)]:=by rfl) (h2 : starEach [.Call (.Name "set" p2) [e] [] pos2] X.env = [(false,eval (.Call (.Name "set" p2) [e] [] pos2) X.env)]:=by rfl) :
    PE X (.Call (.Name "len" p1) [.Call (.Name "set" p2) [e] [] pos2] [] pos1) (uX K ta):=by
  subst hK
  intro pins s σ H Q I h
  have inner : wpAny (model X.prog X.w) X.A (eval (.Call (.Name "set" p2) [e] [] pos2) X.env) (fun v s1=>∃ (S : Addr) (H1 : Hp) (ks : List Int),v = .ref S∧Inv X pins σ H1 s1∧SetI X.prog X.w s1.heap S (!X.w.params.followText "set-order") ks∧ks.length + 1 < 4096 ∧
      ∀ ns : List Int,ns.Nodup→(∀ k,k ∈ ns ↔ k ∈ ks)→Q (.int ns.length) H1) X.xe s:=by
    refine Call_ (c6 I hg2 hm2 PyProof.Rows.boot_set (PyProof.Rows.callWith_type1 (thn (he pos2 pins s σ H _ I h) fun us s1 hm0=>?_) h1 rfl))
    obtain ⟨vs,H1,I1,r,q⟩:=hm0
    obtain ⟨a,ks,rfl,ha,hz,q⟩:=q
    obtain ⟨u,rfl,ru⟩:=de r
    cases ru
    obtain ⟨its,rv,pl,_⟩:=I1.list ha
    have hi : IntsAre its ks:=bK rv
    have hs : its.toArray.size = ks.length:=by rw [List.size_toArray]; exact hi.length
    refine PySem.own_set_list (I1.ok.hd hc) pl.isList (by simpa using hi) (by rw [hs]; exact hz) fun h' tk sI k=>?_
    rw [hs,px] at sI
    exact ⟨_,H1,ks,rfl,I1.kept (t':=tk) k,sI,hz,q⟩
  refine Call_ (c6 I hg hm PySem.boot_len (PyProof.Rows.callWith_builtin1 (by
    rw [h2]
    refine Calls.spliced_cons (thn inner fun v s1 x=>Calls.spliced_nil ?_)
    obtain ⟨S,H1,ks,rfl,I1,sI,hz,q⟩:=x
    obtain ⟨o,es,ep,t,ns,ho,hex,hd,_,hI,nd,mem,hsz,hf,_⟩:=sI
    have hn : es.size = ns.length:=by have:=hI.length; simpa using this
    have hsm : ns.length ≤ ks.length:=dG ns ks nd fun x hx=>(mem x).mp hx
    refine PySem.call_len_set ho hex hd hf (by omega) ?_
    have q2:=q ns nd mem
    rw [← hn] at q2
    exact ⟨.int ((es.size : Nat) : Int),H1,I1.kept (t':=s1.toks + 1 + 1) fun _ _ z=>z,⟨_,rfl⟩,q2⟩) h2 rfl))
end L2
namespace L2
open PySem PyProof.Rows
section
variable {prog : Program} {w : World} {A : Around} {E : Value→Shared→Prop} {s : Shared}
end
section
variable {prog : Program} {w : World} {A : Around} {E : Value→Shared→Prop} {s : Shared}
end
section
variable {prog : Program} {w : World} {A : Around} {E : Value→Shared→Prop} {s : Shared}
end
section
variable {a₀ : Array Keyed} {pd : Array (Nat × Nat × Nat)} {st : SortSt}
variable {prog : Program} {w : World} {A : Around} {E : Value→Shared→Prop} {s : Shared}
end
section
variable {prog : Program} {w : World} {A : Around} {E : Value→Shared→Prop} {s : Shared} {a₀ : Array Keyed} {pd : Array (Nat × Nat × Nat)} {st : SortSt}
end
section
variable {prog : Program} {w : World} {A : Around} {E : Value→Shared→Prop} {s : Shared} {a₀ : Array Keyed} {st : SortSt}
end
end L2
namespace L2
open PySem PySem.Spec PyProof.Rows
section
variable {prog : Program} {w : World} {A : Around} {E : Value→Shared→Prop} {s : Shared}
end
section
variable {X : Cx}
end
section
variable {P : Program} {w : World} {K : PySem.W.Frag} {mg : Str→Option Value} {base : Heap}
end
end L2
namespace Law
open PySem L2
section
variable (G : List Row) (hand : Int) (ins : Int→Bool)
end
section
variable {G : List Row} {hand : Int} {ins : Int→Bool}
end
section
variable (G : List Row) (hand : Int) (ins want : Int→Bool)
end
section
variable {G : List Row} {hand : Int} {ins want : Int→Bool}
end
section
variable (G : List Row) (hand : Int) (ins want : Int→Bool)
end
section
variable {G : List Row} {hand : Int} {ins want : Int→Bool}
variable {R : List (List Int)}
end
end Law
namespace L2
open PySem PySem.Spec PyProof.Rows
end L2
namespace Law
open PySem L2
section
variable {G : List Row} {hand : Int} {ins want : Int→Bool} {R : List (List Int)}
end
end Law
namespace L2
open PySem PySem.Spec PyProof.Rows
theorem sC {α : Type} [DecidableEq α] (x y : α) : (x == y) = decide (x = y):=by rw [Bool.eq_iff_iff]; simp
structure EqD {α : Type} [DecidableEq α] (n : Nat) (R : Rel α) : Prop where
  go : ∀ (X : Cx) (pins : List (Addr × Obj)) (σ : St) (H : Hp) (s : Shared) (A : Around) (x y : α) (v w : V) (u1 u2 : Value),
    Inv X pins σ H s→A.units + n < cLine→R H x v→R H y w→RelV v u1→RelV w u2→SeqAt.EqAt A s u1 u2 (decide (x = y))
  inj : ∀ (H : Hp) (x y : α) (v : V),R H x v→R H y v→x = y
structure RcD {α : Type} [DecidableEq α] (n : Nat) (R : Rel α) : Prop where
  go : ∀ (X : Cx) (pins : List (Addr × Obj)) (σ : St) (H : Hp) (s : Shared) (A : Around) (x y : α) (v w : V) (u1 u2 : Value),
    Inv X pins σ H s→A.units + n < cLine→R H x v→R H y w→RelV v u1→RelV w u2→SeqAt.RcAt A s u1 u2 (decide (x = y))∧SeqAt.RcNeAt A s u1 u2 (!decide (x = y))
  inj : ∀ (H : Hp) (x y : α) (v : V),R H x v→R H y v→x = y
theorem qj : EqD 0 (su cu):=by
  refine ⟨fun X pins σ H s A x y v w u1 u2 I hu h1 h2 r1 r2=>?_,fun H x y v h1 h2=>?_⟩
  · cases x with
    | none =>
      have e1 : v = .non:=h1
      subst e1
      cases y with
      | none =>
        have e2 : w = .non:=h2
        subst e2
        have:=fO (A:=A) (s:=s) r1 r2 rfl rfl
        simpa [eqV,sC] using this
      | some y =>
        have e2 : w = .int y:=h2
        subst e2
        have:=fO (A:=A) (s:=s) r1 r2 rfl rfl
        simpa [eqV,sC] using this
    | some x =>
      have e1 : v = .int x:=h1
      subst e1
      cases y with
      | none =>
        have e2 : w = .non:=h2
        subst e2
        have:=fO (A:=A) (s:=s) r1 r2 rfl rfl
        simpa [eqV,sC] using this
      | some y =>
        have e2 : w = .int y:=h2
        subst e2
        have:=fO (A:=A) (s:=s) r1 r2 rfl rfl
        simpa [eqV,sC] using this
  · cases x with
    | none =>
      have e1 : v = .non:=h1
      cases y with
      | none=>rfl
      | some y=>have e2 : v = .int y:=h2; rw [e1] at e2; cases e2
    | some x =>
      have e1 : v = .int x:=h1
      cases y with
      | none=>have e2 : v = .non:=h2; rw [e1] at e2; cases e2
      | some y=>have e2 : v = .int y:=h2; rw [e1] at e2; injection e2 with e; rw [e]
theorem ig {α : Type} {R : Rel α} {H : Hp} (hj : ∀ (x y : α) (v : V),R H x v→R H y v→x = y) : ∀ {xs ys : List α} {vs : List V},Paired (R H) xs vs→Paired (R H) ys vs→xs = ys
  | _,_,_,.nil,.nil=>rfl
  | _,_,_,.cons r t,.cons r' t'=>by rw [hj _ _ _ r r',ig hj t t']
theorem nj {α : Type} {R : Rel α} {H : Hp} {xs ys : List α} {vs ws : List V} {us1 us2 : List Value} (p1 : Paired (R H) xs vs) (p2 : Paired (R H) ys ws) (r1 : Vals vs us1) (r2 : Vals ws us2) :
    us1.length = xs.length∧us2.length = ys.length∧∀ (j : Nat) (a b : Value),us1[j]? = some a→us2[j]? = some b→∃ x y v w,xs[j]? = some x∧ys[j]? = some y∧R H x v∧R H y w∧RelV v a∧RelV w b:=by
  have l1:=p1.length
  have l2:=p2.length
  have l3:=r1.length
  have l4:=r2.length
  refine ⟨by omega,by (clear l1 l3; omega),fun j a b ha hb=>?_⟩
  have hja:=(List.getElem?_eq_some_iff.mp ha).1
  have hjb:=(List.getElem?_eq_some_iff.mp hb).1
  have e1 : xs[j]? = some (xs[j]'(by (clear l2 l4 hjb; omega))):=by simp
  have e2 : ys[j]? = some (ys[j]'(by omega)):=by simp
  obtain ⟨v,hv,rv⟩:=Paired.at p1 e1
  obtain ⟨w,hw,rw'⟩:=Paired.at p2 e2
  obtain ⟨a',ha',ra⟩:=r1.get hv
  obtain ⟨b',hb',rb⟩:=r2.get hw
  rw [ha] at ha'; cases ha'
  rw [hb] at hb'; cases hb'
  exact ⟨_,_,v,w,e1,e2,rv,rw',ra,rb⟩
theorem uv {α : Type} [DecidableEq α] : ∀ (xs ys : List α),xs.length = ys.length→((List.range xs.length).all fun j=>decide (xs[j]? = ys[j]?)) = decide (xs = ys):=fun xs ys hl=>by
  rw [Bool.eq_iff_iff,List.all_eq_true,decide_eq_true_eq]
  constructor
  · intro h
    apply List.ext_getElem?
    intro j
    by_cases c : j < xs.length
    · exact of_decide_eq_true (h j (List.mem_range.mpr c))
    · rw [List.getElem?_eq_none (by (clear hl h; omega)),List.getElem?_eq_none (by omega)]
  · rintro rfl j _; simp
theorem rX {α : Type} [DecidableEq α] {n : Nat} {R : Rel α} (h : EqD n R) : RcD (n + 1) (d4 R):=by
  refine ⟨fun X pins σ H s A xs ys v w u1 u2 I hu h1 h2 r1 r2=>?_,fun H xs ys v h1 h2=>?_⟩
  · obtain ⟨a,vs,e1,ha,p1⟩:=h1
    obtain ⟨b,ws,e2,hb,p2⟩:=h2
    subst e1; subst e2
    cases r1; cases r2
    obtain ⟨its,n1,rv1,o1,z1⟩:=I.lst ha
    obtain ⟨its2,n2,rv2,o2,z2⟩:=I.lst hb
    obtain ⟨el1,el2,f⟩:=nj p1 p2 rv1 rv2
    have hl1 : s.heap.IsList a its.toArray:=⟨_,o1,rfl,n1,rfl⟩
    have hl2 : s.heap.IsList b its2.toArray:=⟨_,o2,rfl,n2,rfl⟩
    by_cases hl : xs.length = ys.length
    · have he : ∀ j (h1 : j < its.toArray.size) (h2 : j < its2.toArray.size),SeqAt.EqAt A.in1 s its.toArray[j] its2.toArray[j] ((fun j=>decide (xs[j]? = ys[j]?)) j):=fun j h1 h2=>by
        obtain ⟨x,y,v,w,e1,e2,q1,q2,q3,q4⟩:=f j (its.toArray[j]) (its2.toArray[j]) (by simp) (by simp)
        have:=h.go X pins σ H s A.in1 x y v w _ _ I (by show A.units + 1 + n < cLine; omega) q1 q2 q3 q4
        show SeqAt.EqAt A.in1 s _ _ (decide (xs[j]? = ys[j]?))
        rw [e1,e2]
        have e9 : decide (some x = some y) = decide (x = y):=by simp
        rw [e9]; exact this
      have A1:=SeqAt.RcAt.lists hl1 hl2 (by simp; (clear hu z1 z2 f he; omega)) (by omega) he
      have A2:=SeqAt.RcNeAt.lists hl1 hl2 (by simp; (clear hu z1 z2 f he; omega)) (by omega) he
      have es : its.toArray.size = xs.length:=by simp; omega
      rw [es,uv xs ys hl] at A1 A2
      exact ⟨A1,A2⟩
    · have hne : (its.toArray.size != its2.toArray.size) = true:=by
        simp only [List.size_toArray,bne_iff_ne]; (clear hu z1 z2 f; omega)
      have e9 : decide (xs = ys) = false:=decide_eq_false fun z=>hl (by rw [z])
      rw [e9]
      exact ⟨SeqAt.RcAt.lists_lengths hl1 hl2 hne (by omega),SeqAt.RcNeAt.lists_lengths hl1 hl2 hne (by omega)⟩
  · obtain ⟨a,vs,e1,ha,p1⟩:=h1
    obtain ⟨b,ws,e2,hb,p2⟩:=h2
    rw [e1] at e2; cases e2
    rw [ha] at hb; cases hb
    exact ig (h.inj H) p1 p2
section
variable {X : Cx}
theorem uA {α : Type} [DecidableEq α] {n : Nat} {R : Rel α} (ok : RcD n R) (hu : X.A.units + n < cLine) : OpR X (compareOp .NotEq) (fun v w H Q=>∃ x y,R H x v∧R H y w∧Q (.bl (!decide (x = y))) H):=by
  intro pins s σ H v w u1 u2 Q I r1 r2 h
  obtain ⟨x,y,h1,h2,q⟩:=h
  exact (ok.go X pins σ H s _ x y v w u1 u2 I hu h1 h2 r1 r2).2 _ _ _ _ ⟨.bl (!decide (x = y)),H,I,rfl,q⟩
end
end L2
namespace Law
open PySem L2
section
variable {G : List Row} {hand : Int} {want : Int→Bool} {R : List (List Int)}
end
end Law
namespace L2
open PySem PySem.Spec PyProof.Rows
section
variable {P : Program} {w : World} {K : PySem.W.Frag} {mg : Str→Option Value} {base : Heap}
end
section
variable {X : Cx}
end
section
variable {H H' : Hp} {a b c : Addr}
end
section
variable {K : PySem.W.Frag} {i j : Nat} {σ : St} {H : Hp} {Q : VK} {a b C dx : Addr} {xs ys : List V} {z c : Int} {v u : V} {f : Str} {fs : List (Str × V)}
end
end L2
namespace L2
end L2
namespace Law
open PySem L2
section
variable {G : List Row} {hand : Int} {left : List Int} {want : Int→Bool} {R : List (List Int)}
end
section
variable {G : List Row} {P D0 D1 : Int→Prop} {wf wf' : Int→Option Int}
end
section
variable {G : List Row} {hf : Int→Int} {wf : Int→Option Int} {c : Int}
end
end Law
namespace L2
open PySem PySem.W PySem.Spec PyProof.Rows
section
variable {k : Nat→Int} {n : Nat} {cmp : Nat→Nat→(Bool→Shared→Prop)→Shared→Prop} {s : Shared}
def pa (k : Nat→Int) (p : Array Nat) (i : Nat) : Int:=k (p.getD i 0)
def PRng (n : Nat) (p : Array Nat) : Prop:=p.Perm (List.range n).toArray
def gw (k : Nat→Int) (p : Array Nat) (m : Nat) : Prop:=∀ i j,i < j→j < m→pa k p i < pa k p j
def uI (k : Nat→Int) (p : Array Nat) (m : Nat) : Prop:=∀ i j,i < j→j < m→pa k p j < pa k p i
theorem PRng.size {p : Array Nat} (h : PRng n p) : p.size = n:=by have:=h.size_eq; simpa using this
theorem PRng.lt {p : Array Nat} (h : PRng n p) {i : Nat} (hi : i < n) : p.getD i 0 < n:=by
  have hs:=h.size
  have hm : p.getD i 0 ∈ p:=by rw [Array.getD_eq_getD_getElem?,Array.getElem?_eq_getElem (by omega)]; exact Array.getElem_mem _
  have:=h.mem_iff.mp hm
  simpa using this
theorem PRng.inj {p : Array Nat} (h : PRng n p) {i j : Nat} (hi : i < n) (hj : j < n) (e : p.getD i 0 = p.getD j 0) : i = j:=by
  have hs:=h.size
  have nd : p.toList.Nodup:=(Array.perm_iff_toList_perm.mp h).nodup_iff.mpr (by simpa using List.nodup_range)
  have a : p.toList[i]? = some (p.getD i 0):=by rw [Array.getD_eq_getD_getElem?,Array.getElem?_eq_getElem (by omega),Array.getElem?_toList,Array.getElem?_eq_getElem (by omega)]; rfl
  have b : p.toList[j]? = some (p.getD j 0):=by rw [Array.getD_eq_getD_getElem?,Array.getElem?_eq_getElem (by omega),Array.getElem?_toList,Array.getElem?_eq_getElem (by omega)]; rfl
  rw [← e] at b
  have hl : i < p.toList.length:=by rw [Array.length_toList]; omega
  exact (List.getElem?_inj hl nd).mp (a.trans b.symm)
theorem qY (hk : ∀ i j,i < n→j < n→k i = k j→i = j) {p : Array Nat} (h : PRng n p) {i j : Nat} (hi : i < n) (hj : j < n) (hij : i ≠ j) : pa k p i ≠ pa k p j:=fun e=>hij (h.inj hi hj (hk _ _ (h.lt hi) (h.lt hj) e))
theorem mM {p q : Array Nat} {i j : Nat} (h : p[i]? = q[j]?) : pa k p i = pa k q j:=by unfold pa; rw [Array.getD_eq_getD_getElem?,Array.getD_eq_getD_getElem?,h]
theorem hJ {α : Type} {i j : Nat} {g : Bool→KasT α} {Q : α→Shared→Prop} (hc : ∀ i j C,i < n→j < n→C (decide (k i < k j)) s→cmp i j C s) (hi : i < n) (hj : j < n) (h : KasT.kasWp cmp (g (decide (k i < k j))) Q s) : KasT.kasWp cmp (.ask i j g) Q s:=hc i j _ hi hj h
theorem qH (hk : ∀ i j,i < n→j < n→k i = k j→i = j) (hc : ∀ i j C,i < n→j < n→C (decide (k i < k j)) s→cmp i j C s) {p : Array Nat} (hp : PRng n p) {Q : Nat→Shared→Prop} : ∀ (f m : Nat),1 ≤ m→m + f ≤ n→gw k p m→(∀ m',m ≤ m'→m' ≤ m + f→gw k p m'→(m' < m + f→pa k p m' < pa k p (m' - 1))→Q m' s)→KasT.kasWp cmp (kas_asc p f m) Q s:=by
  intro f
  induction f with
  | zero =>
    intro m h1 hm hu q
    exact q m (Nat.le_refl _) (Nat.le_refl _) hu (fun z=>absurd z (Nat.lt_irrefl _))
  | succ f ih =>
    intro m h1 hm hu q
    rw [kas_asc.eq_2]
    refine hJ hc (hp.lt (by omega)) (hp.lt (by omega)) ?_
    by_cases c : k (p.getD m 0) < k (p.getD (m - 1) 0)
    · rw [decide_eq_true c,if_pos rfl]
      exact q m (Nat.le_refl _) (by omega) hu (fun _=>c)
    · rw [decide_eq_false c,if_neg (by decide)]
      refine ih (m + 1) (by omega) (by omega) (fun i j hij hj=>?_) (fun m' a b=>by
        have e : m + 1 + f = m + (f + 1):=by omega
        rw [e] at b ⊢
        exact q m' (by omega) b)
      have hne:=qY hk hp (i:=m - 1) (j:=m) (by omega) (by omega) (by omega)
      have hlt : pa k p (m - 1) < pa k p m:=by
        have : ¬ pa k p m < pa k p (m - 1):=c
        omega
      by_cases e : j = m
      · subst e
        by_cases e2 : i = j - 1
        · rw [e2]; exact hlt
        · have:=hu i (j - 1) (by omega) (by omega); omega
      · exact hu i j hij (by omega)
theorem rh (hk : ∀ i j,i < n→j < n→k i = k j→i = j) (hc : ∀ i j C,i < n→j < n→C (decide (k i < k j)) s→cmp i j C s) {p : Array Nat} (hp : PRng n p) {Q : Array Nat × Nat × Nat→Shared→Prop} : ∀ (f m : Nat),1 ≤ m→m + f ≤ n→uI k p m→(∀ m',m ≤ m'→m' ≤ m + f→uI k p m'→Q (p,m',0) s)→KasT.kasWp cmp (kas_desc f p m 0) Q s:=by
  intro f
  induction f with
  | zero =>
    intro m h1 hm hu q
    exact q m (Nat.le_refl _) (Nat.le_refl _) hu
  | succ f ih =>
    intro m h1 hm hu q
    rw [kas_desc.eq_2]
    refine hJ hc (hp.lt (by omega)) (hp.lt (by omega)) ?_
    by_cases c : k (p.getD m 0) < k (p.getD (m - 1) 0)
    · rw [decide_eq_true c,if_pos rfl,if_neg (by decide)]
      refine ih (m + 1) (by omega) (by omega) (fun i j hij hj=>?_) (fun m' a b=>by
        have e : m + 1 + f = m + (f + 1):=by omega
        rw [e] at b
        exact q m' (by omega) b)
      have hlt : pa k p m < pa k p (m - 1):=c
      by_cases e : j = m
      · subst e
        by_cases e2 : i = j - 1
        · rw [e2]; exact hlt
        · have:=hu i (j - 1) (by omega) (by omega); omega
      · exact hu i j hij (by omega)
    · rw [decide_eq_false c,if_neg (by decide)]
      have hne:=qY hk hp (i:=m - 1) (j:=m) (by omega) (by omega) (by omega)
      have hlt : k (p.getD (m - 1) 0) < k (p.getD m 0):=by
        have : pa k p (m - 1) < pa k p m:=by
          have : ¬ pa k p m < pa k p (m - 1):=c
          omega
        exact this
      refine hJ hc (hp.lt (by omega)) (hp.lt (by omega)) ?_
      rw [decide_eq_true hlt,if_pos rfl]
      exact q m (Nat.le_refl _) (by omega) hu
theorem pT (hk : ∀ i j,i < n→j < n→k i = k j→i = j) (hc : ∀ i j C,i < n→j < n→C (decide (k i < k j)) s→cmp i j C s) {p : Array Nat} (hp : PRng n p) {m : Nat} (hm : m < n) (hu : gw k p m) {Q : Nat→Shared→Prop} : ∀ (f l r : Nat),l ≤ r→r ≤ m→r - l ≤ f→(∀ i,i < l→pa k p i < pa k p m)→(∀ i,r ≤ i→i < m→pa k p m < pa k p i) →
    (∀ l,l ≤ m→(∀ i,i < l→pa k p i < pa k p m)→(∀ i,l ≤ i→i < m→pa k p m < pa k p i)→Q l s)→KasT.kasWp cmp (kas_place p m f l r) Q s:=by
  intro f
  induction f with
  | zero =>
    intro l r h1 h2 h3 a b q
    have : l = r:=by omega
    subst this
    exact q l h2 a b
  | succ f ih =>
    intro l r h1 h2 h3 a b q
    rw [kas_place.eq_2]
    by_cases e : l ≥ r
    · rw [if_pos e]
      have : l = r:=by omega
      subst this
      exact q l h2 a b
    · rw [if_neg e]
      refine hJ hc (hp.lt hm) (hp.lt (by omega)) ?_
      by_cases c : k (p.getD m 0) < k (p.getD ((l + r) / 2) 0)
      · rw [decide_eq_true c,if_pos rfl]
        refine ih l _ (by omega) (by omega) (by omega) a (fun i hi him=>?_) q
        have hlt : pa k p m < pa k p ((l + r) / 2):=c
        by_cases e2 : i = (l + r) / 2
        · rw [e2]; exact hlt
        · have:=hu ((l + r) / 2) i (by omega) him; omega
      · rw [decide_eq_false c,if_neg (by decide)]
        have hne:=qY hk hp (i:=m) (j:=(l + r) / 2) (by omega) (by omega) (by omega)
        have hlt : pa k p ((l + r) / 2) < pa k p m:=by
          have : ¬ pa k p m < pa k p ((l + r) / 2):=c
          omega
        refine ih _ r (by omega) h2 (by omega) (fun i hi=>?_) b q
        by_cases e2 : i = (l + r) / 2
        · rw [e2]; exact hlt
        · have:=hu i ((l + r) / 2) (by omega) (by omega); omega
theorem tL (hk : ∀ i j,i < n→j < n→k i = k j→i = j) (hc : ∀ i j C,i < n→j < n→C (decide (k i < k j)) s→cmp i j C s) {Q : Array Nat→Shared→Prop} (q : ∀ p,PRng n p→gw k p n→Q p s) : ∀ (f m : Nat) (p : Array Nat),PRng n p→m + f = n→gw k p m→KasT.kasWp cmp (kas_bin f p m) Q s:=by
  intro f
  induction f with
  | zero =>
    intro m p hp e hu
    have : m = n:=by omega
    subst this
    exact q p hp hu
  | succ f ih =>
    intro m p hp e hu
    rw [kas_bin.eq_2,KasT.kasWp_bind]
    have hm : m < n:=by omega
    refine pT hk hc hp hm hu m 0 m (Nat.zero_le _) (Nat.le_refl _) (by omega) (fun i hi=>absurd hi (Nat.not_lt_zero _)) (fun i h1 h2=>by omega) (fun l hl a b=>?_)
    refine ih (m + 1) _ ((bubble_perm _ _ _).trans hp) (by omega) (fun i j hij hj=>?_)
    have hsz : m < p.size:=by rw [hp.size]; exact hm
    have key : ∀ x,pa k (bubble p m (m - l)) x = if x = l then pa k p m else if l < x∧x ≤ m then pa k p (x - 1) else pa k p x:=fun x=>by
      have g:=getElem?_bubble hsz (m - l) (by omega) x
      have e : m - (m - l) = l:=by omega
      rw [e] at g
      by_cases c1 : x = l
      · rw [if_pos c1]; rw [if_pos c1] at g; exact mM g
      · rw [if_neg c1]; rw [if_neg c1] at g
        by_cases c2 : l < x∧x ≤ m
        · rw [if_pos c2]; rw [if_pos c2] at g; exact mM g
        · rw [if_neg c2]; rw [if_neg c2] at g; exact mM g
    rw [key i,key j]
    by_cases c1 : i = l
    · rw [if_pos c1,if_neg (by omega),if_pos (by omega)]
      exact b (j - 1) (by omega) (by omega)
    · rw [if_neg c1]
      by_cases c2 : l < i∧i ≤ m
      · rw [if_pos c2,if_neg (by omega),if_pos (by omega)]
        exact hu (i - 1) (j - 1) (by omega) (by omega)
      · rw [if_neg c2]
        by_cases c3 : j = l
        · rw [if_pos c3]; exact a i (by omega)
        · rw [if_neg c3]
          by_cases c4 : l < j∧j ≤ m
          · rw [if_pos c4]
            by_cases c5 : i = j - 1
            · omega
            · exact hu i (j - 1) (by omega) (by omega)
          · rw [if_neg c4]; exact hu i j hij (by omega)
theorem rQ (hk : ∀ i j,i < n→j < n→k i = k j→i = j) (hc : ∀ i j C,i < n→j < n→C (decide (k i < k j)) s→cmp i j C s) (hn : 1 ≤ n) {Q : Array Nat→Shared→Prop} (q : ∀ p,PRng n p→gw k p n→Q p s) : KasT.kasWp cmp (kas_sort n) Q s:=by
  have hp0 : PRng n (List.range n).toArray:=Array.Perm.refl _
  have fin : ∀ m p,1 ≤ m→m ≤ n→PRng n p→gw k p m→KasT.kasWp cmp (if (m,p).1 < n then kas_bin (n - max (m,p).1 1) (m,p).2 (max (m,p).1 1) else .ret (m,p).2) Q s:=fun m p h1 h2 hp hu=>by
    show KasT.kasWp cmp (if m < n then kas_bin (n - max m 1) p (max m 1) else .ret p) Q s
    have e : max m 1 = m:=by omega
    by_cases c : m < n
    · rw [if_pos c,e]; exact tL hk hc q _ _ _ hp (by omega) hu
    · rw [if_neg c]
      have : m = n:=by omega
      subst this
      exact q p hp hu
  unfold kas_sort
  rw [KasT.kasWp_bind]
  unfold kas_count
  rw [KasT.kasWp_bind]
  refine qH hk hc hp0 (n - 1) 1 (Nat.le_refl _) (by omega) (fun i j a b=>by omega) (fun m h1 h2 hu hl=>?_)
  by_cases c1 : (m == n) = true
  · rw [if_pos c1]; exact fin m _ h1 (by omega) hp0 hu
  · rw [if_neg c1]
    have c1' : m ≠ n:=fun e=>c1 (by rw [e]; simp)
    by_cases c2 : m > 1
    · rw [if_pos c2]
      refine hJ hc (hp0.lt (by omega)) (hp0.lt (by omega)) ?_
      have : k ((List.range n).toArray.getD 0 0) < k ((List.range n).toArray.getD (m - 1) 0):=hu 0 (m - 1) (by omega) (by omega)
      rw [decide_eq_true this,if_pos rfl]
      exact fin m _ h1 (by omega) hp0 hu
    · rw [if_neg c2]
      have em : m = 1:=by omega
      subst em
      have hd:=hl (by omega)
      unfold kas_descPart
      rw [KasT.kasWp_bind]
      refine rh hk hc hp0 (n - (1 + 1)) (1 + 1) (by omega) (by omega) (fun i j a b=>?_) (fun m h1 h2 hdn=>?_)
      · have : i = 0∧j = 1:=by omega
        rw [this.1,this.2]; exact hd
      · rw [if_neg (Nat.lt_irrefl 0)]
        unfold kas_tail3
        rw [KasT.kasWp_bind]
        have hsz : m ≤ (List.range n).toArray.size:=by rw [hp0.size]; omega
        have hpr : PRng n (kas_rev (List.range n).toArray 0 m):=(mirror_perm _ _ _ _).trans hp0
        have key : ∀ x,x < m→pa k (kas_rev (List.range n).toArray 0 m) x = pa k (List.range n).toArray (0 + m - 1 - x):=fun x hx=>by
          have g:=getElem?_mirror_all (i:=0) hsz x
          rw [if_pos ⟨Nat.zero_le _,hx⟩] at g
          exact mM g
        refine qH hk hc hpr (n - m) m (by omega) (by omega) (fun i j a b=>?_) (fun m' h1' h2' hu' _=>?_)
        · rw [key i (by omega),key j b]
          exact hdn _ _ (by omega) (by omega)
        · exact fin m' _ (by omega) (by omega) hpr hu'
end
end L2
namespace L2
open PySem PySem.Spec PyProof.Rows
section
variable {prog : Program} {w : World} {A : Around} {E : Value→Shared→Prop} {s : Shared}
def PairAt (h : Heap) (v : Value) (a b : Int) : Prop:=∃ t o e ta tb,v = .ref t∧h.get? t = some o∧o.cls = .type "tuple"∧o.data = .seq #[.int a ta,.int b tb] e
theorem rS {x y : Value} {a b a' b' : Int} {Q : Bool→Shared→Prop} (hx : PairAt s.heap x a b) (hy : PairAt s.heap y a' b') (hd : a = a'→b = b') (h : Q (decide (a < a')) s) : wpAny (model prog w) A (keyLt' (tuples' true) x y) Q E s:=by
  obtain ⟨t,o,e,ta,tb,rfl,ho,_,hs⟩:=hx
  obtain ⟨t',o',e',ta',tb',rfl,ho',_,hs'⟩:=hy
  refine PySem.W.kat_lt ho hs ho' hs' (PySem.W.kat_cons (wpAny_eqBool_int (PySem.W.kat_go (fun c=>PySem.W.kat_yes (PySem.W.kat_cons (wpAny_eqBool_int (PySem.W.kat_go (fun c2=>PySem.W.kat_yes (PySem.W.kat_nil ?_)) (fun c2=>?_))))) (fun c=>PySem.W.kat_no (oneLt_int h)))))
  · have e : a = a':=of_decide_eq_true c
    rw [decide_eq_false (by omega)] at h
    exact h
  · have e : a = a':=of_decide_eq_true c
    have:=of_decide_eq_false c2
    exact absurd (hd e) this
theorem PairAt.keep {h : Heap} {v : Value} {a b : Int} {at_ : Addr} {us : List Value} {ep : Nat} {f : Array Value→Array Value} {o1 o2 : Obj} (p : PairAt h v a b) (ho : h.get? at_ = some (seqObj "list" us.toArray ep)) : PairAt (((h.update at_ (Obj.mapSeq f)).push o1).push o2) v a b:=by
  obtain ⟨t,o,e,ta,tb,rfl,h1,h2,h3⟩:=p
  have ne : t ≠ at_:=fun z=>by
    subst z
    rw [ho] at h1; cases h1
    simp [seqObj] at h2
  refine ⟨t,o,e,ta,tb,rfl,?_,h2,h3⟩
  exact Heap.get?_push_of_some _ (Heap.get?_push_of_some _ (by rw [Heap.get?_update_ne _ _ _ _ ne]; exact h1))
theorem gS {h : Heap} : ∀ us : List Value,(∀ v ∈ us,∃ a b,PairAt h v a b)→∃ fs,PySem.W.KatTups h us fs∧fs.length = us.length∧∀ v ∈ fs,∃ a t,v = Value.int a t
  | [],_=>⟨[],.nil,rfl,fun _ z=>by cases z⟩
  | v :: r,hh=>by
    obtain ⟨a,b,t,o,e,ta,tb,rfl,h1,h2,h3⟩:=hh v List.mem_cons_self
    obtain ⟨fs,f1,f2,f3⟩:=gS r fun u hu=>hh u (List.mem_cons_of_mem _ hu)
    refine ⟨.int a ta :: fs,.cons h1 h2 h3 rfl f1,by simp [f2],fun u hu=>?_⟩
    rcases List.mem_cons.mp hu with z | z
    · exact ⟨a,ta,z⟩
    · exact f3 u z
theorem l7 {at_ : Addr} {us : List Value} {ep : Nat} {R : Fin→Shared→Prop} {ka kb : Nat→Int} (ho : s.heap.get? at_ = some (seqObj "list" us.toArray ep)) (hP : ∀ i,i < us.length→PairAt s.heap (us.getD i .none) (ka i) (kb i)) (hd : ∀ i j,i < us.length→j < us.length→ka i = ka j→i = j) (hz : us.length < 64)
    (k : ∀ p : Array Nat,PRng us.length p→gw ka p us.length→R (.done (.ret .none)) { s with heap:=sortedHeap s.heap at_ us (p.toList.map fun i=>us.getD i .none).toArray }) :
    wpAny (model prog w) A (Builtin.«list.sort» ⟨[.ref at_],[]⟩) R E s:=by
  have lt0 : at_ < s.heap.objs.size:=Heap.lt_size ho
  have line : us.length ≤ sizeLine:=bW (m:=64) (by omega)
  rw [list_sort_plain]
  refine wpAny_bind (listItems_at ho rfl (wpAny_bind (listUpdate_at ho rfl ?_ (by rw [List.size_toArray]; exact line) (by simp))))
  obtain ⟨ep1,ho1⟩ : ∃ ep1,(s.heap.update at_ (Obj.mapSeq fun _=>#[])).get? at_ = some (seqObj "list" #[] ep1):=⟨_,get?_update_seq ho (fun _=>#[])⟩
  refine wpAny_bind (seqEpoch_at ho1 rfl (wpAny_bind (wpAny_newTuple (wpAny_bind (wpAny_newList (wpAny_holding ?_))))))
  have ho2 : (((s.heap.update at_ (Obj.mapSeq fun _=>#[])).push (seqObj "tuple" us.toArray 0)).push (seqObj "list" #[] 0)).get? at_ = some (seqObj "list" #[] ep1):=by
    rw [Heap.get?_push_ne,Heap.get?_push_ne]
    · exact ho1
    · rw [Heap.size_update]; exact Nat.ne_of_lt lt0
    · rw [size_push',Heap.size_update]; exact Nat.ne_of_lt (Nat.lt_succ_of_lt lt0)
  show wpAny (model prog w) A _ R E { s with heap:=((s.heap.update at_ (Obj.mapSeq fun _=>#[])).push (seqObj "tuple" us.toArray 0)).push (seqObj "list" #[] 0) }
  dsimp only
  have fin : ∀ (st2 : SortSt) (p : Array Nat),(arrOf st2).map (·.2) = (p.toList.map fun i=>us.getD i .none).toArray→failedOf st2 = none→PRng us.length p→gw ka p us.length→R (.done (.ret .none)) { s with heap:=sortedHeap s.heap at_ us ((arrOf st2).map (·.2)) }:=fun st2 p e _ h1 h2=>by rw [e]; exact k p h1 h2
  by_cases h2 : us.length < 2
  · rw [if_pos (by rw [List.size_toArray]; exact h2),if_pos (by rw [List.size_toArray]; exact h2)]
    refine wpAny_bind (wpAny_pure (wpAny_bind (wpAny_pure ?_)))
    dsimp only
    have hp0 : PRng us.length (List.range us.length).toArray:=Array.Perm.refl _
    have e : ((us.toArray.zip us.toArray).map (·.2)) = ((List.range us.length).toArray.toList.map fun i=>us.getD i .none).toArray:=by
      rcases us with _ | ⟨v1,_ | ⟨v2,more⟩⟩
      · simp
      · simp
      · simp at h2; omega
    have hout : ((us.toArray.zip us.toArray).map (·.2)).size = us.length:=by simp
    refine wpAny_bind (seqEpoch_at ho2 rfl (wpAny_bind (listUpdate_at ho2 rfl ?_ (Nat.zero_le _) (by show ((us.toArray.zip us.toArray).map (·.2)).size ≤ _; rw [hout]; exact Nat.le_succ_of_le line))))
    simp only [bne_self_eq_false,Bool.false_eq_true,if_false]
    refine wpAny_pure ?_
    have:=k _ hp0 (fun i j h1 h2=>by omega)
    rw [← e] at this
    exact this
  · rw [if_neg (by rw [List.size_toArray]; exact h2),if_neg (by rw [List.size_toArray]; exact h2)]
    have hP2 : ∀ i,i < us.length→PairAt (((s.heap.update at_ (Obj.mapSeq fun _=>#[])).push (seqObj "tuple" us.toArray 0)).push (seqObj "list" #[] 0)) (us.getD i .none) (ka i) (kb i):=fun i hi=>(hP i hi).keep ho
    obtain ⟨fs,f1,f2,f3⟩:=gS us fun v hv=>by
      obtain ⟨i,hi,e⟩:=List.getElem_of_mem hv
      have:=hP2 i hi
      rw [List.getD_eq_getElem?_getD,List.getElem?_eq_getElem hi,Option.getD_some,e] at this
      exact ⟨_,_,this⟩
    refine wpAny_bind (PySem.W.kat_kind (T:=.type "int") f1 (by rw [f2]; omega) (fun v hv=>?_) (by decide) ?_)
    · obtain ⟨a,tk,rfl⟩:=f3 v hv
      exact fun A Q E s _ q=>wpAny_pure q
    refine wpAny_bind (wpAny_mono (PySem.W.kat_run (vs:=us) (ks:=us) (Q:=fun st' s'=>s' = { s with heap:=((s.heap.update at_ (Obj.mapSeq fun _=>#[])).push (seqObj "tuple" us.toArray 0)).push (seqObj "list" #[] 0) }∧∃ p,(arrOf st').map (·.2) = (p.toList.map fun i=>us.getD i .none).toArray∧failedOf st' = none∧PRng us.length p∧gw ka p us.length) (G:=fun p s'=>s' = { s with heap:=((s.heap.update at_ (Obj.mapSeq fun _=>#[])).push (seqObj "tuple" us.toArray 0)).push (seqObj "list" #[] 0) }∧PRng us.length p∧gw ka p us.length) rfl (by omega) hz (fun p st' s' h1 h2 h3 h4=>⟨h4.1,p,PySem.W.kat_snds rfl h2,h3,h4.2⟩) ?_) ?_ fun _ _ z=>z)
    rotate_left
    · rintro ⟨⟨⟩,st'⟩ s' ⟨rfl,p,e,h3,hp,hu⟩
      dsimp only at e h3 ⊢
      have hout : ((arrOf st').map (·.2)).size = us.length:=by rw [e]; simp [hp.size]
      refine wpAny_bind (seqEpoch_at ho2 rfl (wpAny_bind (listUpdate_at ho2 rfl ?_ (Nat.zero_le _) (by show ((arrOf st').map (·.2)).size ≤ _; rw [hout]; exact Nat.le_succ_of_le line))))
      rw [h3]
      simp only [bne_self_eq_false,Bool.false_eq_true,if_false]
      exact wpAny_pure (fin st' p e h3 hp hu)
    · refine rQ (k:=ka) hd (fun i j C hi hj hC=>?_) (by omega) (fun p hp hu=>⟨rfl,hp,hu⟩)
      exact rS (hP2 i hi) (hP2 j hj) (fun e=>by rw [hd i j hi hj e]) hC
theorem PairAt.up {h h' : Heap} {v : Value} {a b : Int} (p : PairAt h v a b) (k : ∀ b o,h.get? b = some o→h'.get? b = some o) : PairAt h' v a b:=by
  obtain ⟨t,o,e,ta,tb,rfl,h1,h2,h3⟩:=p
  exact ⟨t,o,e,ta,tb,rfl,k _ _ h1,h2,h3⟩
theorem j3 {l : Addr} {us : List Value} {Q : Value→Shared→Prop} {ka kb : Nat→Int} (hl : s.heap.IsList l us.toArray) (hP : ∀ i,i < us.length→PairAt s.heap (us.getD i .none) (ka i) (kb i)) (hd : ∀ i j,i < us.length→j < us.length→ka i = ka j→i = j) (hz : us.length < 64)
    (k : ∀ p : Array Nat,PRng us.length p→gw ka p us.length→Q (.ref (s.heap.objs.size + 1)) { s with heap:=sortedAll s.heap us (p.toList.map fun i=>us.getD i .none).toArray }) :
    wpAny (model prog w) A (call (.builtin "sorted") [.ref l]) Q E s:=by
  refine Calls.call_function_entry kind_sorted plain_sorted entry_sorted (args_sorted1 _) ?_
  unfold Builtin.«sorted»
  refine wpAny_bind (m:=checkCount "sorted" 1 1 _) (wpAny_pure (wpAny_bind (collect_list hl (wpAny_bind (wpAny_newList ?_ (bW (m:=64) (by omega)))) (bW (m:=64) (by omega)))))
  have sz : ((s.heap.push (seqObj "list" #[] 0)).update s.heap.objs.size (Obj.mapSeq (· ++ us.toArray))).objs.size = s.heap.objs.size + 1:=by rw [Heap.size_update,size_push']
  have hoL : (((s.heap.push (seqObj "list" #[] 0)).update s.heap.objs.size (Obj.mapSeq (· ++ us.toArray))).push (seqObj "list" us.toArray 0)).get? (s.heap.objs.size + 1) = some (seqObj "list" us.toArray 0):=by
    have:=Heap.get?_push_size ((s.heap.push (seqObj "list" #[] 0)).update s.heap.objs.size (Obj.mapSeq (· ++ us.toArray))) (o:=seqObj "list" us.toArray 0) rfl
    rwa [sz] at this
  have hup : ∀ b o,s.heap.get? b = some o→(((s.heap.push (seqObj "list" #[] 0)).update s.heap.objs.size (Obj.mapSeq (· ++ us.toArray))).push (seqObj "list" us.toArray 0)).get? b = some o:=fun b o h=>Heap.get?_push_of_some _ (by rw [Heap.get?_update_ne _ _ _ _ (Nat.ne_of_lt (Heap.lt_size h))]; exact Heap.get?_push_of_some _ h)
  show wpAny _ _ _ _ _ { s with heap:=((s.heap.push (seqObj "list" #[] 0)).update s.heap.objs.size (Obj.mapSeq (· ++ us.toArray))).push (seqObj "list" us.toArray 0) }
  rw [sz]
  refine wpAny_bind (wpAny_holding (wpAny_call_entry slot_list_sort ⟨_,hoL,rfl⟩ entry_list_sort (l7 hoL (fun i hi=>(hP i hi).up hup) hd hz fun p y1 y2=>⟨_,rfl,?_⟩) (args_list_sort _)))
  exact wpAny_pure ⟨_,rfl,k p y1 y2⟩
end
theorem kO : ∀ {ts : List (Addr × Int × Int)} {us : List Value},Vals (ts.map fun t=>V.ref t.1) us→us = ts.map fun t=>Value.ref t.1
  | [],_,.nil=>rfl
  | t :: r,_,.cons h q=>by cases h; rw [kO q]; rfl
theorem pA (ts : List (Addr × Int × Int)) : Vals (ts.map fun t=>V.ref t.1) (ts.map fun t=>Value.ref t.1):=by
  induction ts with
  | nil=>exact .nil
  | cons a b ih=>exact .cons rfl ih
theorem nu {α : Type} {ts : List α} {d : α} {p : Array Nat} (h : PRng ts.length p) : (p.toList.map fun i=>ts.getD i d).Perm ts:=by
  have h1:=(Array.perm_iff_toList_perm.mp h).map (fun i=>ts.getD i d)
  have e : (List.range ts.length).map (fun i=>ts.getD i d) = ts:=by
    apply List.ext_getElem?
    intro i
    rw [List.getElem?_map]
    rcases Nat.lt_or_ge i ts.length with c | c
    · rw [List.getElem?_range c,List.getElem?_eq_getElem c]; simp [List.getElem?_eq_getElem c]
    · rw [List.getElem?_eq_none (by simpa using c),List.getElem?_eq_none c]; rfl
  have h1' : (p.toList.map fun i=>ts.getD i d).Perm ((List.range ts.length).map fun i=>ts.getD i d):=h1
  rw [e] at h1'
  exact h1'
section
variable {X : Cx}
theorem jY {K : PySem.W.Frag} (hK : X.K = K) : dg X (.builtin "sorted") (fun xs H Q=>∃ (a : Addr) (ts : List (Addr × Int × Int)),xs = [.ref a]∧SqL K H a (ts.map fun t=>V.ref t.1)∧ts.length < 64∧(∀ t ∈ ts,SqT K H t.1 [.int t.2.1,.int t.2.2])∧(ts.map fun t=>t.2.1).Nodup ∧
    ∀ (p : Addr) (ts' : List (Addr × Int × Int)),H p = none→ts'.Perm ts→ts'.Pairwise (fun x y=>x.2.1 < y.2.1)→Q (.ref p) (upd H p (.lst (ts'.map fun t=>V.ref t.1)))):=by
  subst hK
  intro pins s σ H xs us Q I r h
  obtain ⟨a,ts,rfl,ha,hz,ht,nd,q⟩:=h
  obtain ⟨u,rfl,ru⟩:=de r
  cases ru
  obtain ⟨its,rv,pl,_⟩:=I.list ha
  have ei:=kO rv
  subst ei
  have hlen : (ts.map fun t=>Value.ref t.1).length = ts.length:=List.length_map _
  have hgd : ∀ i,i < ts.length→∃ t ∈ ts,ts[i]? = some t∧(ts.map fun t=>Value.ref t.1).getD i .none = .ref t.1∧ts.getD i (0,0,0) = t:=fun i hi=>by
    refine ⟨ts[i],List.getElem_mem _,by simp [hi],?_,?_⟩
    · simp [hi]
    · simp [hi]
  refine j3 (ka:=fun i=>(ts.getD i (0,0,0)).2.1) (kb:=fun i=>(ts.getD i (0,0,0)).2.2) pl.isList (fun i hi=>?_) (fun i j hi hj e=>?_) (by rw [hlen]; exact hz) (fun p hp hu=>?_)
  · rw [hlen] at hi
    obtain ⟨t,tm,_,e1,e2⟩:=hgd i hi
    rw [e1]
    show PairAt _ _ (ts.getD i (0,0,0)).2.1 (ts.getD i (0,0,0)).2.2
    rw [e2]
    obtain ⟨jts,rj,⟨o,o1,o2,n,o3⟩,_⟩:=I.tuple (ht t tm)
    cases rj with
    | cons h1 q1=>cases q1 with
      | cons h2 q2 =>
        cases q2
        obtain ⟨t1,rfl⟩:=h1
        obtain ⟨t2,rfl⟩:=h2
        exact ⟨t.1,o,n,t1,t2,rfl,o1,o2,o3⟩
  · rw [hlen] at hi hj
    obtain ⟨t,_,a1,_,e2⟩:=hgd i hi
    obtain ⟨t',_,a2,_,e3⟩:=hgd j hj
    have e' : (ts.getD i (0,0,0)).2.1 = (ts.getD j (0,0,0)).2.1:=e
    rw [e2,e3] at e'
    refine (List.getElem?_inj (l:=ts.map fun t=>t.2.1) (by rw [List.length_map]; exact hi) nd).mp ?_
    rw [List.getElem?_map,List.getElem?_map,a1,a2]
    show some t.2.1 = some t'.2.1
    rw [e']
  · rw [hlen] at hp hu
    have hs:=hp.size
    have eo : (p.toList.map fun i=>(ts.map fun t=>Value.ref t.1).getD i .none) = (p.toList.map fun i=>ts.getD i (0,0,0)).map fun t=>Value.ref t.1:=by
      rw [List.map_map]
      refine List.map_congr_left fun i hi=>?_
      have hin : i < ts.length:=by
        have:=(Array.perm_iff_toList_perm.mp hp).mem_iff.mp hi
        simpa using this
      obtain ⟨t,_,_,e1,e2⟩:=hgd i hin
      rw [e1]
      show _ = Value.ref (ts.getD i (0,0,0)).1
      rw [e2]
    obtain ⟨e,he⟩:=sortedAll_at s.heap (ts.map fun t=>Value.ref t.1) (p.toList.map fun i=>(ts.map fun t=>Value.ref t.1).getD i .none).toArray
    have pm:=nu (d:=((0,0,0) : Addr × Int × Int)) hp
    have hz2 : ((p.toList.map fun i=>ts.getD i (0,0,0)).map fun t=>V.ref t.1).length ≤ sizeLine:=by rw [List.length_map,pm.length_eq]; exact bW (m:=64) (by omega)
    refine ⟨.ref (s.heap.objs.size + 1),_,I.laid (t':=s.toks) (o:=.lst ((p.toList.map fun i=>ts.getD i (0,0,0)).map fun t=>V.ref t.1)) (fun b o=>sortedAll_old) (Nat.le_succ _) ⟨hz2,_,e,pA _,by rw [← eo]; exact he⟩,rfl,q _ _ (I.hok.fresh (Nat.le_succ _)) pm ?_⟩
    rw [List.pairwise_iff_getElem]
    intro i j hi hj hij
    rw [List.length_map,Array.length_toList,hs] at hi hj
    rw [List.getElem_map,List.getElem_map]
    have:=hu i j hij hj
    unfold pa at this
    have g : ∀ x (hx : x < ts.length),p.getD x 0 = p.toList[x]'(by rw [Array.length_toList,hs]; exact hx):=fun x hx=>by
      rw [Array.getD_eq_getD_getElem?,Array.getElem?_eq_getElem (by omega)]; simp
    rw [g i hi,g j hj] at this
    exact this
end
section
variable {X : Cx} {elt tg iter : Expr} {ifs : List Expr} {scope : Scope} {pos : Pos} {wi : TI} {tt : TTg} {tc : TT} {te : TE}
theorem nK : dg X (.builtin "abs") (fun xs H Q=>∃ i,xs = [.int i]∧Q (.int (if i < 0 then -i else i)) H):=by
  intro pins s σ H xs us Q I r h
  obtain ⟨i,rfl,q⟩:=h
  obtain ⟨u,rfl,t,rfl⟩:=de r
  exact call_abs_int fun u tk=>⟨.int (if i < 0 then -i else i),H,I.kept fun _ _ h=>h,⟨u,rfl⟩,q⟩
end
end L2
namespace L2
open PySem
section
variable {P : List Value→Prop}
theorem qd {n : Nat} (h : ∀ a (us : List Value),us.length = n→P (a :: us)) (us : List Value) (e : us.length = n + 1) : P us:=by
  cases us with
  | nil=>exact absurd e (Nat.succ_ne_zero n).symm
  | cons a us=>exact h a us (Nat.succ.inj e)
theorem vz (h : P []) (us : List Value) (e : us.length = 0) : P us:=by
  rw [List.length_eq_zero_iff.mp e]; exact h
theorem arg1 (h : ∀ a,P [a]) : ∀ us : List Value,us.length = 1→P us:=qd fun a=>vz (h a)
theorem arg2 (h : ∀ a b,P [a,b]) : ∀ us : List Value,us.length = 2→P us:=qd fun a=>arg1 (P:=fun us=>P (a :: us)) (h a)
theorem arg3 (h : ∀ a b c,P [a,b,c]) : ∀ us : List Value,us.length = 3→P us:=qd fun a=>arg2 (P:=fun us=>P (a :: us)) (h a)
theorem vP (h : ∀ a b c d,P [a,b,c,d]) : ∀ us : List Value,us.length = 4→P us:=qd fun a=>arg3 (P:=fun us=>P (a :: us)) (h a)
theorem arg5 (h : ∀ a b c d e,P [a,b,c,d,e]) : ∀ us : List Value,us.length = 5→P us:=qd fun a=>vP (P:=fun us=>P (a :: us)) (h a)
end
end L2
namespace L2
open PySem PySem.Spec PyProof.Rows
section
variable {X : Cx}
end
section
variable {X : Cx}
def uQ : TIp:=fun x y H Q=>∃ i j,x = .int i∧y = .int j∧CMul i j∧Q (.int (i * j)) H
theorem ui : PIp X .Mult uQ:=by
  intro pins s σ H x y v u Q I r1 r2 h
  obtain ⟨i,j,e1,e2,hc,q⟩:=h
  subst e1; subst e2
  obtain ⟨t,rfl⟩:=r1
  obtain ⟨t',rfl⟩:=r2
  exact imul_int ⟨.int _,H,I.tok _,⟨_,rfl⟩,q⟩ hc.ok
end
abbrev eT:=Int × List (Int × Int)
abbrev m9 : Rel (List (Int × Int)):=d4 (rT2 cu cu)
abbrev rPR : Rel eT:=rT2 cu m9
abbrev rPG : Rel (List eT):=d4 rPR
theorem nT : MonoR m9:=bw (gA bg bg)
theorem dq : MonoR rPR:=gA bg nT
def WaysAt (H : Hp) (wa : Addr) (ts : List (Addr × Int × Int)) : Prop:=H wa = some (.lst (ts.map fun t=>V.ref t.1))∧∀ t ∈ ts,H t.1 = some (.tup [.int t.2.1,.int t.2.2])
theorem iz {H : Hp} : ∀ {ws : List (Int × Int)} {vs : List V},Paired (rT2 cu cu H) ws vs→∃ ts : List (Addr × Int × Int),vs = (ts.map fun t=>V.ref t.1)∧(ts.map fun t=>t.2) = ws∧∀ t ∈ ts,H t.1 = some (.tup [.int t.2.1,.int t.2.2])
  | _,_,.nil=>⟨[],rfl,rfl,fun _ z=>by cases z⟩
  | w :: _,_,.cons h q=>by
    obtain ⟨ts,e1,e2,e3⟩:=iz q
    obtain ⟨a,x,y,rfl,ha,hx,hy⟩:=h
    cases hx; cases hy
    refine ⟨(a,w.1,w.2) :: ts,by rw [e1]; rfl,by rw [← e2]; rfl,fun t ht=>?_⟩
    rcases List.mem_cons.mp ht with z | z
    · rw [z]; exact ha
    · exact e3 t z
theorem ia {H : Hp} : ∀ {ts : List (Addr × Int × Int)},(∀ t ∈ ts,H t.1 = some (.tup [.int t.2.1,.int t.2.2]))→Paired (rT2 cu cu H) (ts.map fun t=>t.2) (ts.map fun t=>V.ref t.1)
  | [],_=>.nil
  | t :: r,h=>.cons ⟨t.1,_,_,rfl,h t List.mem_cons_self,rfl,rfl⟩ (ia fun u hu=>h u (List.mem_cons_of_mem _ hu))
theorem rP {H : Hp} {ws : List (Int × Int)} {v : V} (h : m9 H ws v) : ∃ wa ts,v = .ref wa∧WaysAt H wa ts∧(ts.map fun t=>t.2) = ws:=by
  obtain ⟨wa,vs,rfl,h1,p⟩:=h
  obtain ⟨ts,rfl,e2,e3⟩:=iz p
  exact ⟨wa,ts,rfl,⟨h1,e3⟩,e2⟩
theorem WaysAt.rel {H : Hp} {wa : Addr} {ts : List (Addr × Int × Int)} (h : WaysAt H wa ts) : m9 H (ts.map fun t=>t.2) (.ref wa):=⟨wa,_,rfl,h.1,ia h.2⟩
theorem WaysAt.up {H H' : Hp} {wa : Addr} {ts : List (Addr × Int × Int)} (h : WaysAt H wa ts) (s : Same H H') : WaysAt H' wa ts:=⟨s _ _ h.1,fun t ht=>s _ _ (h.2 t ht)⟩
theorem oD {H : Hp} {r : eT} {v : V} (h : rPR H r v) : ∃ t wa ts,v = .ref t∧H t = some (.tup [.int r.1,.ref wa])∧WaysAt H wa ts∧(ts.map fun t=>t.2) = r.2:=by
  obtain ⟨t,x,y,rfl,h1,h2,h3⟩:=h
  cases h2
  obtain ⟨wa,ts,rfl,h4,h5⟩:=rP h3
  exact ⟨t,wa,ts,rfl,h1,h4,h5⟩
theorem kh {H : Hp} {G : List eT} {v : V} (h : rPG H G v) : ∃ g vs,v = .ref g∧H g = some (.lst vs)∧vs.length = G.length ∧
    ∀ (i : Nat) (r : eT),G[i]? = some r→∃ t wa ts,vs[i]? = some (.ref t)∧H t = some (.tup [.int r.1,.ref wa])∧WaysAt H wa ts∧(ts.map fun t=>t.2) = r.2:=by
  obtain ⟨g,vs,rfl,h1,p⟩:=h
  refine ⟨g,vs,rfl,h1,p.length.symm,fun i r hr=>?_⟩
  obtain ⟨y,hy,ry⟩:=Paired.at p hr
  obtain ⟨t,wa,ts,rfl,h2,h3,h4⟩:=oD ry
  exact ⟨t,wa,ts,hy,h2,h3,h4⟩
theorem mT : ∀ {xs ys : List (Int × Int)},xs.Perm ys→xs.Pairwise (fun a b=>a.1 < b.1)→ys.Pairwise (fun a b=>a.1 < b.1)→xs = ys
  | [],ys,p,_,_=>p.nil_eq
  | x :: xs,ys,p,h1,h2=>by
    cases ys with
    | nil=>exact absurd p.symm.nil_eq (by simp)
    | cons y ys =>
      rw [List.pairwise_cons] at h1 h2
      have e : x = y:=by
        have hx : x ∈ y :: ys:=p.mem_iff.mp List.mem_cons_self
        have hy : y ∈ x :: xs:=p.mem_iff.mpr List.mem_cons_self
        rcases List.mem_cons.mp hx with z | z
        · exact z
        · rcases List.mem_cons.mp hy with z2 | z2
          · exact z2.symm
          · have a:=h2.1 x z
            have b:=h1.1 y z2
            omega
      subst e
      rw [mT (List.Perm.cons_inv p) h1.2 h2.2]
abbrev K0 : PySem.W.Frag:=[]
theorem SqL.k0 {K : PySem.W.Frag} {H : Hp} {a : Addr} {xs : List V} (h : SqL K0 H a xs) : SqL K H a xs:=by
  rcases h with h | ⟨o,_,_,hk,_⟩
  · exact .inl h
  · cases hk
section
variable {X : Cx}
theorem Itl.le (a : Addr) {K : PySem.W.Frag} : (∀ i H,(Itl K0 a).go i H→(Itl K a).go i H)∧(∀ i H x H',(Itl K a).yld i H x H'→(Itl K0 a).yld i H x H')∧∀ i H,(Itl K0 a).stop i H→(Itl K a).stop i H :=
  ⟨fun i H ⟨xs,x,h1,h2⟩=>⟨xs,x,h1.k0,h2⟩,fun i H x H' ⟨e,h⟩=>⟨e,fun xs hx=>h xs hx.k0⟩,fun i H ⟨xs,h1,h2⟩=>⟨xs,h1.k0,h2⟩⟩
theorem Turn.le {P : Program} {w : World} {K : PySem.W.Frag} {tg : Expr} {J J' : It} {fp : List Addr} {it : Addr} {tn : Nat→Heap→Prop} (t : Turn P w K tg J fp it tn) (h : (∀ i H,J'.go i H→J.go i H)∧(∀ i H x H',J.yld i H x H'→J'.yld i H x H')∧∀ i H,J'.stop i H→J.stop i H) : Turn P w K tg J' fp it tn where
  mem:=t.mem
  obj:=t.obj
  keep:=t.keep
  item:=fun X e1 e2 e3 e4 i pins s σ H E I hf ht hg=>by
    refine wpAny_mono (t.item X e1 e2 e3 e4 i pins s σ H E I hf ht (h.1 i H hg)) (fun r s1 hm0=>?_) fun _ _ z=>z
    obtain ⟨u,e,q⟩:=hm0
    refine ⟨u,e,?_⟩
    refine wpAny_mono q (fun _ s2 hm0=>?_) fun _ _ z=>z
    obtain ⟨x,H',I',r',y,z⟩:=hm0
    exact ⟨x,H',I',r',h.2.1 i H x H' y,z⟩
  done:=fun X e1 e2 e3 e4 i pins s σ H E I hf ht hg=>t.done X e1 e2 e3 e4 i pins s σ H E I hf ht (h.2.2 i H hg)
  self:=t.self
theorem PIE.le {pins : List (Addr × Obj)} {σ : St} {tg : Expr} {R R' : It→Hp→Prop} {v : Value} {s : Shared} (h : PIE X pins σ tg R' v s) (f : ∀ J H,R' J H→∃ J',((∀ i H,J'.go i H→J.go i H)∧(∀ i H x H',J.yld i H x H'→J'.yld i H x H')∧∀ i H,J'.stop i H→J.stop i H)∧R J' H) : PIE X pins σ tg R v s:=by
  obtain ⟨it,fp,tn,J,H',e,I,t,z,g,r⟩:=h
  obtain ⟨J',l,r'⟩:=f J H' r
  exact ⟨it,fp,tn,J',H',e,I,t.le l,z,g,r'⟩
theorem PE.wish {e : Expr} {t : TE} (h : PE X e t) (Q0 : V→Hp→Prop) : PE X e (fun σ H Q=>t σ H Q0∧∀ x H1,Q0 x H1→Q x H1):=fun pins s σ H Q I ⟨h1,h2⟩=>wpAny_mono (h pins s σ H Q0 I h1) (fun _ _ ⟨x,H1,I1,r1,q1⟩=>⟨x,H1,I1,r1,h2 x H1 q1⟩) fun _ _ z=>z
theorem fD {tg l : Expr} {tl : TE} (hl : PE X l tl) : PI X tg l (tE K0 tl):=fun pins s σ H R I h =>
  wpAny_mono (bj (hl.wish (fun x H1=>∃ a,x = .ref a∧(∃ xs,SqL K0 H1 a xs)∧R (Itl K0 a) H1)) pins s σ H (fun J H'=>∃ a,J = Itl X.K a∧R (Itl K0 a) H') I ⟨h,fun x H1 ⟨a,e,⟨xs,hx⟩,r⟩=>⟨a,e,⟨xs,hx.k0⟩,a,rfl,r⟩⟩)
    (fun _ _ q=>wpAny_mono q (fun _ _ p=>p.le fun J H' ⟨a,e,r⟩=>⟨Itl K0 a,by subst e; exact Itl.le a,r⟩) fun _ _ z=>z) fun _ _ z=>z
end
theorem n0 {K : PySem.W.Frag} {a : Addr} {xs : List V} {tt : TTg} {tc : TT} {te : TE} {cap : List Nat} {σ : St} {H : Hp} {D : Addr→List V→Hp→Prop} (Pv : Nat→List V→Hp→Prop) (h0 : Pv 0 [] H) (hz : xs.length ≤ sizeLine) (hl : ∀ i ys H,i ≤ xs.length→Pv i ys H→SqT K H a xs∧ys.length ≤ i)
    (hs : ∀ i x ys H,xs[i]? = some x→Pv i ys H→tt x H fun ws=>tc (ws.map some ++ aT σ cap) H fun b H4=>if b = true then te (ws.map some ++ aT σ cap) H4 fun y H5=>Pv (i + 1) (ys ++ [y]) H5 else Pv (i + 1) ys H4)
    (hd : ∀ ys H,Pv xs.length ys H→∀ p,H p = none→D p ys H) :
    ∃ W : Nat→Nat→List V→Hp→Prop,(∃ m,W 0 m [] H)∧∀ i m ys H2,W i m ys H2 →
    ((Itt K a).stop i H2∧ys.length ≤ sizeLine∧∀ p,H2 p = none→D p ys H2) ∨
    ((Itt K a).go i H2∧∃ N : List V→Hp→Prop,(∀ ys' H',N ys' H'→ys'.length ≤ sizeLine∧∃ m',m' < m∧W (i + 1) m' ys' H') ∧
      ∀ x H3,(Itt K a).yld i H2 x H3→tt x H3 fun ws=>tc (ws.map some ++ aT σ cap) H3 fun b H4 =>
        if b = true then te (ws.map some ++ aT σ cap) H4 fun y H5=>N (ys ++ [y]) H5 else N ys H4):=by
  refine ⟨fun i m ys H=>m = xs.length - i∧i ≤ xs.length∧Pv i ys H,⟨xs.length,by simp,Nat.zero_le _,h0⟩,?_⟩
  rintro i m ys H2 ⟨rfl,hi,p⟩
  obtain ⟨q,hy⟩:=hl i ys H2 hi p
  by_cases hlt : i < xs.length
  · refine .inr ⟨⟨xs,xs[i],q,by simp [hlt]⟩,Pv (i + 1),fun ys' H' r=>?_,fun x H3 y=>?_⟩
    · obtain ⟨_,h2⟩:=hl (i + 1) ys' H' hlt r
      exact ⟨by omega,xs.length - (i + 1),by omega,rfl,hlt,r⟩
    · obtain ⟨e,y⟩:=y
      subst e
      exact hs i x ys _ (y xs q) p
  · have e : i = xs.length:=by omega
    subst e
    exact .inl ⟨⟨xs,q,Nat.le_refl _⟩,by omega,hd ys H2 p⟩
end L2
namespace L2
open PySem
section
variable {X : Cx} {pins : List (Addr × Obj)} {σ : St} {H : Hp} {s : Shared} {a : Addr} {kvs : List (Key × V)} {k : Key} {u : Value} {A : Around} {E : Value→Shared→Prop}
end
section
variable {X : Cx} {o e f : Expr} {apos cpos : Pos} {td ty tx : TE}
end
end L2
namespace L2
open PySem PySem.Spec PyProof.Rows
section
variable {X : Cx}
end
section
variable {X : Cx}
end
section
variable {X : Cx} {o i : Expr} {pos : Pos} {td ty : TE}
end
def dP : Str × NameKind→List (Str × Addr)→Sem (ForInStep (List (Str × Addr))):=fun x cells =>
  match x with
  | (name,kind)=>if (kind == NameKind.cell) = true then do
      let a ← alloc { cls:=Value.type "cell",data:=Data.cell none }
      pure (ForInStep.yield ((name,a) :: cells))
    else pure (ForInStep.yield cells)
theorem ii : ∀ (ns : List (Str × NameKind)) (cs : List (Str × Addr)),(∀ y ∈ ns,y.2 ≠ .cell)→(forIn ns cs dP : Sem (List (Str × Addr))) = pure cs
  | [],_,_=>rfl
  | (n,k) :: r,cs,h=>by
    have hk : (k == NameKind.cell) = false:=by
      have:=h (n,k) List.mem_cons_self
      simpa using this
    rw [List.forIn_cons]
    simp only [dP,hk,Bool.false_eq_true,if_false,pure_bind]
    exact ii r cs fun y hy=>h y (List.mem_cons_of_mem _ hy)
theorem jv : ∀ (pre : List (Str × NameKind)) (y0 : Str) (post : List (Str × NameKind)) (cs : List (Str × Addr)),(∀ y ∈ pre,y.2 ≠ .cell)→(∀ y ∈ post,y.2 ≠ .cell) →
    (forIn (pre ++ (y0,NameKind.cell) :: post) cs dP : Sem (List (Str × Addr))) = (do let a ← alloc { cls:=Value.type "cell",data:=Data.cell none }; pure ((y0,a) :: cs))
  | [],y0,post,cs,_,h2=>by
    rw [List.nil_append,List.forIn_cons]
    simp only [dP,beq_self_eq_true,if_true,bind_assoc,pure_bind]
    refine bind_congr fun a=>?_
    exact ii post _ h2
  | (n,k) :: r,y0,post,cs,h1,h2=>by
    have hk : (k == NameKind.cell) = false:=by
      have:=h1 (n,k) List.mem_cons_self
      simpa using this
    rw [List.cons_append,List.forIn_cons]
    simp only [dP,hk,Bool.false_eq_true,if_false,pure_bind]
    exact jv r y0 post cs (fun y hy=>h1 y (List.mem_cons_of_mem _ hy)) h2
theorem fj {M : Model} {A : Around} {E : Value→Shared→Prop} {s : Shared} {scope : Scope} {globals : Addr} {cl : List (Str × Addr)} {qual : Str} {env : Env} {Q : Env→Shared→Prop} {pre post : List (Str × NameKind)} {y0 : Str}
    (hn : scope.names = pre ++ (y0,NameKind.cell) :: post) (h1 : ∀ y ∈ pre,y.2 ≠ .cell) (h2 : ∀ y ∈ post,y.2 ≠ .cell)
    (h : Q { scope:=scope,locals:=s.heap.objs.size,globals:=globals,cells:=(y0,s.heap.objs.size + 1) :: cl,qual:=qual,func:=none,code:=env.code,frame:=env.frame,builtins:=env.builtins } { s with heap:=(s.heap.push { cls:=.type "dict",data:=.dict #[] }).push { cls:=.type "cell",data:=.cell none } }) :
    wpAny M A (newFunctionEnv scope globals cl [] qual none .none (some env)) Q E s:=by
  unfold newFunctionEnv
  refine wpAny_bind (wpAny_alloc ?_)
  have e:=jv pre y0 post cl h1 h2
  rw [← hn] at e
  show wpAny M A (do
    let __s ← (forIn scope.names cl dP : Sem (List (Str × Addr)))
    _) Q E _
  rw [e]
  refine wpAny_bind (wpAny_bind (wpAny_alloc (wpAny_pure ?_)))
  have hs : (s.heap.push { cls:=Value.type "dict",data:=Data.dict #[] }).objs.size = s.heap.objs.size + 1:=Heap.size_push ..
  refine wpAny_bind (wpAny_pure (wpAny_pure ?_))
  show Q { scope:=scope,locals:=s.heap.objs.size,globals:=globals,cells:=(y0,(s.heap.push { cls:=Value.type "dict",data:=Data.dict #[] }).objs.size) :: cl,qual:=qual,func:=none,code:=env.code,frame:=env.frame,builtins:=env.builtins } _
  rw [hs]; exact h
theorem rC {h : Heap} {a : Addr} (e : h.get? a = some { cls:=.type "dict",data:=.dict #[] }) : h.Ns a (fun _=>none):=⟨_,#[],0,e,rfl,by intro x hx; simp at hx,fun _=>rfl⟩
structure CompOkC (scope psc : Scope) (N PN : List Str) (k : Nat) (cap : List Nat) (y0 : Str) : Prop where
  kind : scope.kind = .function
  len : N.length = k + cap.length
  own : ∃ pre post,scope.names = pre ++ (y0,NameKind.cell) :: post∧(∀ y ∈ pre,y.2 ≠ .cell)∧∀ y ∈ post,y.2 ≠ .cell
  owny : scope.names.lookup y0 = some .cell
  loc : ∀ y ∈ scope.names,y.2 = .local→scope.names.lookup y.1 = some .local
  free : ∀ y ∈ scope.names,y.2 = .free→psc.names.lookup y.1 = some .cell ∨ psc.names.lookup y.1 = some .free
  cap : ∀ j ∈ List.range cap.length,∃ x i,N[k + j]? = some x∧cap[j]? = some i∧PN[i]? = some x∧scope.names.lookup x = some .free
  free2 : ∀ y ∈ scope.names,y.2 = .free→scope.names.lookup y.1 = some .free
theorem iT {env : Env} {x y0 : Str} {names : List (Str × NameKind)} (hn : ∃ pre post,names = pre ++ (y0,NameKind.cell) :: post∧(∀ y ∈ pre,y.2 ≠ .cell)∧∀ y ∈ post,y.2 ≠ .cell) (hx : x ≠ y0)
    (h : (names.map fun (n,k)=>if (k == NameKind.free && env.scope.kind == .function && env.kindOf n == some .cell) then (n,NameKind.cell) else (n,k)).lookup x = some .cell ∨
    (names.map fun (n,k)=>if (k == NameKind.free && env.scope.kind == .function && env.kindOf n == some .cell) then (n,NameKind.cell) else (n,k)).lookup x = some .free) : (x,NameKind.free) ∈ names:=by
  obtain ⟨pre,post,e,h1,h2⟩:=hn
  have go : ∀ (pre : List (Str × NameKind)),(∀ y ∈ pre,y.2 ≠ .cell) →
      (((pre ++ (y0,NameKind.cell) :: post).map fun (n,k)=>if (k == NameKind.free && env.scope.kind == .function && env.kindOf n == some .cell) then (n,NameKind.cell) else (n,k)).lookup x = some .cell ∨
      ((pre ++ (y0,NameKind.cell) :: post).map fun (n,k)=>if (k == NameKind.free && env.scope.kind == .function && env.kindOf n == some .cell) then (n,NameKind.cell) else (n,k)).lookup x = some .free)→(x,NameKind.free) ∈ pre ++ post:=by
    intro pre
    induction pre with
    | nil =>
      intro _ h
      rw [List.nil_append,List.map_cons] at h
      have hb : (x == y0) = false:=by simpa using hx
      have h' : (post.map fun (n,k)=>if (k == NameKind.free && env.scope.kind == .function && env.kindOf n == some .cell) then (n,NameKind.cell) else (n,k)).lookup x = some .cell ∨ (post.map fun (n,k)=>if (k == NameKind.free && env.scope.kind == .function && env.kindOf n == some .cell) then (n,NameKind.cell) else (n,k)).lookup x = some .free:=by
        have ec : (NameKind.cell == NameKind.free && env.scope.kind == .function && env.kindOf y0 == some .cell) = false:=rfl
        simp only [ec,Bool.false_eq_true,if_false,List.lookup_cons,hb] at h
        exact h
      exact dX h2 h'
    | cons z r ih =>
      obtain ⟨n,k⟩:=z
      intro hc h
      have hk : k ≠ .cell:=hc (n,k) List.mem_cons_self
      rw [List.cons_append] at h
      have h' : (List.lookup x ((if (k == NameKind.free && env.scope.kind == .function && env.kindOf n == some .cell) = true then (n,NameKind.cell) else (n,k)) :: _) = _) ∨ (List.lookup x ((if (k == NameKind.free && env.scope.kind == .function && env.kindOf n == some .cell) = true then (n,NameKind.cell) else (n,k)) :: _) = _):=h
      cases hxn : x == n with
      | true =>
        have e : x = n:=by simpa using hxn
        subst e
        by_cases hc2 : (k == NameKind.free && env.scope.kind == .function && env.kindOf x == some .cell) = true
        · have : k = .free:=by
            have:=(Bool.and_eq_true_iff.mp (Bool.and_eq_true_iff.mp hc2).1).1
            simpa using this
          subst this; exact List.mem_cons_self
        · rw [if_neg hc2] at h'
          simp only [List.lookup_cons,hxn] at h'
          rcases h' with h' | h'
          · exact absurd (Option.some.inj h') hk
          · cases h'; exact List.mem_cons_self
      | false =>
        refine List.mem_cons_of_mem _ (ih (fun y hy=>hc y (List.mem_cons_of_mem _ hy)) ?_)
        split at h' <;> (simp only [List.lookup_cons,hxn] at h'; exact h')
  have:=go pre h1 (by rw [← e]; exact h)
  rw [e]
  rcases List.mem_append.mp this with h | h
  · exact List.mem_append_left _ h
  · exact List.mem_append_right _ (List.mem_cons_of_mem _ h)
abbrev b7 (y0 : Str) (X : Cx) (scope : Scope) (N : List Str) (cl : List (Str × Addr)) (C : Addr) (s : Shared) (H : Hp) (ex : List Addr) (pn : List (Addr × Obj)) : Cx:={ aG X scope N cl C s H ex pn with fn:=fun x=>x == y0 }
theorem kt {y0 : Str} {X : Cx} {pins : List (Addr × Obj)} {σ : St} {H : Hp} {s : Shared} {scope : Scope} {N : List Str} {k : Nat} {cap : List Nat} {cl : List (Str × Addr)} {h₁ : Heap} {fp : List Addr} {tk : Nat} (I : Inv X pins σ H s) (S : CompOkC scope X.env.scope N X.N k cap y0)
    (hcl1 : ∀ x c,cl.lookup x = some c→X.env.cells.lookup x = some c) (hcl2 : ∀ x,(x,NameKind.free) ∈ scope.names→∃ c,cl.lookup x = some c)
    (hf : ∀ b ∈ fp,FpOk X pins H b) (ho : ∀ b ∈ fp,∃ o,s.heap.get? b = some o)
    {m : Str→Option Value} (hns : h₁.Ns (s.heap.objs.size + 1) m) (hic : h₁.IsCell (s.heap.objs.size + 2) none)
    (hsb : ∀ b o,(s.heap.push { cls:=.type "list",data:=.seq #[] }).get? b = some o→h₁.get? b = some o) :
    Inv (b7 y0 X scope N ((y0,s.heap.objs.size + 2) :: cl) (s.heap.objs.size + 1) { s with heap:=s.heap.push { cls:=.type "list",data:=.seq #[] } } H (s.heap.objs.size :: fp) (X.pn ++ pins))
      [(s.heap.objs.size,{ cls:=.type "list",data:=.seq #[] })] (List.replicate k none ++ aT σ cap) H { s with heap:=h₁,toks:=tk }:=by
  have Ik : Inv X pins σ H { s with heap:=s.heap.push { cls:=.type "list",data:=.seq #[] } }:=I.kept (t':=s.toks) fun b o e=>Heap.get?_push_of_some _ e
  have hold : ∀ b o,s.heap.get? b = some o→h₁.get? b = some o:=fun b o e=>hsb b o (Heap.get?_push_of_some _ e)
  have ltD : ∀ {b o},s.heap.get? b = some o→b < s.heap.objs.size:=fun e=>Heap.lt_size e
  have sizeP : (s.heap.push { cls:=.type "list",data:=.seq #[] }).objs.size = s.heap.objs.size + 1:=Heap.size_push ..
  have nD : H s.heap.objs.size = none:=I.fresh
  have nC : H (s.heap.objs.size + 1) = none:=I.hok.fresh (Nat.le_succ _)
  have cellLt : ∀ x c,X.env.cells.lookup x = some c→c < s.heap.objs.size:=fun x c e=>by
    obtain ⟨v,q⟩:=I.cell x c e
    exact q.lt
  have stkNe : ∀ b,b ≠ X.env.locals→b ∉ X.fs→b ∉ frs X.stack:=fun b h1 h2 hb=>(List.mem_cons.mp (I.stkSub b hb)).elim h1 h2
  have fpLt : ∀ b ∈ fp,b < s.heap.objs.size:=fun b hb=>by obtain ⟨o,e⟩:=ho b hb; exact Heap.lt_size e
  have hfn : ∀ {x : Str},scope.names.lookup x = some .free→(x,NameKind.free) ∈ scope.names:=fun e=>PySem.mem_of_lookup e
  have look : ∀ x c,((y0,s.heap.objs.size + 2) :: cl).lookup x = some c→(x = y0∧c = s.heap.objs.size + 2) ∨ (x ≠ y0∧X.env.cells.lookup x = some c):=fun x c e=>by
    rw [List.lookup_cons] at e
    split at e
    · rename_i hx
      cases e
      exact .inl ⟨by simpa using hx,rfl⟩
    · rename_i hx
      exact .inr ⟨by simpa using hx,hcl1 x c e⟩
  have lookO : ∀ x c,x ≠ y0→cl.lookup x = some c→((y0,s.heap.objs.size + 2) :: cl).lookup x = some c:=fun x c hx e=>by
    rw [List.lookup_cons]
    split
    · rename_i hb
      exact absurd (by simpa using hb) hx
    · exact e
  have lookY : ((y0,s.heap.objs.size + 2) :: cl).lookup y0 = some (s.heap.objs.size + 2):=by rw [List.lookup_cons]; simp
  have nY : H (s.heap.objs.size + 2) = none:=I.hok.fresh (Nat.le_add_right _ _)
  have hinj : ∀ x y c,((y0,s.heap.objs.size + 2) :: cl).lookup x = some c→((y0,s.heap.objs.size + 2) :: cl).lookup y = some c→x = y:=by
    intro x y c h1 h2
    rcases look x c h1 with ⟨ex,ec⟩ | ⟨_,e1⟩
    · rcases look y c h2 with ⟨ey,_⟩ | ⟨_,e2⟩
      · rw [ex,ey]
      · have:=cellLt y c e2; rw [ec] at this; exact absurd this (Nat.not_lt.mpr (Nat.le_add_right _ _))
    · rcases look y c h2 with ⟨ey,ec⟩ | ⟨_,e2⟩
      · have:=cellLt x c e1; rw [ec] at this; exact absurd this (Nat.not_lt.mpr (Nat.le_add_right _ _))
      · exact I.ok.inj x y c e1 e2
  have hfreeC : ∀ x c,((y0,s.heap.objs.size + 2) :: cl).lookup x = some c→H c = none:=by
    intro x c e
    rcases look x c e with ⟨_,rfl⟩ | ⟨_,e'⟩
    · exact nY
    · exact I.freeC x c e'
  refine ⟨⟨I.ok.mod,S.kind,I.ok.glob,I.ok.blt,?_,hinj,(fun x hx=>by
        by_cases hxy : x = y0
        · subst hxy; exact ⟨_,lookY⟩
        · obtain ⟨c,ec⟩:=hcl2 x (iT (y0:=y0) S.own hxy hx)
          exact ⟨c,lookO x c hxy ec⟩),(fun x c z e=>by
      have hx : x = y0:=by simpa using z
      subst hx
      have e' : ((x,s.heap.objs.size + 2) :: cl).lookup x = some c:=e
      rw [lookY] at e'
      cases e'
      show (s.heap.push _).objs.size ≤ _
      rw [sizeP]; exact Nat.le_succ _),I.ok.hd,I.ok.frames,.inl rfl,?_,?_,?_,?_,?_,Ik.stack,I.stkFree⟩,
    rfl,I.bare,Un.kept hsb,?_,?_,nC,hfreeC,?_,I.hok.kept hold,?_⟩
  · exact Nat.le_of_eq sizeP
  · intro b hb
    rcases List.mem_cons.mp hb with rfl | hb
    · refine ⟨Nat.ne_of_lt (Nat.lt_succ_self _),fun x c e=>?_⟩
      rcases look x c e with ⟨_,rfl⟩ | ⟨_,e'⟩
      · exact Nat.ne_of_gt (Nat.lt_add_of_pos_right (by decide))
      · exact Nat.ne_of_lt (cellLt x c e')
    · refine ⟨Nat.ne_of_lt (Nat.lt_succ_of_lt (fpLt b hb)),fun x c e=>?_⟩
      rcases look x c e with ⟨_,rfl⟩ | ⟨_,e'⟩
      · exact Nat.ne_of_gt (Nat.lt_add_right 2 (fpLt b hb))
      · exact (hf b hb).2.2.2.2.1 x c e'
  · intro b o e
    obtain ⟨e1,e2⟩:=I.bs b o e
    exact ⟨Heap.get?_push_of_some _ e1,e2⟩
  · show X.base.objs.size ≤ (s.heap.push _).objs.size
    rw [sizeP]
    exact Nat.le_succ_of_le (Nat.le_trans I.ok.bsz I.sz)
  · intro b o e hb
    obtain ⟨e1,e2⟩:=I.bs b o e
    rcases List.mem_cons.mp hb with rfl | hb
    · exact absurd (ltD e1) (Nat.lt_irrefl _)
    · rcases (hf b hb).2.2.2.1 with z | z
      · exact I.ok.noex b o e z
      · exact absurd (Nat.lt_of_lt_of_le (Heap.lt_size (I.ok.bs b o e).1) z) (Nat.lt_irrefl _)
  · intro b hb
    rcases List.mem_cons.mp hb with rfl | hb
    · exact stkNe _ (Nat.ne_of_gt I.lt) (I.nofs (Nat.le_refl _))
    · exact stkNe b (hf b hb).2.1 (hf b hb).2.2.1
  · refine ⟨m,hns,fun i x v h1 h2 h3=>?_⟩
    have hik : k ≤ i:=by
      refine Nat.le_of_not_lt fun hlt=>?_
      rw [List.getElem?_append_left (by simpa using hlt),List.getElem?_replicate] at h2
      split at h2 <;> cases h2
    obtain ⟨j,rfl⟩:=Nat.exists_eq_add_of_le hik
    rw [List.getElem?_append_right (by simp),List.length_replicate,Nat.add_sub_cancel_left] at h2
    have hj : j < cap.length:=by
      have:=(List.getElem?_eq_some_iff.mp h2).1
      simpa [aT] using this
    obtain ⟨x',i,e1,e2,e3,e4⟩:=S.cap j (List.mem_range.mpr hj)
    rw [show N[k + j]? = some x from h1] at e1
    cases e1
    have h2' : σ[i]? = some (some v):=by
      unfold aT at h2
      rw [List.getElem?_map,e2] at h2
      have h2' : (σ[i]?).join = some v:=Option.some.inj h2
      cases q : σ[i]? with
      | none=>rw [q] at h2'; cases h2'
      | some z=>rw [q] at h2'; exact congrArg some h2'
    have hfm:=hfn e4
    have pk:=S.free _ hfm rfl
    obtain ⟨m0,_,hl⟩:=I.loc
    obtain ⟨u,r,lk⟩:=hl i x v e3 h2' (pk.elim (fun z=>.inr (.inl z)) fun z=>.inr (.inr z))
    refine ⟨u,r,?_⟩
    rcases lk with ⟨kl,_⟩ | ⟨_,c,e,ic⟩
    · rcases pk with z | z
      · have : X.env.scope.names.lookup x = some .local:=kl
        rw [z] at this; cases this
      · have : X.env.scope.names.lookup x = some .local:=kl
        rw [z] at this; cases this
    · obtain ⟨c',ec⟩:=hcl2 x hfm
      have:=hcl1 x c' ec
      rw [e] at this; cases this
      refine .inr ⟨?_,c,lookO x c (fun z=>by rw [z,S.owny] at e4; cases e4) ec,?_⟩
      · exact cO e4
      · obtain ⟨ob,h3,h4⟩:=ic
        exact ⟨ob,hold _ _ h3,h4⟩
  · intro x c e
    rcases look x c e with ⟨_,rfl⟩ | ⟨_,e'⟩
    · exact ⟨none,hic⟩
    · obtain ⟨v,ob,h3,h4⟩:=I.cell x c e'
      exact ⟨v,ob,hold _ _ h3,h4⟩
  · intro p hp
    rcases List.mem_append.mp hp with hp | hp
    · obtain ⟨e,n,ne,nf,d⟩:=I.pin p hp
      exact ⟨hold _ _ e,n,Nat.ne_of_lt (Nat.lt_succ_of_lt (ltD e)),stkNe _ ne nf,d⟩
    · have : p = (s.heap.objs.size,{ cls:=.type "list",data:=.seq #[] }):=by simpa using hp
      subst this
      refine ⟨hsb _ _ (Heap.get?_push_size _ rfl),nD,Nat.ne_of_lt (Nat.lt_succ_self _),stkNe _ (Nat.ne_of_gt I.lt) (I.nofs (Nat.le_refl _)),fun v z=>by cases z⟩
  · show _ = N.length
    rw [S.len]
    simp [aT]
theorem lT {y0 : Str} {X : Cx} {elt tg iter : Expr} {ifs : List Expr} {scope : Scope} {pos : Pos} {N : List Str} {k : Nat} {cap : List Nat} {wi : TI} {tt : TTg} {tc : TT} {te : TE} {cl : List (Str × Addr)}
    (hc : X.calm = true) (hi : PI X tg iter wi) (hg : ∀ cl C s H ex pn,PTg (b7 y0 X scope N cl C s H ex pn) k tg tt) (ht : ∀ cl C s H ex pn,PTs (b7 y0 X scope N cl C s H ex pn) ifs tc)
    (he : ∀ cl C s H ex pn,PE (b7 y0 X scope N cl C s H ex pn) elt te) (S : CompOkC scope X.env.scope N X.N k cap y0)
    (hcl1 : ∀ x c,cl.lookup x = some c→X.env.cells.lookup x = some c) (hcl2 : ∀ x,(x,NameKind.free) ∈ scope.names→∃ c,cl.lookup x = some c)
    {pins : List (Addr × Obj)} {s : Shared} {σ : St} {H : Hp} {Q : VK} (I : Inv X pins σ H s) (h : d6 wi tt tc te cap σ H Q) {RR : Value→Addr→Result→Shared→Prop}
    (hRR : ∀ D C s1 H',Inv X pins σ H' s1→Blk X pins H' s1 C→Q (.ref D) H'→RR (.ref D) C (.ok .next) s1) :
    wpAny (model X.prog X.w) X.A (eval iter X.env) (fun x s₁=>wpAny (model X.prog X.w) X.A (pyIter x) (fun it s₂=>wpAny (model X.prog X.w) X.A (newList []) (fun acc s₃ =>
      wpAny (model X.prog X.w) X.A (newFunctionEnv scope X.env.globals cl [] X.env.qual none .none (some X.env)) (fun cenv s₄ =>
        codeAny (model X.prog X.w) X.A (.compStart (.ListComp elt [⟨tg,iter,ifs,0⟩] scope pos) 0 it acc { cenv with scope:=relabel scope X.env }) (RR acc cenv.locals) s₄) X.xe s₃) X.xe s₂) X.xe s₁) X.xe s:=by
  refine thn (hi pins s σ H _ I h) fun v s1 h1=>thn h1 fun itv s2 h2=>?_
  obtain ⟨it,fp,tn,J,H2,e,I2,T,st2,f2,W,⟨m0,w0⟩,turn⟩:=h2
  subst e
  obtain ⟨pre,post,hnm,hp1,hp2⟩:=S.own
  refine wpAny_newObj_type (fj hnm hp1 hp2 ?_)
  have hP : s2.heap.push { cls:=.type "list",dict:=none,data:=.seq ([] : List Value).toArray } = s2.heap.push { cls:=.type "list",data:=.seq #[] }:=rfl
  dsimp only
  rw [hP]
  have hC : (s2.heap.push { cls:=.type "list",data:=.seq #[] }).objs.size = s2.heap.objs.size + 1:=Heap.size_push ..
  have hC2 : ((s2.heap.push { cls:=.type "list",data:=.seq #[] }).push { cls:=.type "dict",data:=.dict #[] }).objs.size = s2.heap.objs.size + 2:=by rw [Heap.size_push,hC]
  have hsb : ∀ b o,(s2.heap.push { cls:=.type "list",data:=.seq #[] }).get? b = some o→(((s2.heap.push { cls:=.type "list",data:=.seq #[] }).push { cls:=.type "dict",data:=.dict #[] }).push { cls:=.type "cell",data:=.cell none }).get? b = some o:=fun b o e=>Heap.get?_push_of_some _ (Heap.get?_push_of_some _ e)
  have hns₁ : (((s2.heap.push { cls:=.type "list",data:=.seq #[] }).push { cls:=.type "dict",data:=.dict #[] }).push { cls:=.type "cell",data:=.cell none }).Ns (s2.heap.objs.size + 1) (fun _=>none):=rC (Heap.get?_push_of_some _ (by rw [← hC]; exact Heap.get?_push_size _ rfl))
  have hic : (((s2.heap.push { cls:=.type "list",data:=.seq #[] }).push { cls:=.type "dict",data:=.dict #[] }).push { cls:=.type "cell",data:=.cell none }).IsCell (s2.heap.objs.size + 2) none:=⟨_,by rw [← hC2]; exact Heap.get?_push_size _ rfl,rfl⟩
  rw [hC]
  generalize ((s2.heap.push { cls:=.type "list",data:=.seq #[] }).push { cls:=.type "dict",data:=.dict #[] }).push { cls:=.type "cell",data:=.cell none } = h₁ at hsb hns₁ hic ⊢
  have hob : ∀ b ∈ fp,∃ o,s2.heap.get? b = some o:=fun b hb=>by obtain ⟨o,e,_⟩:=T.obj _ _ st2 b hb; exact ⟨o,e⟩
  have IY:=kt (N:=N) (k:=k) (cap:=cap) (tk:=s2.toks) I2 S hcl1 hcl2 f2 hob hns₁ hic hsb
  generalize hY : b7 y0 X scope N ((y0,s2.heap.objs.size + 2) :: cl) (s2.heap.objs.size + 1) { s2 with heap:=s2.heap.push { cls:=.type "list",data:=.seq #[] } } H2 (s2.heap.objs.size :: fp) (X.pn ++ pins) = Y at IY
  have yp : Y.prog = X.prog:=by rw [← hY]
  have yw : Y.w = X.w:=by rw [← hY]
  have yK : Y.K = X.K:=by rw [← hY]
  have yA : Y.A = X.A:=by rw [← hY]
  have yc : Y.calm = true:=by rw [← hY]; exact hc
  have yl : Y.env.locals = s2.heap.objs.size + 1:=by rw [← hY]; rfl
  have yenv : Y.env = compEnvC scope ((y0,s2.heap.objs.size + 2) :: cl) (s2.heap.objs.size + 1) X.env:=by rw [← hY]
  have yex : Y.ex = s2.heap.objs.size :: fp:=by rw [← hY]
  have yfs : Y.fs = frs X.stack:=by rw [← hY]
  have ypn : Y.pn = X.pn ++ pins:=by rw [← hY]
  have ycl : Y.env.cells = (y0,s2.heap.objs.size + 2) :: cl:=by rw [← hY]; rfl
  have yxe : Y.xe = fun _ _=>False:=by rw [← hY]
  have gT : PTg Y k tg tt:=by rw [← hY]; exact hg _ _ _ _ _ _
  have gC : PTs Y ifs tc:=by rw [← hY]; exact ht _ _ _ _ _ _
  have gE : PE Y elt te:=by rw [← hY]; exact he _ _ _ _ _ _
  have yH : Y.H₀ = H2:=by rw [← hY]
  have ys0 : Y.s₀ = { s2 with heap:=s2.heap.push { cls:=.type "list",data:=.seq #[] } }:=by rw [← hY]
  have fpLt : ∀ b ∈ fp,b < s2.heap.objs.size:=fun b hb=>by obtain ⟨o,e⟩:=hob b hb; exact Heap.lt_size e
  have pinLt : ∀ p ∈ X.pn ++ pins,p.1 < s2.heap.objs.size:=fun p hp=>Heap.lt_size (I2.pin p hp).1
  have cellLt : ∀ x c,X.env.cells.lookup x = some c→c < s2.heap.objs.size:=fun x c e=>by
    obtain ⟨v,q⟩:=I2.cell x c e
    exact q.lt
  have stkNe : ∀ b,b ≠ X.env.locals→b ∉ X.fs→b ∉ frs X.stack:=fun b h1 h2 hb=>(List.mem_cons.mp (I2.stkSub b hb)).elim h1 h2
  have look : ∀ x c,((y0,s2.heap.objs.size + 2) :: cl).lookup x = some c→(x = y0∧c = s2.heap.objs.size + 2) ∨ (x ≠ y0∧X.env.cells.lookup x = some c):=fun x c e=>by
    rw [List.lookup_cons] at e
    split at e
    · rename_i hx
      cases e
      exact .inl ⟨by simpa using hx,rfl⟩
    · rename_i hx
      exact .inr ⟨by simpa using hx,hcl1 x c e⟩
  have fpY : ∀ {H' : Hp} {pl : List (Addr × Obj)},(∀ b ∈ fp,H' b = none)→(∀ p ∈ pl,p.1 = s2.heap.objs.size)→∀ b ∈ fp,FpOk Y pl H' b:=fun {H' pl} hn hpl b hb=>by
    refine ⟨hn b hb,?_,?_,.inl ?_,fun x c e=>?_,fun p hp=>?_⟩
    · rw [yl]; exact Nat.ne_of_lt (Nat.lt_succ_of_lt (fpLt b hb))
    · rw [yfs]; exact stkNe b (f2 b hb).2.1 (f2 b hb).2.2.1
    · rw [yex]; exact List.mem_cons_of_mem _ hb
    · rw [ycl] at e
      rcases look x c e with ⟨_,rfl⟩ | ⟨_,e'⟩
      · exact Nat.ne_of_gt (Nat.lt_add_right 2 (fpLt b hb))
      · exact (f2 b hb).2.2.2.2.1 x c e'
    · rcases List.mem_append.mp hp with hp | hp
      · rw [ypn] at hp; exact (f2 b hb).2.2.2.2.2 p hp
      · rw [hpl p hp]; exact Nat.ne_of_gt (fpLt b hb)
  have loop : ∀ s₃ : Shared,s₃ = { s2 with heap:=h₁,toks:=s2.toks } →
      codeAny (model X.prog X.w) X.A (.compLoop (.ListComp elt [⟨tg,iter,ifs,0⟩] scope pos) 0 (.ref it) (.ref s2.heap.objs.size) (compEnvC scope ((y0,s2.heap.objs.size + 2) :: cl) (s2.heap.objs.size + 1) X.env)) (RR (.ref s2.heap.objs.size) (s2.heap.objs.size + 1)) s₃:=by
    rintro s₃ rfl
    refine i4 (fun n s'=>∃ i ys its H' c,Inv Y [(s2.heap.objs.size,{ cls:=.type "list",data:=.seq (List.toArray its) c })] (List.replicate k none ++ aT σ cap) H' s'∧tn i s'.heap∧(∀ b ∈ fp,H' b = none)∧Vals ys its∧W i n ys H') ?_ m0
      ⟨0,[],[],H2,_,IY,T.keep _ _ _ st2 fun b hb o e=>hsb b o (Heap.get?_push_of_some _ e),fun b hb=>(f2 b hb).1,.nil,w0⟩
    rintro n s3 ⟨i,ys,its,H3,c3,I3,st3,fr3,rv3,w3⟩
    have onlyD : ∀ p ∈ [(s2.heap.objs.size,({ cls:=.type "list",data:=.seq its.toArray c3 } : Obj))],p.1 = s2.heap.objs.size:=fun p hp=>by
      have : p = (s2.heap.objs.size,{ cls:=.type "list",data:=.seq its.toArray c3 }):=by simpa using hp
      rw [this]
    have pinD : ∀ {pl : List (Addr × Obj)} {σ' : St} {H' : Hp} {s' : Shared},Inv Y ([(s2.heap.objs.size,({ cls:=.type "list",data:=.seq its.toArray c3 } : Obj))] ++ pl) σ' H' s'→s'.heap.get? s2.heap.objs.size = some { cls:=.type "list",data:=.seq its.toArray c3 }∧H' s2.heap.objs.size = none:=fun I'=>by
      obtain ⟨e,n,_⟩:=I'.pin (s2.heap.objs.size,{ cls:=.type "list",data:=.seq its.toArray c3 }) (List.mem_append_right _ (List.mem_append_left _ (by simp)))
      exact ⟨e,n⟩
    rcases turn i n ys H3 w3 with ⟨stop,hz,qn⟩ | ⟨go,Nx,hNx,step⟩
    · have hd:=T.done Y yp yw yK yc i _ s3 _ H3 (fun _ _=>False) I3 (fpY fr3 onlyD) st3 stop
      rw [yA] at hd
      refine thn hd fun r s4 hm0=>?_
      obtain ⟨hr,I4⟩:=hm0
      subst hr
      obtain ⟨eD,nD⟩:=pinD (pl:=[]) (by simpa using I4)
      have nC : H3 (s2.heap.objs.size + 1) = none:=by have:=I4.free; rw [yl] at this; exact this
      obtain ⟨mC,nsC,_⟩:=I4.loc
      rw [yl] at nsC
      have U:=I4.base
      rw [yfs,yex,yH,ys0] at U
      have old : ∀ {b o},s2.heap.get? b = some o→b < s2.heap.objs.size:=fun e=>Heap.lt_size e
      have Un2 : Un (frs X.stack) (s2.heap.objs.size :: fp) H2 (upd H3 s2.heap.objs.size (.lst ys)) s2.heap s4.heap :=
        ⟨fun b o e n hb hx=>U.keep b o (Heap.get?_push_of_some _ e) n hb hx,fun b o e n hb hx=>U.slot b o (Heap.get?_push_of_some _ e) n hb hx,
          fun b o e n hx=>by rw [ar (Nat.ne_of_lt (old e))]; exact U.free b o (Heap.get?_push_of_some _ e) n hx,fun b o e hx=>U.there b o (Heap.get?_push_of_some _ e) hx,
          fun b xs e=>by have q:=U.tups b xs e; rw [ar (aC q nD)]; exact q,fun b o u e=>by have q:=U.frzs b o u e; rw [ar (aC q nD)]; exact q,
          fun b ps e=>by obtain ⟨mo,q⟩:=U.tbls b ps e; exact ⟨mo,by rw [ar (aC q nD)]; exact q⟩⟩
      have hok4:=I4.hok
      rw [yp,yw] at hok4
      have IX : Inv X pins σ (upd H3 s2.heap.objs.size (.lst ys)) s4:=by
        refine I2.call' (ch:=s2.heap.objs.size :: fp) ?_ Un2 (hok4.adopt nD ⟨hz,its,c3,rv3,eD⟩) I4.bare fun b hb=>?_
        · have:=I4.os; rw [ys0] at this; exact this
        · rcases List.mem_cons.mp hb with rfl | hb
          · exact ⟨.inr I2.sz,Nat.ne_of_gt I2.lt,fun x c e=>Nat.ne_of_lt (cellLt x c e),fun p hp=>Nat.ne_of_lt (pinLt p hp)⟩
          · exact ⟨(f2 b hb).2.2.2.1,(f2 b hb).2.1,(f2 b hb).2.2.2.2.1,(f2 b hb).2.2.2.2.2⟩
      refine hRR _ _ s4 _ IX ⟨⟨mC,nsC⟩,?_,?_,Nat.le_succ_of_le I2.sz,fun x c e=>Nat.ne_of_lt (Nat.lt_succ_of_lt (cellLt x c e)),fun p hp=>Nat.ne_of_lt (Nat.lt_succ_of_lt (pinLt p hp))⟩ (qn _ nD)
      · rw [ar (Nat.succ_ne_self _)]; exact nC
      · exact Nat.ne_of_gt (Nat.lt_succ_of_lt I2.lt)
    · have hd := T.item Y yp yw yK yc i _ s3 _ H3 (fun _ _=>False) I3 (fpY fr3 onlyD) st3 go
      rw [yA] at hd
      refine thn hd fun r s4 hm0=>?_
      obtain ⟨u,hr,h4⟩:=hm0
      subst hr
      refine thn h4 fun _ s5 hm0=>?_
      obtain ⟨x,H5,I5,r5,y5,st5,fr5⟩:=hm0
      have I5':=I5.pinned (fpY fr5 onlyD) (T.obj _ _ st5)
      have a5:=gT _ s5 _ H5 x u _ I5' (by simp) r5 (step x H5 y5)
      rw [yp,yw,yA,yxe,yenv] at a5
      refine thn a5 fun _ s6 hm0=>?_
      obtain ⟨ws,hlw,q6,I6⟩:=hm0
      have dr : (List.replicate k (none : Option V) ++ aT σ cap).drop k = aT σ cap:=by
        rw [List.drop_append_of_le_length (by simp)]; simp
      rw [dr] at I6
      have a6:=gC _ s6 _ H5 _ I6 q6
      rw [yp,yw,yA,yxe,yenv] at a6
      refine thn a6 fun ok s7 hm0=>?_
      obtain ⟨H7,I7,q7⟩:=hm0
      have wk : ∀ (j : Nat) v,(List.replicate k (none : Option V) ++ aT σ cap)[j]? = some (some v)→(ws.map some ++ aT σ cap)[j]? = some (some v):=fun j v e=>by
        have hik : k ≤ j:=by
          refine Nat.le_of_not_lt fun hlt=>?_
          rw [List.getElem?_append_left (by simpa using hlt),List.getElem?_replicate] at e
          split at e <;> cases e
        rw [List.getElem?_append_right (by simpa using hik),List.length_replicate] at e
        rw [List.getElem?_append_right (by simpa [hlw] using hik),List.length_map,hlw]
        exact e
      have wl : (List.replicate k (none : Option V) ++ aT σ cap).length = (ws.map some ++ aT σ cap).length:=by simp [hlw]
      have stn : ∀ {H' : Hp} {s' : Shared},Inv Y ([(s2.heap.objs.size,({ cls:=.type "list",data:=.seq its.toArray c3 } : Obj))] ++ fb fp s5.heap) (ws.map some ++ aT σ cap) H' s'→tn (i + 1) s'.heap∧∀ b ∈ fp,H' b = none:=fun {H' s'} I'=>by
        refine ⟨T.keep _ _ _ st5 fun b hb o e=>(I'.pin (b,o) (List.mem_append_right _ (List.mem_append_right _ (bG hb e)))).1,fun b hb=>?_⟩
        obtain ⟨o,e,d⟩:=T.obj _ _ st5 b hb
        exact (I'.pin (b,o) (List.mem_append_right _ (List.mem_append_right _ (bG hb e)))).2.1
      cases ok with
      | false =>
        obtain ⟨_,m',hm,w'⟩:=hNx _ _ q7
        obtain ⟨t7,f7⟩:=stn I7
        exact ⟨m',hm,i + 1,ys,its,H7,c3,(I7.weak wl wk).unpinned,t7,f7,rv3,w'⟩
      | true =>
        have a7:=gE _ s7 _ H7 _ I7 q7
        rw [yp,yw,yA,yxe,yenv] at a7
        rw [if_pos rfl]
        refine thn a7 fun yv s8 hm0=>?_
        obtain ⟨y,H8,I8,r8,q8⟩:=hm0
        obtain ⟨hz8,m',hm,w'⟩:=hNx _ _ q8
        rw [List.length_append,List.length_singleton] at hz8
        obtain ⟨eD,nD⟩:=pinD I8
        obtain ⟨t8,f8⟩:=stn I8
        refine wpAny_list_append_plain (hsz:=by rw [List.size_toArray,← rv3.length]; omega) ⟨c3,eD⟩ fun h9 pl9 sb9=>?_
        obtain ⟨c9,e9⟩:=pl9
        have I8' : Inv Y [] (List.replicate k none ++ aT σ cap) H8 s8:=(I8.weak wl wk).pins_of fun p hp=>by cases hp
        have I9 : Inv Y [] (List.replicate k none ++ aT σ cap) H8 { s8 with heap:=h9 } :=
          I8'.turned (t':=s8.toks) (it:=s2.heap.objs.size) (fun b o hb e=>sb9.extBut b o hb e) nD (by rw [yl]; exact Nat.ne_of_lt (Nat.lt_succ_self _)) (.inl (by rw [yex]; exact List.mem_cons_self)) (fun x c e=>by
            rw [ycl] at e
            rcases look x c e with ⟨_,rfl⟩ | ⟨_,e'⟩
            · exact Nat.ne_of_gt (Nat.lt_add_of_pos_right (by decide))
            · exact Nat.ne_of_lt (cellLt x c e'))
            fun p hp=>by
              rw [List.append_nil,ypn] at hp
              exact Nat.ne_of_lt (pinLt p hp)
        have e9' : h9.get? s2.heap.objs.size = some { cls:=.type "list",data:=.seq (its ++ [yv]).toArray c9 }:=by rw [e9]; simp
        refine ⟨m',hm,i + 1,ys ++ [y],its ++ [yv],H8,c9,I9.pins_of fun p hp=>?_,T.keep _ _ _ t8 fun b hb o e=>sb9.extBut b o (Nat.ne_of_lt (fpLt b hb)) e,f8,rv3.append (.cons r8 .nil),w'⟩
        have : p = (s2.heap.objs.size,{ cls:=.type "list",data:=.seq (its ++ [yv]).toArray c9 }):=by simpa using hp
        subst this
        refine ⟨e9',nD,?_,?_,fun v z=>by cases z⟩
        · rw [yl]; exact Nat.ne_of_lt (Nat.lt_succ_self _)
        · rw [yfs]; exact stkNe _ (Nat.ne_of_gt I2.lt) (I2.nofs (Nat.le_refl _))
  exact codeAny_compStart_list (loop _ rfl) (T.self _ 0 _ _ _ (T.keep _ _ _ st2 fun b hb o e=>hsb b o (Heap.get?_push_of_some _ e)) (loop _ rfl))
section
variable {X : Cx} {elt tg iter : Expr} {ifs : List Expr} {scope : Scope} {pos : Pos} {N : List Str} {k : Nat} {cap : List Nat} {wi : TI} {tt : TTg} {tc : TT} {te : TE}
theorem qE {y0 : Str} (hc : X.calm = true) (S : CompOkC scope X.env.scope N X.N k cap y0) (hi : PI X tg iter wi) (hg : ∀ cl C s H ex pn,PTg (b7 y0 X scope N cl C s H ex pn) k tg tt) (ht : ∀ cl C s H ex pn,PTs (b7 y0 X scope N cl C s H ex pn) ifs tc)
    (he : ∀ cl C s H ex pn,PE (b7 y0 X scope N cl C s H ex pn) elt te) (hs : ∀ x,foldedSetIterable iter X.env x = pure x:=by intro _; rfl) :
    PE X (.ListComp elt [⟨tg,iter,ifs,0⟩] scope pos) (d6 wi tt tc te cap):=by
  intro pins s σ H Q I h
  obtain ⟨cl,hclos,hcl1,hcl2⟩:=fu (scope:=scope) (env:=X.env) fun y hy hf=>I.ok.has y.1 (S.free y hy hf)
  rw [eval_ListComp]
  refine wpAny_comprehension_free (use:=none) rfl hs hclos S.kind S.loc ?_
  refine lT hc hi hg ht he S hcl1 hcl2 I h fun D C s1 H' I1 B q=>?_
  obtain ⟨m,hm⟩:=B.ns
  exact ⟨m,hm,fun h' sb=>⟨.ref D,H',B.turn I1 sb,rfl,q⟩⟩
end
def hW (scope psc : Scope) (N PN : List Str) (k : Nat) (cap : List Nat) (y0 : Str) (j0 : Nat) : Bool :=
  (scope.kind == .function) && (N.length == k + cap.length) &&
  (scope.names[j0]? == some (y0,NameKind.cell)) && ((scope.names.take j0).all fun y=>y.2 != .cell) && ((scope.names.drop (j0 + 1)).all fun y=>y.2 != .cell) && (scope.names.lookup y0 == some .cell) &&
  (scope.names.all fun y=>(y.2 != .local || scope.names.lookup y.1 == some .local) &&
    (y.2 != .free || (scope.names.lookup y.1 == some .free && (psc.names.lookup y.1 == some .cell || psc.names.lookup y.1 == some .free)))) &&
  ((List.range cap.length).all fun j=>match N[k + j]?,cap[j]? with
    | some x,some i=>PN[i]? == some x && scope.names.lookup x == some .free
    | _,_=>false)
theorem lr {scope psc : Scope} {N PN : List Str} {k : Nat} {cap : List Nat} {y0 : Str} {j0 : Nat} (h : hW scope psc N PN k cap y0 j0 = true) : CompOkC scope psc N PN k cap y0:=by
  unfold hW at h
  simp only [Bool.and_eq_true] at h
  obtain ⟨⟨⟨⟨⟨⟨⟨h1,h2⟩,c1⟩,c2⟩,c3⟩,c4⟩,h3⟩,h4⟩:=h
  rw [List.all_eq_true] at h3 h4 c2 c3
  have q : ∀ y ∈ scope.names,(y.2 = .local→scope.names.lookup y.1 = some .local)∧(y.2 = .free→scope.names.lookup y.1 = some .free∧(psc.names.lookup y.1 = some .cell ∨ psc.names.lookup y.1 = some .free)):=fun y hy=>by
    have:=h3 y hy
    simp only [Bool.and_eq_true,Bool.or_eq_true,bne_iff_ne,beq_iff_eq] at this
    obtain ⟨b,c⟩:=this
    exact ⟨fun e=>b.elim (fun z=>absurd e z) id,fun e=>c.elim (fun z=>absurd e z) id⟩
  have c1' : scope.names[j0]? = some (y0,NameKind.cell):=by simpa using c1
  have hl:=(List.getElem?_eq_some_iff.mp c1').1
  refine ⟨by simpa using h1,by simpa using h2,⟨scope.names.take j0,scope.names.drop (j0 + 1),?_,fun y hy=>by simpa using c2 y hy,fun y hy=>by simpa using c3 y hy⟩,by simpa using c4,fun y hy=>(q y hy).1,fun y hy e=>((q y hy).2 e).2,fun j hj=>?_,fun y hy e=>((q y hy).2 e).1⟩
  · have e : scope.names[j0] = (y0,NameKind.cell):=by
      have:=List.getElem?_eq_getElem hl
      rw [c1'] at this; exact (Option.some.inj this).symm
    rw [← e,← List.drop_eq_getElem_cons hl,List.take_append_drop]
  · have:=h4 j hj
    split at this
    · rename_i x i e1 e2
      simp only [Bool.and_eq_true,beq_iff_eq] at this
      exact ⟨x,i,e1,e2,this.1,this.2⟩
    · cases this
section
variable {X : Cx} {elt tg iter : Expr} {ifs : List Expr} {scope : Scope} {pos : Pos} {wi : TI} {tt : TTg} {tc : TT} {te : TE}
theorem tG (y0 : Str) (j0 : Nat) (psc : Scope) (PN N : List Str) (k : Nat) (cap : List Nat) (hi : PI X tg iter wi) (hg : ∀ cl C s H ex pn,PTg (b7 y0 X scope N cl C s H ex pn) k tg tt) (ht : ∀ cl C s H ex pn,PTs (b7 y0 X scope N cl C s H ex pn) ifs tc)
    (he : ∀ cl C s H ex pn,PE (b7 y0 X scope N cl C s H ex pn) elt te) (hc : X.calm = true:=by rfl) (h1 : X.env.scope = psc:=by rfl) (h2 : X.N = PN:=by rfl) (S : hW scope psc N PN k cap y0 j0 = true:=by decide +kernel)
    (hs : ∀ x,foldedSetIterable iter X.env x = pure x:=by intro _; rfl) :
    PE X (.ListComp elt [⟨tg,iter,ifs,0⟩] scope pos) (d6 wi tt tc te cap):=qE hc (by rw [h1,h2]; exact lr S) hi hg ht he hs
end
theorem ny {X : Cx} {x y z : Str} {p1 p2 p3 pos : Pos} {k : Nat} (hc : X.calm = true) (hN : X.N.Nodup) (h0 : X.N[0]? = some x) (h1 : X.N[1]? = some y) (h2 : X.N[2]? = some z) (hx : X.env.scope.names.lookup x = some .local) (hy : X.env.scope.names.lookup y = some .cell) (hf : X.fn y = true)
    (hz : X.env.scope.names.lookup z = some .local) : PTg X 3 (.Tuple [.Name x p1,.Name y p2,.Name z p3] k pos) (iy X.K 3):=by
  have g : PG X (.Tuple [.Name x p1,.Name y p2,.Name z p3] k pos) (lY X.K 3 (bz (aN 0) (bz (aN 1) (bz (aN 2) iS)))):=by
    have a1 : PG X (.Name x p1) (aN 0):=av hN h0 (.inl hx) (.inr hx)
    have a2 : PG X (.Name y p2) (aN 1):=av hN h1 (.inr hy) (.inl hf)
    have a4 : PG X (.Name z p3) (aN 2):=av hN h2 (.inl hz) (.inr hz)
    have a3 : PGs X [.Name x p1,.Name y p2,.Name z p3] (bz (aN 0) (bz (aN 1) (bz (aN 2) iS))):=aB a1 (aB a2 (aB a4 bR))
    exact cA hc a3
  intro pins s σ H v u Q I hl r h
  obtain ⟨a,xs,rfl,hq,hlen,q⟩:=h
  obtain ⟨x0,x1,x2,e⟩:=jn xs hlen
  subst e
  have w : lY X.K 3 (bz (aN 0) (bz (aN 1) (bz (aN 2) iS))) (.ref a) σ H (fun σ' H'=>σ' = ((σ.set 0 (some x0)).set 1 (some x1)).set 2 (some x2)∧H' = H):=⟨a,[x0,x1,x2],rfl,hq,rfl,x0,[x1,x2],rfl,x1,[x2],rfl,x2,[],rfl,rfl,rfl,rfl⟩
  refine thn (g pins s σ H _ _ _ I r w) ?_
  intro _ s' z
  obtain ⟨σ',H',I',e1,e2⟩:=z
  subst e2
  rw [jc _ _ _ _ hl] at e1
  subst e1
  exact ⟨[x0,x1,x2],rfl,q,I'⟩
theorem uH {X : Cx} {K : PySem.W.Frag} {x y z : Str} {p1 p2 p3 pos : Pos} {k : Nat} (hK : X.K = K) (hc : X.calm = true) (hN : X.N.Nodup) (h0 : X.N[0]? = some x) (h1 : X.N[1]? = some y) (h2 : X.N[2]? = some z) (hx : X.env.scope.names.lookup x = some .local) (hy : X.env.scope.names.lookup y = some .cell) (hf : X.fn y = true)
    (hz : X.env.scope.names.lookup z = some .local) : PTg X 3 (.Tuple [.Name x p1,.Name y p2,.Name z p3] k pos) (iy K 3):=by subst hK; exact ny hc hN h0 h1 h2 hx hy hf hz
section
variable {X : Cx} {elt tg iter : Expr} {ifs : List Expr} {scope : Scope} {pos : Pos} {wi : TI} {tt : TTg} {tc : TT} {te : TE}
theorem lW {sc : Scope} {env : Env} {x : Str} (h : sc.names.lookup x = some .cell ∨ sc.names.lookup x = some .free) : (relabel sc env).names.lookup x = some .cell ∨ (relabel sc env).names.lookup x = some .free:=by
  rcases h with h | h
  · left
    have go : ∀ (names : List (Str × NameKind)),names.lookup x = some .cell→(names.map fun (n,k)=>if (k == NameKind.free && env.scope.kind == .function && env.kindOf n == some .cell) then (n,NameKind.cell) else (n,k)).lookup x = some .cell:=by
      intro names
      induction names with
      | nil=>intro h; simp at h
      | cons z r ih =>
        obtain ⟨n,k⟩:=z
        intro h
        show List.lookup x ((if (k == NameKind.free && env.scope.kind == .function && env.kindOf n == some .cell) = true then (n,NameKind.cell) else (n,k)) :: _) = _
        cases hx : x == n with
        | true =>
          simp only [List.lookup_cons,hx] at h
          cases h
          split <;> simp [List.lookup_cons,hx]
        | false =>
          simp only [List.lookup_cons,hx] at h
          split <;> (simp only [List.lookup_cons,hx]; exact ih h)
    exact go _ h
  · exact cO h
theorem CompOk.relabel {scope psc : Scope} {N PN : List Str} {k : Nat} {cap : List Nat} {env : Env} (h : CompOk scope psc N PN k cap) : CompOk scope (relabel psc env) N PN k cap :=
  ⟨h.kind,h.len,h.cell,h.loc,fun y hy hf=>lW (h.free y hy hf),h.cap,h.free2⟩
theorem gD {psc : Scope} {env0 : Env} (PN N : List Str) (k : Nat) (cap : List Nat) (hi : PI X tg iter wi) (hg : ∀ cl C s H ex pn,PTg (aG X scope N cl C s H ex pn) k tg tt) (ht : ∀ cl C s H ex pn,PTs (aG X scope N cl C s H ex pn) ifs tc)
    (he : ∀ cl C s H ex pn,PE (aG X scope N cl C s H ex pn) elt te) (hc : X.calm = true:=by rfl) (h2 : X.N = PN:=by rfl) (h1 : X.env.scope = PySem.relabel psc env0:=by rfl) (S : eK scope psc N PN k cap = true:=by decide +kernel)
    (hs : ∀ x,foldedSetIterable iter X.env x = pure x:=by intro _; rfl) :
    PE X (.ListComp elt [⟨tg,iter,ifs,0⟩] scope pos) (d6 wi tt tc te cap):=mX hc (by rw [h2,h1]; exact (eJ S).relabel) hi hg ht he hs
end
theorem jS : typeLookup (.type "list") "keys" = pure none:=am_miss_of_fast (by decide +kernel)
theorem jZ {prog : Program} {w : World} {A : Around} {E : Value→Shared→Prop} {s : Shared} {a : Addr} {o : Obj} {xs : Array Value} {k : Nat} {Q : Option Value→Shared→Prop}
    (hx : s.heap.get? a = some o) (hc : o.cls = .type "list") (hdat : o.data = .seq xs k) (hd : o.dict = none) (hA : A.handled = none)
    (h : ∀ h' tk,(∀ b ob,s.heap.get? b = some ob→h'.get? b = some ob)→Q none { s with heap:=h',toks:=tk }) :
    wpAny (model prog w) A (getAttr? (.ref a) "keys") Q E s:=by
  obtain ⟨c,dct,dat,sl⟩:=o
  simp only at hc hdat hd
  subst hc hdat hd
  obtain ⟨hp,g,d,tk,os⟩:=s
  have hT : ∀ tk',(⟨hp,g,d,tk',os⟩ : Shared).TypeIs (.ref a) "list":=fun _=>⟨_,hx,rfl⟩
  have f1:=sub_AttributeError
  have f3:=F.slot_list_getattribute.lookup
  have f4:=F.slot_list_getattribute.bind (.ref a)
  have f5:=am_list_getattr_none
  unfold getAttr? getAttrBy? getAttrBy
  repeat (any_goals (first | assumption | exact hT _ | ((with_reducible show wpAny _ _ (call (Value.builtin "list.__getattribute__") _ _) _ _ _); refine call_meets F.slot_list_getattribute (hT _) am_entry_list_getattribute (F.args_list_getattribute_2 _ _) (meets_getattribute_miss_list a xs k sl "keys" _ jS (by decide +kernel) (by size_fits)) ⟨hx,hA,fun h' tk' e hx'=>?_⟩) | wp_step))
  obtain ⟨t',u',he⟩:=hx'.there
  show wpAny _ _ (getattributeRaised _ _ _ _ _ _ _) _ _ _
  unfold getattributeRaised
  repeat (any_goals (first | assumption | wp_step))
  exact h _ _ hx'.keeps
theorem cj : entryFor table "dict.update.loop" = some Builtin.«dict.update.loop»:=entryFor_of_tree (by kernel_rfl)
theorem aW : plainId "dict.update.loop" = true:=by decide +kernel
def e8 : List (Key × V)→List (Key × V)→List (Key × V):=List.foldl fun c p=>iE c p.1 p.2
def re (P : Program) (w : World) (h : Heap) (d it : Addr) (items : List Value) (kys : List (Key × V)) : Prop :=
  ∀ (j : Nat) (ky : Key × V),kys[j]? = some ky→∃ (t : Addr) (ku vu : Value),items[j]? = some (.ref t)∧h.IsTuple t #[ku,vu]∧(bh P w).is ky.1 ku = true∧RelV ky.2 vu∧t ≠ d∧t ≠ it
theorem ou {P : Program} {w : World} {A : Around} {d it l : Addr} {items : List Value} {kys : List (Key × V)} (hh : A.handled = none) (hlen : items.length = kys.length) (hz : kys.length ≤ sizeLine) (hdi : d ≠ it) (hld : l ≠ d) (hli : l ≠ it) :
    ∀ (n i : Nat) (s : Shared) (cur : List (Key × V)) (vs : List (Key × Value)) (tk : Tok) (R : Result→Shared→Prop),kys.length - i = n→i ≤ kys.length→s.heap.IsListIter it l i→s.heap.IsList l items.toArray→re P w s.heap d it items kys→KV cur vs→s.heap.DictOf (bh P w) d vs→cur.length ≤ i →
      (∀ h' t' vs',KV (e8 cur (kys.drop i)) vs'→h'.DictOf (bh P w) d vs'→(e8 cur (kys.drop i)).length ≤ kys.length→(∀ b o,b ≠ d→b ≠ it→s.heap.get? b = some o→h'.get? b = some o)→R (.ok (.ret .none)) { s with heap:=h',toks:=t' }) →
      codeAny (model P w) A (.builtin "dict.update.loop" ⟨[.ref d,.ref it,.int (i : Int) tk,.none],[]⟩) R s:=by
  intro n
  induction n with
  | zero =>
    intro i s cur vs tk R hn hi hit hl hp hkv hd hc hR
    have e : i = kys.length:=by omega
    subst e
    refine codeAny_builtin cj ?_
    rw [Around.under_plainId aW _]
    show wpAny _ A.in1 (pyNext (.ref it) >>= _) _ _ s
    refine wpAny_bind (wpAny_pyNext_list_end hh hit hl (by simp; omega) fun h' eb=>?_)
    show wpAny _ A.in1 (Builtin.Dict.addKeywords d [] >>= _) _ _ _
    refine wpAny_bind (wpAny_pure ?_)
    rw [List.drop_length] at hR
    exact wpAny_pure (hR h' s.toks vs hkv (hd.extBut eb hdi) hc fun b o _ h2 h3=>eb b o h2 h3)
  | succ n ih =>
    intro i s cur vs tk R hn hi hit hl hp hkv hd hc hR
    obtain ⟨ky,hky⟩ : ∃ ky,kys[i]? = some ky:=⟨kys[i]'(by omega),by simp⟩
    obtain ⟨t,ku,vu,h1,h2,h3,h4,h5,h6⟩:=hp i ky hky
    refine codeAny_builtin cj ?_
    rw [Around.under_plainId aW _]
    show wpAny _ A.in1 (pyNext (.ref it) >>= _) _ _ s
    refine wpAny_bind (wpAny_pyNext_list_item hit hl (x:=.ref t) (by simpa using h1) fun h' st' sb=>?_)
    have h2' : h'.IsTuple t #[ku,vu]:=by
      obtain ⟨o,e1,e2,n1,e3⟩:=h2
      exact ⟨o,(sb.2 t h6).trans e1,e2,n1,e3⟩
    obtain ⟨o,e1,e2,n1,e3⟩:=id h2'
    have hd' : h'.DictOf (bh P w) d vs:=by
      obtain ⟨q,es,ep,hq,r⟩:=hd
      exact ⟨q,es,ep,(sb.2 d hdi).trans hq,r⟩
    show wpAny _ A.in1 (holding [Value.ref t] _ >>= _) _ _ _
    refine wpAny_bind (wpAny_holding (wpAny_bind (wpAny_tryCatch ?_)))
    unfold Builtin.Dict.pairItems
    refine wpAny_bind (wpAny_typeOf (T := "tuple") ⟨o,e1,e2⟩ ?_)
    rw [if_pos (by decide +kernel)]
    refine wpAny_bind (wpAny_seqItems (s:={ s with heap:=h' }) e1 e3 (wpAny_pure ?_))
    show wpAny _ A.in1 (holding [ku,vu] (dictSet d ku vu)) _ _ _
    refine wpAny_holding (wpAny_dictSet_pairs (s:={ s with heap:=h' }) (hsz:=by rw [← hkv.length]; omega) h3 hd' fun h'' hd'' sb'=>?_)
    have eR : rawInt ((i : Int) + 1) = .int ((i + 1 : Nat) : Int) 0:=rfl
    refine wpAny_pure ⟨plainId_quiet aW _,?_⟩
    rw [eR]
    have hl1:=kJ cur ky.1 ky.2
    have ed : kys.drop i = ky :: kys.drop (i + 1):=by
      obtain ⟨hlt,e⟩:=List.getElem?_eq_some_iff.mp hky
      rw [List.drop_eq_getElem_cons hlt,e]
    refine ih (i + 1) _ (iE cur ky.1 ky.2) _ _ R (by omega) (by omega) ?_ ?_ (fun j ky' hj=>?_) (hkv.put ky.1 h4) hd'' (by omega) fun h3' t' vs' k1 k2 k3 k4=>?_
    · obtain ⟨q,q1,q2,q3⟩:=st'
      exact ⟨q,(sb'.2 it (Ne.symm hdi)).trans q1,q2,q3⟩
    · obtain ⟨q,q1,q2,q3⟩:=hl
      exact ⟨q,(sb'.2 l hld).trans ((sb.2 l hli).trans q1),q2,q3⟩
    · obtain ⟨t2,ku2,vu2,g1,⟨q,q1,q2,q3⟩,g3,g4,g5,g6⟩:=hp j ky' hj
      exact ⟨t2,ku2,vu2,g1,⟨q,(sb'.2 t2 g5).trans ((sb.2 t2 g6).trans q1),q2,q3⟩,g3,g4,g5,g6⟩
    · have ep : e8 (iE cur ky.1 ky.2) (kys.drop (i + 1)) = e8 cur (kys.drop i):=by rw [ed]; rfl
      rw [ep] at k1 k3
      exact hR h3' t' vs' k1 k2 k3 fun b o b1 b2 hb=>k4 b o b1 b2 ((sb'.2 b b1).trans ((sb.2 b b2).trans hb))
theorem d5 {X : Cx} {K : PySem.W.Frag} (hK : X.K = K) (hc : X.calm = true) : dg X (.type "dict") (fun xs H Q=>∃ (a : Addr) (ts : List (Addr × Key × V)),xs = [.ref a]∧SqL K H a (ts.map fun t=>V.ref t.1)∧(∀ t ∈ ts,SqT K H t.1 [kV t.2.1,t.2.2])∧∀ p,H p = none→Q (.ref p) (upd H p (.dK (e8 [] (ts.map fun t=>t.2))))):=by
  intro pins s σ H xs us Q I r h
  subst hK
  obtain ⟨a,ts,rfl,ha,ht,q⟩:=h
  obtain ⟨u,rfl,ru⟩:=de r
  cases ru
  obtain ⟨its,rv,pl,hz⟩:=I.list ha
  have hl : its.length = (ts.map fun t=>t.2).length:=by rw [List.length_map,← rv.length,List.length_map]
  have hz' : (ts.map fun t=>t.2).length ≤ sizeLine:=by rw [List.length_map] at hz ⊢; exact hz
  have hal : a < s.heap.objs.size:=by
    obtain ⟨o,h1,_⟩:=pl.isList
    exact Heap.lt_size h1
  have hh : X.A.handled = none:=I.ok.hd hc
  refine callType_codes (Q₁:=fun obj s₁=>obj = .ref s.heap.objs.size∧s₁ = { s with heap:=s.heap.push { cls:=.type "dict",data:=.dict #[] } }) PySem.F.kt_called_dict (PySem.F.kt_typeCall_dict_1 _) PySem.F.entry_dict_init (kt_code_dict_new _ ⟨rfl,rfl⟩) ?_
  rintro obj s₁ ⟨rfl,rfl⟩
  have hnew : (s.heap.push { cls:=.type "dict",data:=.dict #[] }).DictOf (bh X.prog X.w) s.heap.objs.size []:=Heap.DictOf.new s.heap
  refine ⟨hnew.typeIs,PySem.F.args_dict_init_2 _ _,?_⟩
  unfold Builtin.«dict.__init__»
  refine wpAny_bind ?_
  unfold Builtin.Dict.selfAndRest
  refine wpAny_bind (wpAny_notOrdered_dict hnew.typeIs ?_)
  show wpAny _ _ (pure (s.heap.objs.size,[Value.ref a])) _ _ _
  refine wpAny_pure ?_
  show wpAny _ _ (Builtin.Dict.updateFrom "dict.__init__" s.heap.objs.size (.ref a) [] .none) _ _ _
  unfold Builtin.Dict.updateFrom
  obtain ⟨o,n,e1,e2,e3,e4⟩:=pl
  refine wpAny_bind (wpAny_typeOf (T := "list") ⟨o,Heap.get?_push_of_some _ e1,e2⟩ ?_)
  rw [if_pos (by decide)]
  refine wpAny_bind (jZ (s:={ s with heap:=s.heap.push { cls:=.type "dict",data:=.dict #[] } }) (Heap.get?_push_of_some _ e1) e2 e4 e3 hh fun h' tk kp=>?_)
  rw [if_pos (show (none : Option Value).isNone = true from rfl)]
  refine wpAny_bind (wpAny_rule ?_)
  have hl' : h'.IsList a its.toArray:=⟨o,kp _ _ (Heap.get?_push_of_some _ e1),e2,n,e4⟩
  refine wpAny_bind (wpAny_pyIter_list hl' ?_)
  have hdl : s.heap.objs.size < h'.objs.size:=Heap.lt_size (kp _ _ (Heap.get?_push_size _ rfl))
  have kq : ∀ b ob,s.heap.get? b = some ob→(h'.push { cls:=.type "list_iterator",data:=.fields #[.ref a,.int 0 0] }).get? b = some ob:=fun b ob e=>Heap.get?_push_of_some _ (kp _ _ (Heap.get?_push_of_some _ e))
  refine wpAny_pure ⟨plainId_quiet aW _,?_⟩
  refine ou (kys:=ts.map fun t=>t.2) (l:=a) (A:=X.A.in1) hh hl hz' (Nat.ne_of_lt hdl) (Nat.ne_of_lt hal) (Nat.ne_of_lt (Nat.lt_trans hal hdl)) _ 0 _ [] [] 0 _ rfl (Nat.zero_le _) ⟨_,Heap.get?_push_size _ rfl,rfl,rfl⟩ ?_ ?_ .nil ?_ (Nat.zero_le _) ?_
  · exact ⟨o,kq _ _ e1,e2,n,e4⟩
  · intro j ky hj
    rw [List.getElem?_map] at hj
    cases et : ts[j]? with
    | none=>rw [et] at hj; cases hj
    | some t =>
      rw [et] at hj; cases hj
      obtain ⟨u,hu,ru⟩:=rv.get (i:=j) (x:=V.ref t.1) (by rw [List.getElem?_map,et]; rfl)
      cases ru
      obtain ⟨its2,rv2,tp,_⟩:=I.tuple (ht t (List.mem_of_getElem? et))
      obtain ⟨k1,k2,rfl,r1,r2⟩:=oP rv2
      obtain ⟨o2,g1,g2,n2,g3⟩:=tp
      have hlt:=Heap.lt_size g1
      exact ⟨t.1,k1,k2,hu,⟨o2,kq _ _ g1,g2,n2,g3⟩,pZ r1,r2,Nat.ne_of_lt hlt,Nat.ne_of_lt (Nat.lt_trans hlt hdl)⟩
  · exact Heap.DictOf.push (by
      obtain ⟨q,es,ep,hq,r⟩:=hnew
      exact ⟨q,es,ep,kp _ _ hq,r⟩) _
  · intro h3 t3 vs' k1 k2 k3 k4
    rw [List.drop_zero] at k1 k3
    refine ⟨rfl,.ref s.heap.objs.size,_,?_,rfl,q _ (I.hok.fresh (Nat.le_refl _))⟩
    refine I.laid (a:=s.heap.objs.size) (fun b ob e=>?_) (Nat.le_refl _) (ur (Nat.le_trans k3 hz') (beq_eq_false_iff_ne.mpr (Ne.symm (Nat.ne_of_lt I.big))) k1 k2)
    have hlt:=Heap.lt_size e
    exact k4 b ob (Nat.ne_of_lt hlt) (Nat.ne_of_lt (Nat.lt_trans hlt hdl)) (kq _ _ e)
section
variable {X : Cx}
end
end L2
namespace Law
open PySem L2
def amt (c r : Int) : Int:=if r % 2 = 1 then -(c ^ r.toNat) else c ^ r.toNat
def d7 : List Int→Int
  | []=>0
  | x :: r=>x + d7 r
theorem mw {n : Int} (hn : 1 ≤ n) (M : Nat) : ∀ (rs : List Int),(∀ r ∈ rs,0 ≤ r∧r.toNat < M)→d7 (rs.map (amt n)) ≤ rs.length * n ^ (M - 1)∧-(rs.length * n ^ (M - 1)) ≤ d7 (rs.map (amt n))
  | [],_=>by simp [d7]
  | r :: rs,h=>by
    obtain ⟨i1,i2⟩:=mw hn M rs fun x hx=>h x (List.mem_cons_of_mem _ hx)
    obtain ⟨r0,r1⟩:=h r List.mem_cons_self
    have p1 : n ^ r.toNat ≤ n ^ (M - 1):=by
      have : M - 1 = r.toNat + (M - 1 - r.toNat):=by omega
      rw [this,Int.pow_add]
      have q0 : (0 : Int) ≤ n ^ r.toNat:=Int.pow_nonneg (by omega)
      have q1 : (1 : Int) ≤ n ^ (M - 1 - r.toNat):=by have h9 : (0 : Int) < n ^ (M - 1 - r.toNat):=Int.pow_pos (by omega); omega
      have:=Int.mul_le_mul_of_nonneg_left q1 q0
      rw [Int.mul_one] at this; exact this
    have p0 : (0 : Int) ≤ n ^ r.toNat:=Int.pow_nonneg (by omega)
    have e : ((r :: rs).length : Int) * n ^ (M - 1) = rs.length * n ^ (M - 1) + n ^ (M - 1):=by
      rw [List.length_cons]; push_cast; rw [Int.add_mul,Int.one_mul]
    rw [e,List.map_cons]
    simp only [d7]
    have a : amt n r ≤ n ^ (M - 1)∧-(n ^ (M - 1)) ≤ amt n r:=by unfold amt; split <;> omega
    omega
theorem k8 (f : Int→Int) (M : Int) : ∀ rs : List Int,d7 (rs.map f) = (rs.filter (· = M)).length * f M + d7 ((rs.filter (· ≠ M)).map f)
  | []=>by simp [d7]
  | r :: rs=>by
    have ih:=k8 f M rs
    rw [List.map_cons]
    simp only [d7]
    by_cases c : r = M
    · subst c
      rw [List.filter_cons_of_pos (by simp),List.filter_cons_of_neg (by simp),List.length_cons,ih]
      push_cast
      rw [Int.add_mul,Int.one_mul]; omega
    · rw [List.filter_cons_of_neg (by simpa using c),List.filter_cons_of_pos (by simpa using c),List.map_cons]
      simp only [d7]
      rw [ih]; omega
theorem gi (M : Int) : ∀ rs : List Int,(rs.filter (· = M)).length + (rs.filter (· ≠ M)).length = rs.length
  | []=>rfl
  | r :: rs=>by
    have ih:=gi M rs
    by_cases c : r = M
    · subst c
      rw [List.filter_cons_of_pos (by simp),List.filter_cons_of_neg (by simp),List.length_cons,List.length_cons]; omega
    · rw [List.filter_cons_of_neg (by simpa using c),List.filter_cons_of_pos (by simpa using c),List.length_cons,List.length_cons]; omega
theorem o5 {n : Nat} (hn : 1 ≤ n) {rs : List Int} (h0 : ∀ r ∈ rs,0 ≤ r) (hl : rs.length ≤ n) {M : Int} (hM : M ∈ rs) (hmax : ∀ r ∈ rs,r ≤ M) : (M % 2 = 1→d7 (rs.map (amt n)) < 0)∧(M % 2 ≠ 1→0 < d7 (rs.map (amt n))):=by
  have hp:=k8 (amt n) M rs
  have hc:=gi M rs
  have hc1 : 1 ≤ (rs.filter (· = M)).length:=List.length_pos_iff.mpr (List.ne_nil_of_mem (List.mem_filter.mpr ⟨hM,by simp⟩))
  have M0:=h0 M hM
  have low : ∀ r ∈ rs.filter (· ≠ M),0 ≤ r∧r.toNat < M.toNat:=fun r hr=>by
    obtain ⟨h1,h2⟩:=List.mem_filter.mp hr
    have a:=h0 r h1
    have b:=hmax r h1
    have c : r ≠ M:=by simpa using h2
    omega
  obtain ⟨l1,l2⟩:=mw (n:=(n : Int)) (by omega) M.toNat _ low
  generalize (rs.filter (· = M)).length = c at hp hc hc1
  generalize hL : d7 ((rs.filter (· ≠ M)).map (amt n)) = S at hp l1 l2
  have big : (c : Int) * (n : Int) ^ M.toNat > S∧(c : Int) * (n : Int) ^ M.toNat > -S:=by
    rcases Nat.eq_zero_or_pos M.toNat with z | z
    · have e : rs.filter (· ≠ M) = []:=by
        cases q : rs.filter (· ≠ M) with
        | nil=>rfl
        | cons a r=>have:=low a (by rw [q]; exact List.mem_cons_self); omega
      rw [e] at hL
      have : S = 0:=by rw [← hL]; rfl
      rw [z,Int.pow_zero,Int.mul_one]; omega
    · have hA : (0 : Int) < (n : Int) ^ (M.toNat - 1):=Int.pow_pos (by omega)
      have e : (n : Int) ^ M.toNat = n * (n : Int) ^ (M.toNat - 1):=by
        rw [show M.toNat = (M.toNat - 1) + 1 by omega,Int.pow_succ,Int.mul_comm]; rfl
      generalize (rs.filter (· ≠ M)).length = l at hc l1 l2
      generalize (n : Int) ^ (M.toNat - 1) = A at hA e l1 l2
      rw [e]
      have k1 : (l : Int) + 1 ≤ (c : Int) * n:=by
        have : (n : Int) ≤ (c : Int) * n:=by
          have:=Int.mul_le_mul_of_nonneg_right (show (1 : Int) ≤ c by omega) (show (0 : Int) ≤ n by omega)
          rw [Int.one_mul] at this; exact this
        omega
      have k2 : ((l : Int) + 1) * A ≤ (c : Int) * n * A:=Int.mul_le_mul_of_nonneg_right k1 (by omega)
      rw [Int.add_mul,Int.one_mul] at k2
      rw [← Int.mul_assoc]
      omega
  rw [hp]
  refine ⟨fun h=>?_,fun h=>?_⟩
  · unfold amt
    rw [if_pos h,Int.mul_neg]; omega
  · unfold amt
    rw [if_neg h]; omega
end Law
namespace L2
open PySem PySem.Spec PyProof.Rows
section
variable {P : Program} {w : World} {A : Around} {E : Value→Shared→Prop} {s : Shared}
theorem so : isSubtype (.type "zip") (.type "zip") = pure true:=by rw [isSubtype_type]; kernel_rfl
theorem qz : isSubtype (.type "StopIteration") (.type "StopIteration") = pure true:=by rw [isSubtype_type]; kernel_rfl
end
section
variable {X : Cx} {K : PySem.W.Frag}
end
section
variable {M : Model} {A : Around} {E : Value→Shared→Prop} {s : Shared} {B : Heap} {env : Env} {outer : List Env} {l : List Env} {L e : Addr} {cls a0 fl : Value}
theorem lD {o : Option Addr} {Q : Unit→Shared→Prop} (hkb : B.StaysIn s.heap) (hl : s.heap.FunFrames B l) (ht : s.heap.TracedAtW B e cls a0 fl)
    (h : ∀ h',B.StaysIn h'→h'.FunFrames B l→h'.TracedAtW B e cls a0 (o.elim Value.none fun f=>rawInt f)→s.heap.UpToSlots h'→Q () { s with heap:=h' }) : wpAny M A (setFlight (.ref e) o) Q E s:=by
  obtain ⟨oe,vs,T,oT,ts,he,hc,hd,h1,hnT,hTe,hT,hdT,h3⟩:=ht
  have sz : 3 < ts.size:=(Array.getElem?_eq_some_iff.mp h3).1
  have away : ∀ b,b ≠ T→∀ g,(s.heap.update T g).get? b = s.heap.get? b:=fun b hb g=>Heap.get?_update_other _ _ (Ne.symm hb)
  have rcd : ∀ b o,s.heap.get? b = some o→(∀ vs,o.data ≠ .fields vs)→b ≠ T:=fun b o hb hn q=>by
    subst q; rw [hT] at hb; cases hb; exact hn ts hdT
  unfold setFlight
  refine wpAny_bind (wpAny_field he hd h1 ?_)
  rw [if_pos (by simp)]
  refine wpAny_setField hT hdT sz (h _ (fun b o hb=>?_) (hl.of_keeps fun b o hb hn=>⟨o,(away b (rcd b o hb hn) _).trans hb,rfl⟩) ?_ fun b o hb hn=>⟨o.slots,(away b (rcd b o hb hn) _).trans hb⟩)
  · exact (away b (fun q=>by rw [q,hnT] at hb; cases hb) _).trans (hkb b o hb)
  · exact ⟨oe,vs,T,_,_,(away e (Ne.symm hTe) _).trans he,hc,hd,h1,hnT,hTe,Heap.get?_update_self _ hT (Obj.isFreed_of_fields (Obj.data_mapFields hdT _)),Obj.data_mapFields hdT _,by simp [sz]⟩
theorem ly {Q : Unit→Shared→Prop} (hfr : A.frames = some (env :: outer)) (hf : env.frame = some L) (hkb : B.StaysIn s.heap) (hen : B.get? e = none) (hl : s.heap.FunFrames B (env :: outer)) (ht : s.heap.TracedAtW B e cls a0 fl)
    (hQ : ∀ h',Heap.FlyingW B outer e cls a0 h'→s.heap.UpToSlots h'→Q () { s with heap:=h' }) : wpAny M A (leaving env (.ref e)) Q E s:=by
  by_cases hq : fl = rawInt L
  · subst hq
    unfold leaving
    refine wpAny_bind (wpAny_noteFrame_againW hf ht (wpAny_landsW ⟨hkb,hen,hl,ht⟩ fun h' x u=>hQ h' ?_ u))
    obtain ⟨k1,k2,⟨_,_,k3⟩,k4⟩:=x
    exact ⟨k1,k2,k3,k4⟩
  · -- the mark is taken off first: from there on as if there had been none
    refine wpAny_mono (Q:=Q) (E:=E) ?_ (fun _ _ q=>q) fun _ _ q=>q
    obtain ⟨oe,vs,T,oT,ts,he,⟨hc,h0⟩,hd,h1,hnT,hTe,hT,hdT,h3⟩:=ht
    subst hc
    have away : ∀ b,b ≠ T→∀ g,(s.heap.update T g).get? b = s.heap.get? b:=fun b hb g=>Heap.get?_update_other _ _ (Ne.symm hb)
    have rcd : ∀ b o,s.heap.get? b = some o→(∀ vs,o.data ≠ .fields vs)→b ≠ T:=fun b o hb hn q=>by
      subst q; rw [hT] at hb; cases hb; exact hn ts hdT
    unfold leaving noteFrame
    simp only [hf]
    refine wpAny_bind (wpAny_bind (wpAny_field he hd h1 ?_))
    rw [if_pos (by simp)]
    refine wpAny_bind (wpAny_field hT hdT h3 ?_)
    rw [if_neg (by simpa using hq)]
    refine wpAny_bind (wpAny_setField hT hdT (Array.getElem?_eq_some_iff.mp h3).1 ?_)
    refine wpAny_newEntryW hfr (hl.of_keeps fun b o hb hn=>⟨o,(away b (rcd b o hb hn) _).trans hb,rfl⟩) hf ((away e (Ne.symm hTe) _).trans he)
      (fun b o hb=>(away b (fun q=>by rw [q,hnT] at hb; cases hb) _).trans (hkb b o hb)) hen hd (Array.getElem?_eq_some_iff.mp h1).1 h0 fun h' x=>?_
    obtain ⟨x1,⟨_,_,x2⟩,x3,x4⟩:=x
    exact hQ h' ⟨x1,hen,x2,x3⟩ fun b o hb hn=>x4 b o ((away b (rcd b o hb hn) _).trans hb) hn
theorem oX {α : Type} {what : String} {Q : α→Shared→Prop} {cenv : Env} (hkb : B.StaysIn s.heap) (hl : s.heap.FunFrames B l) (ht : s.heap.TracedAtW B e cls a0 fl)
    (h : ∀ h' fl',B.StaysIn h'→h'.FunFrames B l→h'.TracedAtW B e cls a0 fl'→s.heap.UpToSlots h'→E (.ref e) { s with heap:=h' }) : wpAny M A (PySem.passOn what (.ref e) cenv : Sem α) Q E s:=by
  obtain ⟨oe,vs,T,oT,ts,he,hc,hd,h1,r⟩:=ht
  unfold PySem.passOn
  refine wpAny_bind (wpAny_field he hd h1 ?_)
  rw [if_neg (by simp)]
  refine wpAny_bind (lD hkb hl ⟨oe,vs,T,oT,ts,he,hc,hd,h1,r⟩ fun h' k1 k2 k3 k4=>wpAny_throw (h h' _ k1 k2 k3 k4))
end
theorem lN {prog : Program} {w : World} {A : Around} {R : Result→Shared→Prop} {s : Shared} {elt target iter : Expr} {ifs : List Expr} {scope : Scope} {pos : Pos} {it acc : Value} {env : Env} (I : Nat→Shared→Prop) (X : Value→Shared→Prop)
    (hX : ∀ x s,X x s→notedBy (model prog w) A env (fun x s'=>R (.error x) s') x s)
    (turn : ∀ n s,I n s→wpAny (model prog w) A (pyNext it) (fun r s₁=>match r with
      | none=>R (.ok .next) s₁
      | some v=>wpAny (model prog w) A (letOwnedTupleGo target it v) (fun _ s₁'=>wpAny (model prog w) A (assign target env v) (fun _ s₂ =>
          wpAny (model prog w) A (forIn ifs true fun c r=>if r = true then do let ok ← isTrue c env (eval c env); pure (ForInStep.yield ok) else pure (ForInStep.yield r)) (fun ok s₃ =>
            if ok = true then wpAny (model prog w) A (eval elt env) (fun x s₄ =>
              wpAny (model prog w) A (call (.builtin "list.append") [acc,x]) (fun _ s₅=>∃ m,m < n∧I m s₅) (fun _ _=>False) s₄) X s₃
            else ∃ m,m < n∧I m s₃) X s₂) X s₁') X s₁) X s)
    (n : Nat) (h : I n s) :
    codeAny (model prog w) A (.compLoop (.ListComp elt [⟨target,iter,ifs,0⟩] scope pos) 0 it acc env) R s:=by
  refine codeAny_loop rfl I (fun n s hI=>?_) n h
  show wpAny _ A ((compTurn (.ListComp elt [⟨target,iter,ifs,0⟩] scope pos) 0 it acc env).onRaise (fun x=>do noteFrame x env; theTreesLotGoes x)) _ _ s
  refine wpAny_noted ?_
  rw [compTurn_list]
  refine wpAny_bind (wpAny_standAt (wpAny_bind (wpAny_mono (turn n s hI) (fun r s₁ h₁=>?_) fun x s' h'=>hX x s' h')))
  cases r with
  | none=>exact wpAny_pure h₁
  | some v =>
    refine wpAny_bind (wpAny_mono h₁ (fun _ s₁' h₁'=>?_) fun x s' h'=>hX x s' h')
    refine wpAny_bind (wpAny_mono h₁' (fun _ s₂ h₂=>wpAny_bind (wpAny_mono h₂ (fun ok s₃ h₃=>?_) fun x s' h'=>hX x s' h')) fun x s' h'=>hX x s' h')
    cases ok with
    | false=>exact wpAny_pure ⟨rfl,h₃⟩
    | true =>
      exact wpAny_bind (wpAny_bind (wpAny_mono h₃ (fun x s₄ h₄=>wpAny_bind (wpAny_mono h₄ (fun _ s₅ h₅=>wpAny_pure (wpAny_pure ⟨rfl,h₅⟩)) fun _ _ h'=>h'.elim)) fun x s' h'=>hX x s' h'))
section
variable {X : Cx} {pins : List (Addr × Obj)} {σ : St} {H : Hp} {s : Shared}
theorem lA {M : Model} {E2 : Value→Shared→Prop} {ea C t : Addr} {s' : Shared} {E : XK} {H' : Hp} {B : Heap} {fl : Value} (ch : List Addr) (hch : ∀ b ∈ ch,X.s₀.heap.objs.size ≤ b) (I : Inv X pins σ H s) (hst : X.stack = X.env :: X.outer) (hf : X.env.frame = some X.env.locals) (hex : X.ex = [])
    (os : s'.os = s.os) (bare : AllBare s'.gens) (un : Un (frs X.stack) ch H H' s.heap s'.heap) (hok : HOk X.prog X.w H' s'.heap) (hkb : B.StaysIn s'.heap) (hen : B.get? ea = none) (hl : s'.heap.FunFrames B X.stack) (ht : s'.heap.TracedAtW B ea (.ref C) (.ref t) fl)
    (b1 : ∀ b o,s.heap.get? b = some o→b ∉ frs X.stack→b ∉ ch→∃ o',B.get? b = some o') (b2 : ∀ b u,H' b = some u→∃ o,B.get? b = some o) (hE : E (.ref C) none H') : wpAny M X.A (leaving X.env (.ref ea)) (fun _ s''=>CXR X.prog X.w X.outer X.H₀ X.s₀ E (.ref ea) s'') E2 s':=by
  have noex : ∀ b,b ∉ X.ex:=fun b z=>by rw [hex] at z; cases z
  have nch : ∀ {b o},X.s₀.heap.get? b = some o→b ∉ ch:=fun q z=>absurd (Heap.lt_size q) (Nat.not_lt.mpr (hch _ z))
  refine ly (hst ▸ I.ok.frames) hf hkb hen (hst ▸ hl) ht fun h2 x1 x2=>?_
  have old : ∀ b o,X.s₀.heap.get? b = some o→b ∉ X.fs→∃ o',B.get? b = some o':=fun b o q n=>by
    obtain ⟨o',ho⟩:=I.base.there b o q (noex b)
    exact b1 b o' ho (I.notStk q n) (nch q)
  have fr : ∀ b o,s'.heap.get? b = some o→b ∈ X.fs→∃ sl,h2.get? b = some { o with slots:=sl }:=fun b o q hb=>by
    obtain ⟨_,o',ho',hd⟩:=hl.mem (I.stkSup hb)
    rw [q] at ho'; cases ho'
    exact x2 b o q hd
  refine ⟨ea,C,t,H',B,rfl,os.trans I.os,bare,⟨fun b o q n hb _=>?_,fun b o q n hb _=>?_,fun b o q n _=>?_,fun b o q _=>?_,fun b xs q=>un.tups b xs (I.base.tups b xs q),fun b o u q=>un.frzs b o u (I.base.frzs b o u q),fun b ps q=>?_⟩,hok.by b2 hkb x1.1,x1,old,b2,hE⟩
  · have e1:=I.base.keep b o q n hb (noex b)
    have e2:=un.keep b o e1 (I.base.free b o q n (noex b)) (I.notStk q hb) (nch q)
    obtain ⟨o',e3⟩:=old b o q hb
    have e4:=hkb b o' e3
    rw [e2] at e4; cases e4
    exact x1.1 b _ e3
  · obtain ⟨sl,e1⟩:=I.base.slot b o q n hb (noex b)
    obtain ⟨sl1,e2⟩:=un.slot b _ e1 (I.base.free b o q n (noex b)) (I.stkSup hb) (nch q)
    obtain ⟨sl2,e3⟩:=fr b _ e2 hb
    exact ⟨sl2,e3⟩
  · obtain ⟨o',e1⟩:=I.base.there b o q (noex b)
    exact un.free b o' e1 (I.base.free b o q n (noex b)) (nch q)
  · by_cases hb : b ∈ X.fs
    · obtain ⟨o',e1⟩:=I.base.there b o q (noex b)
      obtain ⟨o2,e2⟩:=un.there b o' e1 (nch q)
      obtain ⟨sl2,e3⟩:=fr b _ e2 hb
      exact ⟨_,e3⟩
    · obtain ⟨o',e1⟩:=old b o q hb
      exact ⟨_,x1.1 b o' e1⟩
  · obtain ⟨m1,e1⟩:=I.base.tbls b ps q
    obtain ⟨m2,e2⟩:=un.tbls b _ e1
    exact ⟨m1 ++ m2,by rw [e2,Array.append_assoc]⟩
end
theorem jy {B B' : Heap} (k : ∀ b o,B'.get? b = some o→B.get? b = some o) {L : Addr} (h : B.get? L = none) : B'.get? L = none:=by
  cases q : B'.get? L with
  | none=>rfl
  | some u=>rw [k _ _ q] at h; cases h
theorem f9 {h h' B B' : Heap} (k : ∀ b o,B'.get? b = some o→B.get? b = some o) : ∀ {l : List Env},(∀ b ∈ frs l,h'.get? b = h.get? b)→h.FunFrames B l→h'.FunFrames B' l
  | [],_,_=>trivial
  | env :: rest,g,⟨h1,⟨L,o,h2,h3,h4⟩,h5⟩=>by
    have hm : L ∈ frs (env :: rest):=by unfold frs; rw [List.filterMap_cons,h2]; exact List.mem_cons_self
    refine ⟨h1,⟨L,o,h2,jy k h3,by rw [g L hm]; exact h4⟩,f9 k (fun b hb=>g b ?_) h5⟩
    unfold frs; rw [List.filterMap_cons,h2]; exact List.mem_cons_of_mem _ hb
theorem kL {X Y : Cx} {pins pinsY : List (Addr × Obj)} {σ σY : St} {H2 H3 : Hp} {s2 s3 s' : Shared} {E : XK} {e : Value} {C : Addr} {ex : List Addr} {ob : Obj} {env' : Env}
    (I2 : Inv X pins σ H2 s2) (IY : Inv Y pinsY σY H3 s3) (yl : Y.env.locals = C) (yos : Y.s₀.os = s2.os) (U : Un (frs X.stack) ex H2 H3 (s2.heap.push ob) s3.heap) (hC : s2.heap.objs.size ≤ C) (hexs : ∀ b ∈ ex,X.s₀.heap.objs.size ≤ b)
    (hst : X.stack = X.env :: X.outer) (hf : X.env.frame = some X.env.locals) (hex : X.ex = []) (henv : env'.frame = X.env.frame)
    (hxe : ∀ x s,wpAny (model X.prog X.w) X.A (leaving X.env x) (fun _ s''=>CXR X.prog X.w X.outer X.H₀ X.s₀ E x s'') (fun x' s''=>CXR X.prog X.w X.outer X.H₀ X.s₀ E x' s'') s→X.xe x s)
    (h : CXR X.prog X.w X.stack H3 s3 E e s') :
    notedBy (model X.prog X.w) X.A env' (fun x s''=>∃ m,s''.heap.Ns C m∧∀ h',Heap.SameBut C s''.heap h'→∀ cenv : Env,cenv.locals = C→wpAny (model X.prog X.w) X.A (PySem.passOn "comprehension.variables-let-go" x cenv : Sem Value) (fun _ _=>False) X.xe { s'' with heap:=h' }) e s':=by
  obtain ⟨ea,Cc,t,H',B,rfl,os,bare,un,hok,fl,b1,b2,hE⟩:=h
  have en : noteFrame (.ref ea) env' = noteFrame (.ref ea) X.env:=by unfold noteFrame PySem.frameOf; rw [henv]
  unfold notedBy
  rw [en]
  have fl0:=fl
  rw [hst] at fl0
  refine wpAny_looks_onW (env:=X.env) (outer:=X.outer) (hst ▸ I2.ok.frames) hf fl0 fun h1 held up1=>?_
  rw [← hst] at held
  have nil : ∀ b : Addr,b ∉ ([] : List Addr):=fun b z=>by cases z
  have cNot : C ∉ frs X.stack:=fun z=>by
    obtain ⟨_,o,ho,_⟩:=I2.stack.mem z
    exact absurd (Heap.lt_size ho) (Nat.not_lt.mpr hC)
  obtain ⟨mC,nsC,_⟩:=IY.loc
  have cF:=IY.free
  rw [yl] at nsC cF
  obtain ⟨oC,_,_,eC,_⟩:=id nsC
  have cF' : H' C = none:=un.free C oC eC cF (nil C)
  have ns1 : h1.Ns C mC:=up1.ns (nsC.at' fun o q=>un.keep C o q cF cNot (nil C))
  refine ⟨mC,ns1,fun h2 sb cenv _=>?_⟩
  have sub : ∀ b o,(PySem.W.hideAll B [C]).get? b = some o→B.get? b = some o:=fun b o q=>PySem.W.of_hideAll _ q
  have nC : ∀ {b o},(PySem.W.hideAll B [C]).get? b = some o→b ≠ C:=fun {b o} q z=>by
    subst z; rw [PySem.W.hideAll_none [b] (List.mem_singleton.mpr rfl)] at q; cases q
  have into : ∀ {b o},B.get? b = some o→b ≠ C→(PySem.W.hideAll B [C]).get? b = some o:=fun q n=>PySem.W.hideAll_get _ q fun z=>n (List.mem_singleton.mp z)
  have st2 : (PySem.W.hideAll B [C]).StaysIn h2:=fun b o q=>(sb.2 b (nC q)).trans (held.1 b o (sub b o q))
  have fr2 : h2.FunFrames (PySem.W.hideAll B [C]) X.stack:=f9 sub (fun b hb=>sb.2 b fun z=>cNot (z ▸ hb)) held.2.2.1
  have noF : ∀ b o vs,h1.get? b = some o→o.data = .fields vs→b ≠ C:=fun b o vs q d z=>by
    obtain ⟨o',es,ep,ho,hd,_⟩:=ns1
    subst z
    rw [q] at ho; cases ho
    rw [d] at hd; cases hd
  have tr2 : h2.TracedAtW (PySem.W.hideAll B [C]) ea (.ref Cc) (.ref t) (rawInt X.env.locals):=by
    obtain ⟨oe,vs,T,oT,ts,he,hc,hd,h1',hnT,hTe,hT,hdT,h3⟩:=held.2.2.2
    exact ⟨oe,vs,T,oT,ts,(sb.2 ea (noF _ _ _ he hd)).trans he,hc,hd,h1',jy sub hnT,hTe,(sb.2 T (noF _ _ _ hT hdT)).trans hT,hdT,h3⟩
  refine oX (B:=PySem.W.hideAll B [C]) (l:=X.stack) st2 fr2 tr2 fun h3 fl' k1 k2 k3 k4=>hxe _ _ ?_
  have nonF : ∀ b ∈ frs X.stack,∀ o,s'.heap.get? b = some o→∃ sl,h3.get? b = some { o with slots:=sl }:=fun b hb o q=>by
    obtain ⟨_,o',ho',hd⟩:=fl.2.2.1.mem hb
    rw [q] at ho'; cases ho'
    obtain ⟨sl,e1⟩:=up1 b o q hd
    have nb : b ≠ C:=fun z=>cNot (z ▸ hb)
    have e2 : h2.get? b = some { o with slots:=sl }:=(sb.2 b nb).trans e1
    obtain ⟨sl2,e3⟩:=k4 b _ e2 hd
    exact ⟨sl2,e3⟩
  have push : ∀ {b o},s2.heap.get? b = some o→(s2.heap.push ob).get? b = some o:=fun q=>Heap.get?_push_of_some _ q
  have nbC : ∀ {b o},s2.heap.get? b = some o→b ≠ C:=fun q z=>absurd (Heap.lt_size q) (Nat.not_lt.mpr (z ▸ hC))
  have inB : ∀ b o,s2.heap.get? b = some o→b ∉ frs X.stack→b ∉ ex→∃ o',(PySem.W.hideAll B [C]).get? b = some o':=fun b o q hb hx=>by
    obtain ⟨o3,e3⟩:=U.there b o (push q) hx
    obtain ⟨o',eB⟩:=b1 b o3 e3 hb
    exact ⟨o',into eB (nbC q)⟩
  have trk : ∀ b u,H' b = some u→∃ o,(PySem.W.hideAll B [C]).get? b = some o:=fun b u q=>by
    obtain ⟨o,eB⟩:=b2 b u q
    exact ⟨o,into eB fun z=>by rw [z,cF'] at q; cases q⟩
  have hen' : (PySem.W.hideAll B [C]).get? ea = none:=by
    cases q : (PySem.W.hideAll B [C]).get? ea with
    | none=>rfl
    | some o=>have:=sub _ _ q; rw [fl.2.1] at this; cases this
  refine lA (C:=Cc) (t:=t) (H':=H') (B:=PySem.W.hideAll B [C]) (fl:=fl') (C :: ex) (fun b hb=>?_) I2 hst hf hex (os.trans (IY.os.trans yos)) bare ⟨fun b o q n hb hx=>?_,fun b o q n hb hx=>?_,fun b o q n hx=>?_,fun b o q hx=>?_,fun b xs q=>un.tups b xs (U.tups b xs q),fun b o u q=>un.frzs b o u (U.frzs b o u q),fun b ps q=>?_⟩ (hok.by trk (fun b o q=>fl.1 b o (sub b o q)) k1) k1 hen' k2 k3 (fun b o q hb hx=>inB b o q hb fun z=>hx (List.mem_cons_of_mem _ z)) trk hE
  · rcases List.mem_cons.mp hb with rfl | hb
    · exact Nat.le_trans I2.sz hC
    · exact hexs b hb
  · have hx' : b ∉ ex:=fun z=>hx (List.mem_cons_of_mem _ z)
    have e3:=U.keep b o (push q) n hb hx'
    have e4:=un.keep b o e3 (U.free b o (push q) n hx') hb (nil b)
    obtain ⟨o',eB⟩:=b1 b o e3 hb
    have:=fl.1 b o' eB
    rw [e4] at this; cases this
    exact k1 b o (into eB (nbC q))
  · have hx' : b ∉ ex:=fun z=>hx (List.mem_cons_of_mem _ z)
    obtain ⟨sl,e3⟩:=U.slot b o (push q) n hb hx'
    obtain ⟨sl1,e4⟩:=un.slot b _ e3 (U.free b o (push q) n hx') hb (nil b)
    obtain ⟨sl2,e5⟩:=nonF b hb _ e4
    exact ⟨sl2,e5⟩
  · have hx' : b ∉ ex:=fun z=>hx (List.mem_cons_of_mem _ z)
    obtain ⟨o3,e3⟩:=U.there b o (push q) hx'
    exact un.free b o3 e3 (U.free b o (push q) n hx') (nil b)
  · have hx' : b ∉ ex:=fun z=>hx (List.mem_cons_of_mem _ z)
    by_cases hb : b ∈ frs X.stack
    · obtain ⟨o3,e3⟩:=U.there b o (push q) hx'
      obtain ⟨o4,e4⟩:=un.there b o3 e3 (nil b)
      obtain ⟨sl2,e5⟩:=nonF b hb _ e4
      exact ⟨_,e5⟩
    · obtain ⟨o',eB⟩:=inB b o q hb hx'
      exact ⟨o',k1 b o' eB⟩
  · obtain ⟨m1,e1⟩:=U.tbls b ps q
    obtain ⟨m2,e2⟩:=un.tbls b _ e1
    exact ⟨m1 ++ m2,by rw [e2,Array.append_assoc]⟩
theorem lV {X : Cx} {E : XK} {elt tg iter : Expr} {ifs : List Expr} {scope : Scope} {pos : Pos} {N : List Str} {k : Nat} {cap : List Nat} {wi : TI} {tt : TTg} {tc : TT} {te : TE} {cl : List (Str × Addr)}
    (hc : X.calm = true) (hi : PI X tg iter wi) (hg : ∀ cl C s H ex pn xe,PTg ((aG X scope N cl C s H ex pn).wish xe) k tg tt) (ht : ∀ cl C s H ex pn xe,PTs ((aG X scope N cl C s H ex pn).wish xe) ifs tc)
    (he : ∀ cl C s H ex pn xe,dw (CXR X.prog X.w) ((aG X scope N cl C s H ex pn).wish xe) E→PE ((aG X scope N cl C s H ex pn).wish xe) elt te)
    (hst : X.stack = X.env :: X.outer) (hf : X.env.frame = some X.env.locals) (hex : X.ex = [])
    (hxe : ∀ x s,wpAny (model X.prog X.w) X.A (leaving X.env x) (fun _ s''=>CXR X.prog X.w X.outer X.H₀ X.s₀ E x s'') (fun x' s''=>CXR X.prog X.w X.outer X.H₀ X.s₀ E x' s'') s→X.xe x s) (S : CompOk scope X.env.scope N X.N k cap)
    (hcl1 : ∀ x c,cl.lookup x = some c→X.env.cells.lookup x = some c) (hcl2 : ∀ x,(x,NameKind.free) ∈ scope.names→∃ c,cl.lookup x = some c)
    {pins : List (Addr × Obj)} {s : Shared} {σ : St} {H : Hp} {Q : VK} (I : Inv X pins σ H s) (h : d6 wi tt tc te cap σ H Q) {RR : Value→Addr→Result→Shared→Prop}
    (hRR : ∀ D C s1 H',Inv X pins σ H' s1→Blk X pins H' s1 C→Q (.ref D) H'→RR (.ref D) C (.ok .next) s1)
    (hRX : ∀ D C x s1,(∃ m,s1.heap.Ns C m∧∀ h',Heap.SameBut C s1.heap h'→∀ cenv : Env,cenv.locals = C→wpAny (model X.prog X.w) X.A (PySem.passOn "comprehension.variables-let-go" x cenv : Sem Value) (fun _ _=>False) X.xe { s1 with heap:=h' })→RR D C (.error x) s1) :
    wpAny (model X.prog X.w) X.A (eval iter X.env) (fun x s₁=>wpAny (model X.prog X.w) X.A (pyIter x) (fun it s₂=>wpAny (model X.prog X.w) X.A (newList []) (fun acc s₃ =>
      wpAny (model X.prog X.w) X.A (newFunctionEnv scope X.env.globals cl [] X.env.qual none .none (some X.env)) (fun cenv s₄ =>
        codeAny (model X.prog X.w) X.A (.compStart (.ListComp elt [⟨tg,iter,ifs,0⟩] scope pos) 0 it acc { cenv with scope:=relabel scope X.env }) (RR acc cenv.locals) s₄) X.xe s₃) X.xe s₂) X.xe s₁) X.xe s:=by
  refine thn (hi pins s σ H _ I h) fun v s1 h1=>thn h1 fun itv s2 h2=>?_
  obtain ⟨it,fp,tn,J,H2,e,I2,T,st2,f2,W,⟨m0,w0⟩,turn⟩:=h2
  subst e
  refine wpAny_newObj_type (wpAny_newFunctionEnv S.cell (by intro y hy; simp at hy) (fun h₁ hns₁ hsb₁=>?_) S.kind)
  dsimp only at hns₁ hsb₁ ⊢
  have hP : s2.heap.push { cls:=.type "list",dict:=none,data:=.seq ([] : List Value).toArray } = s2.heap.push { cls:=.type "list",data:=.seq #[] }:=rfl
  rw [hP] at hns₁ hsb₁ ⊢
  have hC : (s2.heap.push { cls:=.type "list",data:=.seq #[] }).objs.size = s2.heap.objs.size + 1:=Heap.size_push ..
  rw [hC] at hns₁ hsb₁ ⊢
  have hsb : ∀ b o,(s2.heap.push { cls:=.type "list",data:=.seq #[] }).get? b = some o→h₁.get? b = some o:=fun b o e =>
    hsb₁.extBut b o (by have:=Heap.lt_size e; rw [hC] at this; exact Nat.ne_of_lt this) (Heap.get?_push_of_some _ e)
  have hob : ∀ b ∈ fp,∃ o,s2.heap.get? b = some o:=fun b hb=>by obtain ⟨o,e,_⟩:=T.obj _ _ st2 b hb; exact ⟨o,e⟩
  have IY:=ie (N:=N) (k:=k) (cap:=cap) (tk:=s2.toks + ([] : List (Str × Value)).length) I2 S hcl1 hcl2 f2 hob hns₁ hsb
  obtain ⟨xb,hxb⟩ : ∃ xb : Value→Shared→Prop,xb = fun x s'=>∃ (pl : List (Addr × Obj)) (σ' : St) (H' : Hp) (s3 : Shared),Inv (aG X scope N cl (s2.heap.objs.size + 1) { s2 with heap:=s2.heap.push { cls:=.type "list",data:=.seq #[] } } H2 (s2.heap.objs.size :: fp) (X.pn ++ pins)) pl σ' H' s3∧CXR X.prog X.w X.stack H' s3 E x s':=⟨_,rfl⟩
  replace IY:=IY.wish xb
  have pB : dw (CXR X.prog X.w) ((aG X scope N cl (s2.heap.objs.size + 1) { s2 with heap:=s2.heap.push { cls:=.type "list",data:=.seq #[] } } H2 (s2.heap.objs.size :: fp) (X.pn ++ pins)).wish xb) E:=fun pl σ' H' s3 x s' I h=>by rw [hxb]; exact ⟨pl,σ',H',s3,I.unwish,h⟩
  have lv : ∀ x s',xb x s'→notedBy (model X.prog X.w) X.A (compEnvC scope cl (s2.heap.objs.size + 1) X.env) (fun x s'=>RR (.ref s2.heap.objs.size) (s2.heap.objs.size + 1) (.error x) s') x s':=fun x s' z=>by
    rw [hxb] at z
    obtain ⟨pl,σ',H',s3,I3,z⟩:=z
    refine wpAny_mono (kL I2 I3 rfl rfl I3.base (Nat.le_succ _) (fun b hb=>?_) hst hf hex rfl hxe z) (fun _ s'' q=>hRX _ _ _ _ q) fun _ s'' q=>hRX _ _ _ _ q
    rcases List.mem_cons.mp hb with rfl | hb
    · exact I2.sz
    · exact (f2 b hb).2.2.2.1.elim (fun z=>by rw [hex] at z; cases z) id
  generalize hY : (aG X scope N cl (s2.heap.objs.size + 1) { s2 with heap:=s2.heap.push { cls:=.type "list",data:=.seq #[] } } H2 (s2.heap.objs.size :: fp) (X.pn ++ pins)).wish xb = Y at IY
  have yp : Y.prog = X.prog:=by rw [← hY]
  have yw : Y.w = X.w:=by rw [← hY]
  have yK : Y.K = X.K:=by rw [← hY]
  have yA : Y.A = X.A:=by rw [← hY]
  have yc : Y.calm = true:=by rw [← hY]; exact hc
  have yl : Y.env.locals = s2.heap.objs.size + 1:=by rw [← hY]; rfl
  have yenv : Y.env = compEnvC scope cl (s2.heap.objs.size + 1) X.env:=by rw [← hY]
  have yex : Y.ex = s2.heap.objs.size :: fp:=by rw [← hY]
  have yfs : Y.fs = frs X.stack:=by rw [← hY]
  have ypn : Y.pn = X.pn ++ pins:=by rw [← hY]
  have ycl : Y.env.cells = cl:=by rw [← hY]; rfl
  have yxe : Y.xe = xb:=by rw [← hY]
  have gT : PTg Y k tg tt:=by rw [← hY]; exact hg _ _ _ _ _ _ _
  have gC : PTs Y ifs tc:=by rw [← hY]; exact ht _ _ _ _ _ _ _
  have gE : PE Y elt te:=by rw [← hY]; exact he _ _ _ _ _ _ _ pB
  have yH : Y.H₀ = H2:=by rw [← hY]
  have ys0 : Y.s₀ = { s2 with heap:=s2.heap.push { cls:=.type "list",data:=.seq #[] } }:=by rw [← hY]
  have fpLt : ∀ b ∈ fp,b < s2.heap.objs.size:=fun b hb=>by obtain ⟨o,e⟩:=hob b hb; exact Heap.lt_size e
  have pinLt : ∀ p ∈ X.pn ++ pins,p.1 < s2.heap.objs.size:=fun p hp=>Heap.lt_size (I2.pin p hp).1
  have cellLt : ∀ x c,X.env.cells.lookup x = some c→c < s2.heap.objs.size:=fun x c e=>by
    obtain ⟨v,q⟩:=I2.cell x c e
    exact q.lt
  have stkNe : ∀ b,b ≠ X.env.locals→b ∉ X.fs→b ∉ frs X.stack:=fun b h1 h2 hb=>(List.mem_cons.mp (I2.stkSub b hb)).elim h1 h2
  have fpY : ∀ {H' : Hp} {pl : List (Addr × Obj)},(∀ b ∈ fp,H' b = none)→(∀ p ∈ pl,p.1 = s2.heap.objs.size)→∀ b ∈ fp,FpOk Y pl H' b:=fun {H' pl} hn hpl b hb=>by
    refine ⟨hn b hb,?_,?_,.inl ?_,fun x c e=>?_,fun p hp=>?_⟩
    · rw [yl]; exact Nat.ne_of_lt (Nat.lt_succ_of_lt (fpLt b hb))
    · rw [yfs]; exact stkNe b (f2 b hb).2.1 (f2 b hb).2.2.1
    · rw [yex]; exact List.mem_cons_of_mem _ hb
    · rw [ycl] at e; exact (f2 b hb).2.2.2.2.1 x c (hcl1 x c e)
    · rcases List.mem_append.mp hp with hp | hp
      · rw [ypn] at hp; exact (f2 b hb).2.2.2.2.2 p hp
      · rw [hpl p hp]; exact Nat.ne_of_gt (fpLt b hb)
  have loop : ∀ s₃ : Shared,s₃ = { s2 with heap:=h₁,toks:=s2.toks + ([] : List (Str × Value)).length } →
      codeAny (model X.prog X.w) X.A (.compLoop (.ListComp elt [⟨tg,iter,ifs,0⟩] scope pos) 0 (.ref it) (.ref s2.heap.objs.size) (compEnvC scope cl (s2.heap.objs.size + 1) X.env)) (RR (.ref s2.heap.objs.size) (s2.heap.objs.size + 1)) s₃:=by
    rintro s₃ rfl
    refine lN (X:=xb) (hX:=lv) (fun n s'=>∃ i ys its H' c,Inv Y [(s2.heap.objs.size,{ cls:=.type "list",data:=.seq (List.toArray its) c })] (List.replicate k none ++ aT σ cap) H' s'∧tn i s'.heap∧(∀ b ∈ fp,H' b = none)∧Vals ys its∧W i n ys H') ?_ m0
      ⟨0,[],[],H2,_,IY,T.keep _ _ _ st2 fun b hb o e=>hsb b o (Heap.get?_push_of_some _ e),fun b hb=>(f2 b hb).1,.nil,w0⟩
    rintro n s3 ⟨i,ys,its,H3,c3,I3,st3,fr3,rv3,w3⟩
    have onlyD : ∀ p ∈ [(s2.heap.objs.size,({ cls:=.type "list",data:=.seq its.toArray c3 } : Obj))],p.1 = s2.heap.objs.size:=fun p hp=>by
      have : p = (s2.heap.objs.size,{ cls:=.type "list",data:=.seq its.toArray c3 }):=by simpa using hp
      rw [this]
    have pinD : ∀ {pl : List (Addr × Obj)} {σ' : St} {H' : Hp} {s' : Shared},Inv Y ([(s2.heap.objs.size,({ cls:=.type "list",data:=.seq its.toArray c3 } : Obj))] ++ pl) σ' H' s'→s'.heap.get? s2.heap.objs.size = some { cls:=.type "list",data:=.seq its.toArray c3 }∧H' s2.heap.objs.size = none:=fun I'=>by
      obtain ⟨e,n,_⟩:=I'.pin (s2.heap.objs.size,{ cls:=.type "list",data:=.seq its.toArray c3 }) (List.mem_append_right _ (List.mem_append_left _ (by simp)))
      exact ⟨e,n⟩
    rcases turn i n ys H3 w3 with ⟨stop,hz,qn⟩ | ⟨go,Nx,hNx,step⟩
    · have hd:=T.done Y yp yw yK yc i _ s3 _ H3 xb I3 (fpY fr3 onlyD) st3 stop
      rw [yA] at hd
      refine thn hd fun r s4 hm0=>?_
      obtain ⟨hr,I4⟩:=hm0
      subst hr
      obtain ⟨eD,nD⟩:=pinD (pl:=[]) (by simpa using I4)
      have nC : H3 (s2.heap.objs.size + 1) = none:=by have:=I4.free; rw [yl] at this; exact this
      obtain ⟨mC,nsC,_⟩:=I4.loc
      rw [yl] at nsC
      have U:=I4.base
      rw [yfs,yex,yH,ys0] at U
      have old : ∀ {b o},s2.heap.get? b = some o→b < s2.heap.objs.size:=fun e=>Heap.lt_size e
      have Un2 : Un (frs X.stack) (s2.heap.objs.size :: fp) H2 (upd H3 s2.heap.objs.size (.lst ys)) s2.heap s4.heap :=
        ⟨fun b o e n hb hx=>U.keep b o (Heap.get?_push_of_some _ e) n hb hx,fun b o e n hb hx=>U.slot b o (Heap.get?_push_of_some _ e) n hb hx,
          fun b o e n hx=>by rw [ar (Nat.ne_of_lt (old e))]; exact U.free b o (Heap.get?_push_of_some _ e) n hx,fun b o e hx=>U.there b o (Heap.get?_push_of_some _ e) hx,
          fun b xs e=>by have q:=U.tups b xs e; rw [ar (aC q nD)]; exact q,fun b o u e=>by have q:=U.frzs b o u e; rw [ar (aC q nD)]; exact q,
          fun b ps e=>by obtain ⟨mo,q⟩:=U.tbls b ps e; exact ⟨mo,by rw [ar (aC q nD)]; exact q⟩⟩
      have hok4:=I4.hok
      rw [yp,yw] at hok4
      have IX : Inv X pins σ (upd H3 s2.heap.objs.size (.lst ys)) s4:=by
        refine I2.call' (ch:=s2.heap.objs.size :: fp) ?_ Un2 (hok4.adopt nD ⟨hz,its,c3,rv3,eD⟩) I4.bare fun b hb=>?_
        · have:=I4.os; rw [ys0] at this; exact this
        · rcases List.mem_cons.mp hb with rfl | hb
          · exact ⟨.inr I2.sz,Nat.ne_of_gt I2.lt,fun x c e=>Nat.ne_of_lt (cellLt x c e),fun p hp=>Nat.ne_of_lt (pinLt p hp)⟩
          · exact ⟨(f2 b hb).2.2.2.1,(f2 b hb).2.1,(f2 b hb).2.2.2.2.1,(f2 b hb).2.2.2.2.2⟩
      refine hRR _ _ s4 _ IX ⟨⟨mC,nsC⟩,?_,?_,Nat.le_succ_of_le I2.sz,fun x c e=>Nat.ne_of_lt (Nat.lt_succ_of_lt (cellLt x c e)),fun p hp=>Nat.ne_of_lt (Nat.lt_succ_of_lt (pinLt p hp))⟩ (qn _ nD)
      · rw [ar (Nat.succ_ne_self _)]; exact nC
      · exact Nat.ne_of_gt (Nat.lt_succ_of_lt I2.lt)
    · have hd := T.item Y yp yw yK yc i _ s3 _ H3 xb I3 (fpY fr3 onlyD) st3 go
      rw [yA] at hd
      refine thn hd fun r s4 hm0=>?_
      obtain ⟨u,hr,h4⟩:=hm0
      subst hr
      refine thn h4 fun _ s5 hm0=>?_
      obtain ⟨x,H5,I5,r5,y5,st5,fr5⟩:=hm0
      have I5':=I5.pinned (fpY fr5 onlyD) (T.obj _ _ st5)
      have a5:=gT _ s5 _ H5 x u _ I5' (by simp) r5 (step x H5 y5)
      rw [yp,yw,yA,yxe,yenv] at a5
      refine thn a5 fun _ s6 hm0=>?_
      obtain ⟨ws,hlw,q6,I6⟩:=hm0
      have dr : (List.replicate k (none : Option V) ++ aT σ cap).drop k = aT σ cap:=by
        rw [List.drop_append_of_le_length (by simp)]; simp
      rw [dr] at I6
      have a6:=gC _ s6 _ H5 _ I6 q6
      rw [yp,yw,yA,yxe,yenv] at a6
      refine thn a6 fun ok s7 hm0=>?_
      obtain ⟨H7,I7,q7⟩:=hm0
      have wk : ∀ (j : Nat) v,(List.replicate k (none : Option V) ++ aT σ cap)[j]? = some (some v)→(ws.map some ++ aT σ cap)[j]? = some (some v):=fun j v e=>by
        have hik : k ≤ j:=by
          refine Nat.le_of_not_lt fun hlt=>?_
          rw [List.getElem?_append_left (by simpa using hlt),List.getElem?_replicate] at e
          split at e <;> cases e
        rw [List.getElem?_append_right (by simpa using hik),List.length_replicate] at e
        rw [List.getElem?_append_right (by simpa [hlw] using hik),List.length_map,hlw]
        exact e
      have wl : (List.replicate k (none : Option V) ++ aT σ cap).length = (ws.map some ++ aT σ cap).length:=by simp [hlw]
      have stn : ∀ {H' : Hp} {s' : Shared},Inv Y ([(s2.heap.objs.size,({ cls:=.type "list",data:=.seq its.toArray c3 } : Obj))] ++ fb fp s5.heap) (ws.map some ++ aT σ cap) H' s'→tn (i + 1) s'.heap∧∀ b ∈ fp,H' b = none:=fun {H' s'} I'=>by
        refine ⟨T.keep _ _ _ st5 fun b hb o e=>(I'.pin (b,o) (List.mem_append_right _ (List.mem_append_right _ (bG hb e)))).1,fun b hb=>?_⟩
        obtain ⟨o,e,d⟩:=T.obj _ _ st5 b hb
        exact (I'.pin (b,o) (List.mem_append_right _ (List.mem_append_right _ (bG hb e)))).2.1
      cases ok with
      | false =>
        obtain ⟨_,m',hm,w'⟩:=hNx _ _ q7
        obtain ⟨t7,f7⟩:=stn I7
        exact ⟨m',hm,i + 1,ys,its,H7,c3,(I7.weak wl wk).unpinned,t7,f7,rv3,w'⟩
      | true =>
        have a7:=gE _ s7 _ H7 _ I7 q7
        rw [yp,yw,yA,yxe,yenv] at a7
        rw [if_pos rfl]
        refine thn a7 fun yv s8 hm0=>?_
        obtain ⟨y,H8,I8,r8,q8⟩:=hm0
        obtain ⟨hz8,m',hm,w'⟩:=hNx _ _ q8
        rw [List.length_append,List.length_singleton] at hz8
        obtain ⟨eD,nD⟩:=pinD I8
        obtain ⟨t8,f8⟩:=stn I8
        refine wpAny_list_append_plain (hsz:=by rw [List.size_toArray,← rv3.length]; omega) ⟨c3,eD⟩ fun h9 pl9 sb9=>?_
        obtain ⟨c9,e9⟩:=pl9
        have I8' : Inv Y [] (List.replicate k none ++ aT σ cap) H8 s8:=(I8.weak wl wk).pins_of fun p hp=>by cases hp
        have I9 : Inv Y [] (List.replicate k none ++ aT σ cap) H8 { s8 with heap:=h9 } :=
          I8'.turned (t':=s8.toks) (it:=s2.heap.objs.size) (fun b o hb e=>sb9.extBut b o hb e) nD (by rw [yl]; exact Nat.ne_of_lt (Nat.lt_succ_self _)) (.inl (by rw [yex]; exact List.mem_cons_self)) (fun x c e=>by rw [ycl] at e; exact Nat.ne_of_lt (cellLt x c (hcl1 x c e)))
            fun p hp=>by
              rw [List.append_nil,ypn] at hp
              exact Nat.ne_of_lt (pinLt p hp)
        have e9' : h9.get? s2.heap.objs.size = some { cls:=.type "list",data:=.seq (its ++ [yv]).toArray c9 }:=by rw [e9]; simp
        refine ⟨m',hm,i + 1,ys ++ [y],its ++ [yv],H8,c9,I9.pins_of fun p hp=>?_,T.keep _ _ _ t8 fun b hb o e=>sb9.extBut b o (Nat.ne_of_lt (fpLt b hb)) e,f8,rv3.append (.cons r8 .nil),w'⟩
        have : p = (s2.heap.objs.size,{ cls:=.type "list",data:=.seq (its ++ [yv]).toArray c9 }):=by simpa using hp
        subst this
        refine ⟨e9',nD,?_,?_,fun v z=>by cases z⟩
        · rw [yl]; exact Nat.ne_of_lt (Nat.lt_succ_self _)
        · rw [yfs]; exact stkNe _ (Nat.ne_of_gt I2.lt) (I2.nofs (Nat.le_refl _))
  exact codeAny_compStart_list (loop _ rfl) (T.self _ 0 _ _ _ (T.keep _ _ _ st2 fun b hb o e=>hsb b o (Heap.get?_push_of_some _ e)) (loop _ rfl))
section
variable {X : Cx} {elt tg iter : Expr} {ifs : List Expr} {scope : Scope} {pos : Pos} {N : List Str} {k : Nat} {cap : List Nat} {wi : TI} {tt : TTg} {tc : TT} {te : TE}
end
section
variable {X : Cx} {elt tg iter : Expr} {ifs : List Expr} {scope : Scope} {pos : Pos} {N : List Str} {k : Nat} {cap : List Nat} {wi : TI} {tt : TTg} {tc : TT} {te : TE}
theorem pX {E : XK} {i : Nat} {y : Str} {py spos : Pos} (hc : X.calm = true) (S : CompOk scope X.env.scope N X.N k cap) (hN : X.N.Nodup) (hiy : X.N[i]? = some y) (hy : X.env.scope.names.lookup y = some .local) (hi : PI X tg iter wi)
    (hg : ∀ cl C s H ex pn xe,PTg ((aG X scope N cl C s H ex pn).wish xe) k tg tt) (ht : ∀ cl C s H ex pn xe,PTs ((aG X scope N cl C s H ex pn).wish xe) ifs tc)
    (he : ∀ cl C s H ex pn xe,dw (CXR X.prog X.w) ((aG X scope N cl C s H ex pn).wish xe) E→PE ((aG X scope N cl C s H ex pn).wish xe) elt te)
    (hst : X.stack = X.env :: X.outer) (hf : X.env.frame = some X.env.locals) (hex : X.ex = [])
    (hxe : ∀ x s,wpAny (model X.prog X.w) X.A (leaving X.env x) (fun _ s''=>CXR X.prog X.w X.outer X.H₀ X.s₀ E x s'') (fun x' s''=>CXR X.prog X.w X.outer X.H₀ X.s₀ E x' s'') s→X.xe x s)
    (hsw : swapsWith (.ListComp elt [⟨tg,iter,ifs,0⟩] scope pos) (some (.Name y py)) spos.line X.env = pure true:=by rfl) (hs : ∀ x,foldedSetIterable iter X.env x = pure x:=by intro _; rfl) :
    PS X (.Assign [.Name y py] (.ListComp elt [⟨tg,iter,ifs,0⟩] scope pos) spos) (nF (d6 wi tt tc te cap) (aN i)):=by
  intro pins s σ H D I h
  obtain ⟨cl,hclos,hcl1,hcl2⟩:=fu (scope:=scope) (env:=X.env) fun y hy hf=>I.ok.has y.1 (S.free y hy hf)
  rw [exec_Assign_Name_used _ _ _ _ hsw]
  refine wpAny_bind (wpAny_standAt (wpAny_bind ?_))
  show wpAny _ X.A (do let _ ← comprehension (.ListComp elt [⟨tg,iter,ifs,0⟩] scope pos) scope X.env _ (newList []) false (eval iter X.env) (some (assign (.Name y py) X.env))) _ _ s
  refine wpAny_bind (wpAny_mono (wpAny_comprehension_free (use:=some (assign (.Name y py) X.env)) (Q:=fun _ s'=>SP X pins D .next s') rfl hs hclos S.kind S.loc ?_) (fun _ s' hq=>wpAny_pure (wpAny_pure hq)) fun _ _ e=>e)
  refine lV hc hi hg ht he hst hf hex hxe S hcl1 hcl2 I h (fun Da C s1 H' I1 B q=>?_) fun _ _ _ _ z=>z
  show wpAny _ X.A (assign (.Name y py) X.env (.ref Da)) _ _ _
  refine wpAny_assign_Name (fU (v:=.ref Da) I1 hN hiy (.inl hy) rfl (fun s' I' z=>?_) (.inr hy))
  obtain ⟨a,hsb,ha⟩:=z
  have hCa : C ≠ a:=by
    rcases ha with rfl | ha
    · exact B.ne
    · exact fun e=>B.cells _ _ ha e.symm
  obtain ⟨m,hm⟩:=B.ns
  refine ⟨m,hm.sameBut hsb hCa,fun h' sb=>?_⟩
  exact ⟨_,H',I'.turned (t':=s'.toks) (fun b o hb e=>sb.extBut b o hb e) B.un B.ne (.inr B.new) B.cells B.pins,q⟩
end
section
variable {X : Cx} {elt tg iter : Expr} {ifs : List Expr} {scope : Scope} {pos : Pos} {wi : TI} {tt : TTg} {tc : TT} {te : TE}
theorem uj {E : XK} {i : Nat} {y : Str} {py spos : Pos} (psc : Scope) (PN N : List Str) (k : Nat) (cap : List Nat) (hN : X.N.Nodup) (hiy : X.N[i]? = some y) (hy : X.env.scope.names.lookup y = some .local) (hi : PI X tg iter wi)
    (hg : ∀ cl C s H ex pn xe,PTg ((aG X scope N cl C s H ex pn).wish xe) k tg tt) (ht : ∀ cl C s H ex pn xe,PTs ((aG X scope N cl C s H ex pn).wish xe) ifs tc)
    (he : ∀ cl C s H ex pn xe,dw (CXR X.prog X.w) ((aG X scope N cl C s H ex pn).wish xe) E→PE ((aG X scope N cl C s H ex pn).wish xe) elt te)
    (hxe : ∀ x s,wpAny (model X.prog X.w) X.A (leaving X.env x) (fun _ s''=>CXR X.prog X.w X.outer X.H₀ X.s₀ E x s'') (fun x' s''=>CXR X.prog X.w X.outer X.H₀ X.s₀ E x' s'') s→X.xe x s:=by intro _ _ h; exact h) (hst : X.stack = X.env :: X.outer:=by rfl) (hf : X.env.frame = some X.env.locals:=by rfl) (hex : X.ex = []:=by rfl) (hc : X.calm = true:=by rfl) (h1 : X.env.scope = psc:=by rfl) (h2 : X.N = PN:=by rfl) (S : eK scope psc N PN k cap = true:=by decide +kernel)
    (hsw : swapsWith (.ListComp elt [⟨tg,iter,ifs,0⟩] scope pos) (some (.Name y py)) spos.line X.env = pure true:=by rfl) (hs : ∀ x,foldedSetIterable iter X.env x = pure x:=by intro _; rfl) :
    PS X (.Assign [.Name y py] (.ListComp elt [⟨tg,iter,ifs,0⟩] scope pos) spos) (nF (d6 wi tt tc te cap) (aN i)):=pX hc (by rw [h1,h2]; exact eJ S) hN hiy hy hi hg ht he hst hf hex hxe hsw hs
end
section
variable {P : Program} {w : World} {K : PySem.W.Frag} {mg : Str→Option Value} {base : Heap}
end
section
variable {X : Cx} {E : XK}
end
section
variable {X : Cx} {k n : Nat} {f C : Addr} {fd : FuncData} {ps fs : List Str} {sp : Sp} {x m : Str} {p pos apos : Pos} {e o : Expr} {es : List Expr} {ta : TE} {t : TA}
end
section
variable {X : Cx}
end
end L2
namespace L2
open PySem PySem.W PySem.Calls PyProof.Rows
def fE (tb : String→Option Builtin) (p : Program) (w : World) (n₀ : Nat) (ann : Option Value) : Nat→SharedT→Thread→Option SharedT
  | 0,_,_=>none
  | n + 1,s,t=>match through t with
    | true=>some s
    | false=>match stepOk n₀ ann t with
      | false=>none
      | true=>match stepT (denote tb) p w s t with
        | some (s',t')=>fE tb p w n₀ ann n s' t'
        | none=>none
theorem jt {tb : String→Option Builtin} {p : Program} {w : World} {n₀ : Nat} {ann : Option Value} : ∀ {n : Nat} {s s' : SharedT} {t : Thread},fE tb p w n₀ ann n s t = some s'→topRun tb p w n₀ ann n s.abs t = some s'.abs
  | 0,_,_,_,h=>by cases h
  | n + 1,s,s',t,h=>by
    unfold fE at h
    unfold topRun
    cases he : through t with
    | true=>rw [he] at h; cases h; rfl
    | false =>
      rw [he] at h
      cases hk : stepOk n₀ ann t with
      | false=>rw [hk] at h; cases h
      | true =>
        rw [hk] at h
        cases hs : stepT (denote tb) p w s t with
        | none=>rw [hs] at h; cases h
        | some r=>obtain ⟨s₂,t₂⟩:=r; rw [hs] at h; rw [stepT_spec hs]; exact jt h
noncomputable def fq (p : Program) (w : World) (n₀ : Nat) (ann : Option Value) : Nat→SharedT→Thread→Option SharedT
  | 0,_,_=>none
  | n + 1,s,t=>match through t with
    | true=>some s
    | false=>match PySem.W.Fast.tw6613529449190102663 n₀ ann t with
      | false=>none
      | true=>match PySem.W.Fast.tw10156331382660048174 (PySem.W.Fast.tw11892475500146522536 PySem.W.Fast.tw14364793385576792824) p w s t with
        | some (s',t')=>fq p w n₀ ann n s' t'
        | none=>none
theorem iu {p : Program} {w : World} {n₀ : Nat} {ann : Option Value} : ∀ (n : Nat) (s : SharedT) (t : Thread),fq p w n₀ ann n s t = fE treeTable p w n₀ ann n s t
  | 0,_,_=>rfl
  | n + 1,s,t=>by
    unfold fq fE
    rw [← PySem.W.Fast.te6613529449190102663,← PySem.W.Fast.te10156331382660048174,← PySem.W.Fast.te11892475500146522536,← PySem.W.Fast.te14364793385576792824]
    cases through t with
    | true=>rfl
    | false =>
      dsimp only
      cases stepOk n₀ ann t with
      | false=>rfl
      | true =>
        dsimp only
        cases stepT (denote treeTable) p w s t with
        | none=>rfl
        | some r=>exact iu n r.1 r.2
def qc : List Obj→Nat→BT→BT
  | [],_,t=>t
  | o :: l,n,t=>qc l (n + 1) (t.ins n o)
noncomputable def jk (P : Params) : BT:=qc (boot_heap P).objs.toList 0 .nil
noncomputable def jN {α : Type} (p q : Program) (loose : List Str) (Xt : Shared→Bool) (g0 : Bool) (Yf : Shared→α) (H : Heap) (s : Shared) :=
  ((staticsOk (importedModules p.main.body) H s.heap && namesBound p s.heap && gensDone s && laidKept H s.heap),PySem.W.Fast.tw4187177175401517315 q loose (importedModules p.main.body) Xt g0 s,Yf s)
theorem n5 {p q : Program} {loose : List Str} {Xt : Shared→Bool} {α : Type} {Yf : Shared→α} {Ya : World→α} {N : Nat} {g0 : Bool} {H₀ : Params→Heap} {gs₀ : Array GenState} {d₀ : Drawn} {k₀ : Nat} {m₀ : Nat} {ann : Option Value} {M : Nat} {T₀ : Params→BT} {n₀ : Nat} {life : Life}
    (open_ : ∀ w : World,(fencedOpening treeTable p w N).map (fun s=>(s.heap,s.gens,s.drawn,s.toks)) = some (H₀ w.params,gs₀,d₀,k₀))
    (size : ∀ w : World,((H₀ w.params).isNs mainGlobals && gs₀.size == 0,(H₀ w.params).objs.size,(H₀ w.params).nsMap mainGlobals "__annotations__") = (true,m₀,ann))
    (tree : ∀ P : Params,absHeap (T₀ P) n₀ life = H₀ P)
    (run : ∀ (w : World) (os : OsState),(fq p w m₀ ann M ⟨T₀ w.params,n₀,life,gs₀,d₀,k₀,os⟩ (topStub p)).map (fun r=>jN p q loose Xt g0 Yf (H₀ w.params) r.abs) = some (true,openGood q loose,Ya w))
    (le : Nat.ble M N = true) : LeftO p q loose Xt Yf Ya N g0:=fun w=>by
  obtain ⟨⟨h,gs,d,k,os⟩,e,e'⟩:=Option.map_eq_some_iff.mp (open_ w)
  obtain ⟨rfl,rfl,rfl,rfl⟩ : h = H₀ w.params∧gs = gs₀∧d = d₀∧k = k₀:=by simpa using e'
  obtain ⟨z1,z2,z3⟩ : _∧_∧_:=by simpa only [Prod.mk.injEq] using size w
  obtain ⟨r,hr,hl⟩:=Option.map_eq_some_iff.mp (run w os)
  obtain ⟨l1,l2,l3⟩ : _∧_∧_:=by simpa only [jN,← PySem.W.Fast.te4187177175401517315,Prod.mk.injEq] using hl
  rw [iu] at hr
  have r2:=jt hr
  have ea : SharedT.abs ⟨T₀ w.params,n₀,life,gs,d,k,os⟩ = ⟨H₀ w.params,gs,d,k,os⟩:=by
    unfold SharedT.abs
    rw [tree]
  rw [ea] at r2
  have r3:=topRun_mono (N - M) _ _ _ _ r2
  rw [show M + (N - M) = N by have:=Nat.le_of_ble_eq_true le; omega] at r3
  have t : topFrom treeTable p w N ⟨H₀ w.params,gs,d,k,os⟩ = some r.abs:=by
    unfold topFrom
    dsimp only
    rw [z1,z2,z3,r3]
    show (match staticsOk (importedModules p.main.body) (H₀ w.params) r.abs.heap && namesBound p r.abs.heap && gensDone r.abs && laidKept (H₀ w.params) r.abs.heap with | true=>_ | false=>_) = _
    rw [l1]
  unfold openEnds
  rw [e]
  show (topFrom treeTable p w N _).map _ = _
  rw [t]
  exact congrArg some (Prod.ext l2 l3)
def jM (as : List Addr) (h : Heap) : Frag:=as.filterMap fun a=>(h.get? a).map fun o=>(a,o)
def vh (s : Stmt) : Pos:=match s with
  | .FunctionDef _ _ _ _ _ _ _ _ _ p=>p
  | _=>⟨0,0,0,0⟩
def sv (K : Frag) : Value→Option (Option (List Value))
  | .none=>some none
  | .ref T=>match K.lookup T with
    | some ⟨_,_,.seq vs _,_⟩=>some (some vs.toList)
    | _=>none
  | _=>none
abbrev Sig:=(Str × Str × Addr × List (Str × Addr) × Option (Option (List Value)) × Addr) × (Bool × Bool) × Arguments × FuncBody × Scope
def fJ (K : Frag) (v : Option (Option Value)) (qual : Str) : Option Sig:=match v with
  | some (some (.ref f))=>match K.lookup f with
    | some ⟨_,_,.func fd,_⟩=>some ((fd.name,fd.qualname,fd.globals,fd.closure,sv K fd.defaults,fd.builtins),(codeIn K fd.code qual,isFn K (.ref f)),fd.params,fd.body,fd.scope)
    | _=>none
  | _=>none
def pz (x qual : Str) (st : Stmt) (df : Option (List Value)) : Sig:=((x,qual,mainGlobals,[],some df,builtinsNs),(true,true),cP st,.stmts (bu st),ai st)
theorem m5 {K : Frag} {f : Addr} {oc : Value} {od : Option Addr} {fd : FuncData} {sl : Array (Option Value)} (l : K.lookup f = some ⟨oc,od,.func fd,sl⟩) : keepIn K (.ref f) = true:=by
  unfold keepIn
  simp only [l]
theorem i5 {K : Frag} {v : Option (Option Value)} {x qual : Str} {st : Stmt} {df : Option (List Value)} (e : fJ K v qual = some (pz x qual st df)) :
    ∃ (f : Addr) (oc : Value) (od : Option Addr) (dV kV doc pm : Value) (an : Option Addr) (cdv ct : Value) (sl : Array (Option Value)),v = some (some (.ref f))∧K.lookup f = some ⟨oc,od,.func (fnOf x qual (cP st) (bu st) (ai st) dV kV doc pm an cdv ct),sl⟩ ∧
      codeIn K cdv qual = true∧isFn K (.ref f) = true∧sv K dV = some df:=by
  unfold fJ at e
  split at e
  · rename_i f
    split at e
    · rename_i oc od fd sl hl
      obtain ⟨nm,qn,ps,bd,sc,gl,cl,dV,kV,doc,pm,an,cd,ct,bl⟩:=fd
      injection e with e
      injection e with e1 e2
      injection e1 with a1 e1
      injection e1 with a2 e1
      injection e1 with a3 e1
      injection e1 with a4 e1
      injection e1 with a5 a6
      injection e2 with e3 e4
      injection e3 with b1 b2
      injection e4 with c1 e4
      injection e4 with c2 c3
      dsimp only at a1 a2 a3 a4 a5 a6 b1 b2 c1 c2 c3
      subst a1 a2 a3 a4 a6 c1 c2 c3
      exact ⟨f,oc,od,dV,kV,doc,pm,an,cd,ct,sl,rfl,hl,b1,b2,a5⟩
    · cases e
  · cases e
theorem i7 {K : Frag} {v : Value} (e : sv K v = some none) : v = .none:=by
  unfold sv at e
  split at e
  · rfl
  · split at e <;> cases e
  · cases e
theorem lw {K : Frag} {v : Option (Option Value)} {x qual : Str} {st : Stmt} (e : fJ K v qual = some (pz x qual st none)) : ∃ f fd,v = some (some (.ref f))∧Fun K x qual st f fd∧isFn K (.ref f) = true:=by
  obtain ⟨f,oc,od,dV,kV,doc,pm,an,cdv,ct,sl,hv,l,c,i,d⟩:=i5 e
  obtain rfl:=i7 d
  exact ⟨f,_,hv,pR l c (m5 l),i⟩
inductive Ky where
  | df (x : Str)
  | me (c m qual : Str)
def Ky.val (K : Frag) : Ky→Option (Option Value)
  | .df x=>nsIn K mainGlobals x
  | .me c m _=>match nsIn K mainGlobals c with
    | some (some v)=>findIn K v m
    | _=>none
def Ky.qual : Ky→Str
  | .df x=>x
  | .me _ _ q=>q
def Ky.nm : Ky→Str
  | .df x=>x
  | .me _ m _=>m
def qZ (K : Frag) (c : Str × List Str) : Option (Bool × Option (Option Value) × List (Option (Option Value))):=match nsIn K mainGlobals c.1 with
  | some (some (.ref C))=>some (plainGet K C Str.empty && hasDictIn K C && plainOver K C && makesIn K C && keepIn K (.ref C),findIn K (.ref C) "__setattr__",c.2.map fun f=>findIn K (.ref C) f)
  | _=>none
def jJ (K : Frag) (x : Str) : Option Int:=match nsIn K mainGlobals x with
  | some (some (.int v _))=>some v
  | _=>none
def rz (K : Frag) (x : Str) : Option Str:=match nsIn K mainGlobals x with
  | some (some (.str v _))=>some v
  | _=>none
structure Asked (β : Type) where
  ks : List (Ky × Stmt × Option (List Value))
  cs : List (Str × List Str):=[]
  is : List (Str × Int):=[]
  ss : List (Str × Str):=[]
  bs : List Str:=[]
  xc : Frag→Bool:=fun _=>true
  ext : Frag→β
  extW : World→β
section
variable {β : Type} (A : Asked β)
def Asked.look (K : Frag):=(A.ks.map fun k=>fJ K (k.1.val K) k.1.qual,A.cs.map (qZ K),A.is.map fun x=>jJ K x.1,A.ss.map fun x=>rz K x.1,A.bs.map fun x=>nsIn K mainGlobals x,A.xc K,A.ext K)
def Asked.want (w : World):=(A.ks.map fun k=>some (pz k.1.nm k.1.qual k.2.1 k.2.2),A.cs.map fun c=>some (true,some (some (Value.builtin "object.__setattr__")),c.2.map fun _=>some (none : Option Value)),A.is.map fun x=>some x.2,A.ss.map fun x=>some x.2,A.bs.map fun _=>some (none : Option Value),true,A.extW w)
def Asked.Ok (w : World) (K : Frag) : Prop:=A.look K = A.want w
end
theorem lS {α γ : Type} {l : List α} {f g : α→γ} (e : l.map f = l.map g) {i : Nat} {a : α} (h : l[i]? = some a) : f a = g a:=by
  have z:=congrArg (fun l=>l[i]?) e
  simp only [List.getElem?_map,h,Option.map_some] at z
  injection z
section
variable {β : Type} {A : Asked β} {w : World} {K : Frag} {h : Heap} {mg : Str→Option Value}
theorem Asked.Ok.fn (e : A.Ok w K) {i : Nat} {k : Ky} {st : Stmt} {df : Option (List Value)} (hi : A.ks[i]? = some (k,st,df)) : fJ K (k.val K) k.qual = some (pz k.nm k.qual st df):=lS (f:=fun k : Ky × Stmt × Option (List Value)=>fJ K (k.1.val K) k.1.qual) (g:=fun k=>some (pz k.1.nm k.1.qual k.2.1 k.2.2)) (congrArg Prod.fst e) hi
theorem Asked.Ok.defAt (e : A.Ok w K) (X : K.In h) (G : h.Ns mainGlobals mg) (i : Nat) {x : Str} {st : Stmt} {ps : List Str} (hi : A.ks[i]? = some (.df x,st,none))
    (hb : ∀ (kV doc pm : Value) (an : Option Addr) (cdv ct : Value) (us : List Value),us.length = ps.length→bindArgs (fnOf x x (cP st) (bu st) (ai st) .none kV doc pm an cdv ct) ⟨us,[]⟩ = pure (ps.zip us)) : DefAt K mg x st ps:=by
  obtain ⟨f,fd,hv,F,_⟩:=lw (e.fn hi)
  exact ⟨f,fd,F,mg_of X G hv,F.binds hb⟩
theorem Asked.Ok.law (e : A.Ok w K) (X : K.In h) (G : h.Ns mainGlobals mg) (i : Nat) {x : Str} {st : Stmt} {fa : Addr} (hi : A.ks[i]? = some (.df x,st,none)) (hm : mg x = some (.ref fa)) :
    ∃ kV doc pm an cdv ct,Fun K x x st fa (fnOf x x (cP st) (bu st) (ai st) .none kV doc pm an cdv ct):=by
  obtain ⟨f,oc,od,dV,kV,doc,pm,an,cdv,ct,sl,hv,l,c,_,d⟩:=i5 (e.fn hi)
  obtain rfl:=i7 d
  have z:=hm.symm.trans (mg_of X G hv)
  injection z with z
  injection z with z
  subst z
  exact ⟨kV,doc,pm,an,cdv,ct,pR l c (m5 l)⟩
theorem Asked.Ok.int (e : A.Ok w K) (X : K.In h) (G : h.Ns mainGlobals mg) (i : Nat) {x : Str} {v : Int} (hi : A.is[i]? = some (x,v)) : ∃ t,mg x = some (.int v t):=by
  have z:=lS (f:=fun x : Str × Int=>jJ K x.1) (g:=fun x=>some x.2) (congrArg (fun p=>p.2.2.1) e) hi
  unfold jJ at z
  split at z
  · rename_i u t hC
    injection z with z
    dsimp only at z hC
    subst z
    exact ⟨t,mg_of X G hC⟩
  · cases z
theorem Asked.Ok.noneAt (e : A.Ok w K) (X : K.In h) (G : h.Ns mainGlobals mg) (i : Nat) {x : Str} (hi : A.bs[i]? = some x) : mg x = Option.none :=
  mg_none_of X G (lS (f:=fun x=>nsIn K mainGlobals x) (g:=fun _=>some (none : Option Value)) (congrArg (fun p=>p.2.2.2.2.1) e) hi)
theorem Asked.Ok.exc (e : A.Ok w K) : A.xc K = true:=congrArg (fun p=>p.2.2.2.2.2.1) e
theorem Asked.Ok.more (e : A.Ok w K) : A.ext K = A.extW w:=congrArg (fun p=>p.2.2.2.2.2.2) e
end
section
variable {w : World} {K : Frag} {h : Heap} {mg : Str→Option Value} {x : Str}
end
end L2
namespace L2
open PySem PySem.Spec PyProof.Rows
section
variable {X : Cx} {pos : Pos}
end
section
variable {X : Cx} {pins : List (Addr × Obj)} {σ : St} {H : Hp} {s : Shared}
end
section
variable {X : Cx}
end
end L2
namespace L2
open PySem
abbrev Wy:=Int × Int
abbrev Lf:=List (List Wy)
def bi (W : Lf) (x : Int) : List Wy:=(W[x.toNat]?).getD []
def Wk (W : Lf) : Int→List Wy→Int→Prop
  | x,[],y=>x = y
  | x,w :: s,y=>w ∈ bi W x∧Wk W w.1 s y
def sm (s : List Wy) : Int:=(s.map (·.2)).sum
theorem b8 : sm [] = 0:=rfl
theorem bF (w : Wy) (s : List Wy) : sm (w :: s) = w.2 + sm s:=by simp [sm]
theorem du (a b : List Wy) : sm (a ++ b) = sm a + sm b:=by
  induction a with
  | nil=>rw [List.nil_append,b8,Int.zero_add]
  | cons w a ih=>rw [List.cons_append,bF,bF,ih,Int.add_assoc]
theorem Wk.app {W : Lf} : ∀ {x y z : Int} {a b : List Wy},Wk W x a y→Wk W y b z→Wk W x (a ++ b) z
  | _,_,_,[],_,h1,h2=>by cases h1; exact h2
  | _,_,_,_ :: _,_,h1,h2=>⟨h1.1,Wk.app h1.2 h2⟩
theorem Wk.split {W : Lf} : ∀ {x z : Int} {a b : List Wy},Wk W x (a ++ b) z→∃ y,Wk W x a y∧Wk W y b z
  | x,_,[],_,h=>⟨x,rfl,h⟩
  | _,_,w :: a,b,h=>by
    obtain ⟨y,h1,h2⟩:=Wk.split (a:=a) (b:=b) h.2
    exact ⟨y,⟨h.1,h1⟩,h2⟩
theorem Wk.last {W : Lf} {x y : Int} {a : List Wy} {w : Wy} (h : Wk W x (a ++ [w]) y) : y = w.1:=by
  obtain ⟨z,_,h2⟩:=h.split
  exact h2.2.symm
def OkS (g : Int) (s : List Wy) : Prop:=∀ i,i ≤ s.length→0 ≤ g + sm (s.take i)
theorem cR {α : Type} (f : α→Int) : ∀ {l : List α},¬ (l.map f).Nodup→∃ a u b v c,l = a ++ u :: (b ++ v :: c)∧f u = f v
  | [],h=>absurd List.nodup_nil h
  | u :: l,h=>by
    by_cases e : f u ∈ l.map f
    · obtain ⟨v,hv,ev⟩:=List.mem_map.mp e
      obtain ⟨b,c,rfl⟩:=List.append_of_mem hv
      exact ⟨[],u,b,v,c,rfl,ev.symm⟩
    · have : ¬ (l.map f).Nodup:=fun z=>h (by rw [List.map_cons]; exact List.nodup_cons.mpr ⟨e,z⟩)
      obtain ⟨a,u',b,v,c,rfl,ev⟩:=cR f this
      exact ⟨u :: a,u',b,v,c,rfl,ev⟩
theorem jQ {W : Lf} : ∀ (n : Nat) {x : Int} {s : List Wy},s.length ≤ n→s ≠ []→Wk W x s x→0 ≤ sm s→∃ y r,r ≠ []∧Wk W y r y∧0 ≤ sm r∧(r.map (·.1)).Nodup∧∀ w ∈ r,w ∈ s
  | 0,_,s,hl,hn,_,_=>absurd (List.eq_nil_of_length_eq_zero (by omega)) hn
  | n + 1,x,s,hl,hn,hw,hs=>by
    by_cases nd : (s.map (·.1)).Nodup
    · exact ⟨x,s,hn,hw,hs,nd,fun _ h=>h⟩
    obtain ⟨a,u,b,v,c,rfl,e⟩:=cR (fun w : Wy=>w.1) nd
    have e : u.1 = v.1:=e
    have hlen : a.length + b.length + c.length + 2 ≤ n + 1:=by simp at hl; omega
    have e1 : a ++ u :: (b ++ v :: c) = (a ++ [u]) ++ ((b ++ [v]) ++ c):=by simp
    rw [e1] at hw hs
    obtain ⟨y,w1,w2⟩:=hw.split
    obtain ⟨z,w3,w4⟩:=w2.split
    have ey:=w1.last
    have ez:=w3.last
    have hyz : y = z:=by omega
    subst hyz
    have hs : 0 ≤ sm (a ++ [u]) + (sm (b ++ [v]) + sm c):=by rw [← du,← du]; exact hs
    by_cases c1 : 0 ≤ sm (b ++ [v])
    · obtain ⟨y',r,r1,r2,r3,r4,r5⟩:=jQ n (by simp; omega) (by simp) w3 c1
      refine ⟨y',r,r1,r2,r3,r4,fun w hw=>?_⟩
      have:=r5 w hw
      simp at this ⊢; rcases this with h | h <;> simp [h]
    · obtain ⟨y',r,r1,r2,r3,r4,r5⟩:=jQ n (s:=(a ++ [u]) ++ c) (by simp; omega) (by simp) (w1.app w4) (by rw [du]; omega)
      refine ⟨y',r,r1,r2,r3,r4,fun w hw=>?_⟩
      have:=r5 w hw
      simp at this ⊢; rcases this with h | h | h <;> simp [h]
theorem kZ (f : Nat→Int) : ∀ n,∃ k,k ≤ n∧∀ i,i ≤ n→f k ≤ f i
  | 0=>⟨0,Nat.le_refl _,fun i hi=>by have : i = 0:=(by omega); rw [this]; exact Int.le_refl _⟩
  | n + 1 => by
    obtain ⟨k,h1,h2⟩:=kZ f n
    by_cases c : f k ≤ f (n + 1)
    · exact ⟨k,by omega,fun i hi=>by
        rcases Nat.lt_or_ge i (n + 1) with h | h
        · exact h2 i (by omega)
        · have : i = n + 1:=(by omega)
          rw [this]; exact c⟩
    · refine ⟨n + 1,Nat.le_refl _,fun i hi=>?_⟩
      rcases Nat.lt_or_ge i (n + 1) with h | h
      · have:=h2 i (by omega); omega
      · have : i = n + 1:=(by omega)
        rw [this]; exact Int.le_refl _
theorem nI {W : Lf} {x : Int} {s : List Wy} (hn : s ≠ []) (hw : Wk W x s x) (hs : 0 ≤ sm s) : ∃ z a b,s = a ++ b∧b ++ a ≠ []∧Wk W z (b ++ a) z∧OkS 0 (b ++ a):=by
  obtain ⟨k,h1,h2⟩:=kZ (fun i=>sm (s.take i)) s.length
  have hsp : s = s.take k ++ s.drop k:=(List.take_append_drop k s).symm
  have hw':=hw
  rw [hsp] at hw'
  obtain ⟨z,w1,w2⟩:=hw'.split
  refine ⟨z,s.take k,s.drop k,hsp,fun e=>hn (by rw [hsp,(List.append_eq_nil_iff.mp e).1,(List.append_eq_nil_iff.mp e).2]; rfl),w2.app w1,fun i hi=>?_⟩
  have tot : sm (s.take k) + sm (s.drop k) = sm s:=by rw [← du,List.take_append_drop]
  rw [List.take_append]
  rw [du]
  rcases Nat.lt_or_ge i (s.drop k).length with h | h
  · have e0 : i - (s.drop k).length = 0:=by omega
    rw [e0,List.take_zero,b8]
    have e1 : sm (s.take (k + i)) = sm (s.take k) + sm ((s.drop k).take i):=by rw [← du,← List.take_add]
    have:=h2 (k + i) (by rw [List.length_drop] at h; omega)
    have this : sm (s.take k) ≤ sm (s.take (k + i)):=this
    omega
  · rw [List.take_of_length_le h,List.take_take]
    have h3:=h2 (min (i - (s.drop k).length) k) (by omega)
    have h3 : sm (s.take k) ≤ sm (s.take (min (i - (s.drop k).length) k)):=h3
    omega
abbrev Tb:=Int→Option Int
def leO : Option Int→Option Int→Prop
  | _,none=>True
  | none,some _=>False
  | some a,some b=>a ≤ b
theorem leO.refl : ∀ a,leO a a
  | none=>trivial
  | some a=>Int.le_refl a
theorem leO.trans : ∀ {a b c : Option Int},leO a b→leO b c→leO a c
  | _,_,none,_,_=>by unfold leO; trivial
  | _,none,some _,_,h=>h.elim
  | none,some _,some _,h,_=>h.elim
  | some _,some _,some _,h1,h2=>Int.le_trans (a:=_) h1 h2
theorem leO.total : ∀ a b : Option Int,leO a b ∨ leO b a
  | _,none=>.inl (by unfold leO; trivial)
  | none,some _=>.inr trivial
  | some a,some b=>Int.le_total a b
theorem leO.anti : ∀ {a b : Option Int},leO a b→leO b a→a = b
  | none,none,_,_=>rfl
  | none,some _,h,_=>h.elim
  | some _,none,_,h=>h.elim
  | some a,some b,h1,h2=>by have h1 : a ≤ b:=h1; have h2 : b ≤ a:=h2; rw [show a = b by omega]
def ax (T : Tb) (w : Wy) : Option Int:=(T w.1).map fun v=>max (v - w.2) 0
theorem fP {T T' : Tb} {w : Wy} (h : leO (T w.1) (T' w.1)) : leO (ax T w) (ax T' w):=by
  unfold ax
  cases e' : T' w.1 with
  | none=>exact (by unfold leO; trivial)
  | some b =>
    cases e : T w.1 with
    | none=>rw [e,e'] at h; exact h.elim
    | some a =>
      rw [e,e'] at h
      have h : a ≤ b:=h
      show max (a - w.2) 0 ≤ max (b - w.2) 0
      omega
def cst : List Wy→Int
  | []=>0
  | w :: s=>max (cst s - w.2) 0
theorem mO : ∀ s,0 ≤ cst s
  | []=>Int.le_refl _
  | w :: s=>by show 0 ≤ max (cst s - w.2) 0; omega
theorem ee {x y : List Wy} (h : cst x ≤ cst y) : ∀ a : List Wy,cst (a ++ x) ≤ cst (a ++ y)
  | []=>h
  | w :: a=>by
    have:=ee h a
    show max (cst (a ++ x) - w.2) 0 ≤ max (cst (a ++ y) - w.2) 0
    omega
theorem pq (c : List Wy) : ∀ b : List Wy,cst c - sm b ≤ cst (b ++ c)
  | []=>by rw [b8,List.nil_append]; omega
  | w :: b=>by
    have:=pq c b
    rw [bF]
    show _ ≤ max (cst (b ++ c) - w.2) 0
    omega
def InW (W : Lf) (n : Nat) : Prop:=∀ x,∀ w ∈ bi W x,0 ≤ w.1∧w.1 < (n : Int)
theorem Wk.inside {W : Lf} {n : Nat} (h : InW W n) : ∀ {x y : Int} {s : List Wy},Wk W x s y→∀ w ∈ s,0 ≤ w.1∧w.1 < (n : Int)
  | _,_,[],_,_,hw=>by cases hw
  | _,_,u :: s,hk,w,hw=>by
    rcases List.mem_cons.mp hw with e | e
    · rw [e]; exact h _ _ hk.1
    · exact Wk.inside h hk.2 w e
theorem bZ {n : Nat} {l : List Int} (h : l.Nodup) (hb : ∀ x ∈ l,0 ≤ x∧x < (n : Int)) : l.length ≤ n:=by
  have:=dG l ((List.range n).map fun i=>((i : Nat) : Int)) h fun x hx=>List.mem_map.mpr ⟨x.toNat,List.mem_range.mpr (by have:=hb x hx; omega),by have:=hb x hx; omega⟩
  simpa using this
theorem dR {W : Lf} {n : Nat} {Z : Int→Prop} (hin : InW W n) (hZ : ∀ x s,s ≠ []→Wk W x s x→0 ≤ sm s→∃ w ∈ s,Z w.1) : ∀ (m : Nat) {x z : Int} {s : List Wy},s.length ≤ m→0 ≤ x→x < (n : Int)→Wk W x s z→Z z→∃ s' z',Wk W x s' z'∧Z z'∧cst s' ≤ cst s∧s'.length < n
  | 0,x,z,s,hl,x0,x1,hw,hz=>⟨s,z,hw,hz,Int.le_refl _,by omega⟩
  | m + 1,x,z,s,hl,x0,x1,hw,hz=>by
    rcases Nat.lt_or_ge s.length n with hs | hs
    · exact ⟨s,z,hw,hz,Int.le_refl _,hs⟩
    have nd : ¬ (((x,(0 : Int)) :: s).map (fun w : Wy=>w.1)).Nodup:=fun h=>by
      have:=bZ h fun y hy=>by
        obtain ⟨w,h1,h2⟩:=List.mem_map.mp hy
        rcases List.mem_cons.mp h1 with e | e
        · rw [← h2,e]; exact ⟨x0,x1⟩
        · rw [← h2]; exact hw.inside hin w e
      simp at this; omega
    obtain ⟨a0,u,b,v,c,e,ev⟩:=cR (fun w : Wy=>w.1) nd
    have ev : u.1 = v.1:=ev
    obtain ⟨a,hsa,hwa⟩ : ∃ a,s = a ++ ((b ++ [v]) ++ c)∧∀ y,Wk W x a y→y = u.1:=by
      cases a0 with
      | nil =>
        simp only [List.nil_append,List.cons.injEq] at e
        refine ⟨[],by rw [e.2]; simp,fun y hy=>?_⟩
        have hy : x = y:=hy
        rw [← hy,← e.1]
      | cons t a1 =>
        simp only [List.cons_append,List.cons.injEq] at e
        refine ⟨a1 ++ [u],by rw [e.2]; simp,fun y hy=>hy.last⟩
    subst hsa
    obtain ⟨y,w1,w2⟩:=hw.split
    obtain ⟨y2,w3,w4⟩:=w2.split
    have e1:=hwa y w1
    have e2:=w3.last
    have e3 : y = y2:=by omega
    subst e3
    have hlen : a.length + b.length + 1 + c.length ≤ m + 1:=by simp at hl; omega
    by_cases cs : 0 ≤ sm (b ++ [v])
    · obtain ⟨w,hwm,hwz⟩:=hZ y _ (by simp) w3 cs
      by_cases cy : Z y
      · obtain ⟨s',z',h1,h2,h3,h4⟩:=dR hin hZ m (s:=a) (by omega) x0 x1 w1 cy
        refine ⟨s',z',h1,h2,Int.le_trans h3 ?_,h4⟩
        have:=ee (x:=[]) (y:=(b ++ [v]) ++ c) (mO _) a
        rwa [List.append_nil] at this
      · obtain ⟨b1,b2,eb⟩:=List.append_of_mem hwm
        have hb2 : b2 ≠ []:=fun z0=>by
          rw [z0] at eb
          rw [eb] at w3
          exact cy (by rw [w3.last]; exact hwz)
        have eb' : b ++ [v] = (b1 ++ [w]) ++ b2:=by rw [eb]; simp
        have w3':=w3
        rw [eb'] at w3'
        obtain ⟨t,t1,t2⟩:=w3'.split
        have et:=t1.last
        have hl2 : b1.length + 1 + b2.length = b.length + 1:=by have:=congrArg List.length eb'; simp at this; omega
        have hb2l : 0 < b2.length:=List.length_pos_iff.mpr hb2
        obtain ⟨s',z',h1,h2,h3,h4⟩:=dR hin hZ m (s:=a ++ (b1 ++ [w])) (by simp; omega) x0 x1 (w1.app t1) (by rw [et]; exact hwz)
        refine ⟨s',z',h1,h2,Int.le_trans h3 ?_,h4⟩
        refine ee ?_ a
        rw [eb',List.append_assoc]
        have:=ee (x:=[]) (y:=b2 ++ c) (mO _) (b1 ++ [w])
        rwa [List.append_nil] at this
    · obtain ⟨s',z',h1,h2,h3,h4⟩:=dR hin hZ m (s:=a ++ c) (by simp; omega) x0 x1 (w1.app w4) hz
      refine ⟨s',z',h1,h2,Int.le_trans h3 (ee ?_ a),h4⟩
      have:=pq c (b ++ [v])
      omega
structure Swp (W : Lf) (p : Int) (T T' : Tb) : Prop where
  other : ∀ q,q ≠ p→T' q = T q
  le : leO (T' p) (T p)
  by_ : ∀ w ∈ bi W p,leO (T' p) (ax T w)
  from_ : T' p = T p ∨ ∃ w ∈ bi W p,T' p = ax T w
theorem Swp.down {W : Lf} {p : Int} {T T' : Tb} (h : Swp W p T T') (q : Int) : leO (T' q) (T q):=by
  by_cases e : q = p
  · rw [e]; exact h.le
  · rw [h.other q e]; exact leO.refl _
structure Tk (W : Lf) (Z : Int→Prop) (T : Tb) : Prop where
  pos : ∀ x v,T x = some v→0 ≤ v
  zero : ∀ x,Z x→T x = some 0
  real : ∀ x v,T x = some v→∃ s z,Wk W x s z∧Z z∧cst s ≤ v
  way : ∀ x v,T x = some v→Z x ∨ ∃ w ∈ bi W x,leO (ax T w) (some v)
theorem fm {T : Tb} {w : Wy} {v : Int} (h : ax T w = some v) : 0 ≤ v∧∃ u,T w.1 = some u∧u - w.2 ≤ v:=by
  unfold ax at h
  cases e : T w.1 with
  | none=>rw [e] at h; cases h
  | some u =>
    rw [e] at h
    have h : max (u - w.2) 0 = v:=Option.some.inj h
    exact ⟨by omega,u,rfl,by omega⟩
theorem Tk.swp {W : Lf} {Z : Int→Prop} {p : Int} {T T' : Tb} (k : Tk W Z T) (h : Swp W p T T') : Tk W Z T':=by
  have key : ∀ x v,T' x = some v→T x = some v ∨ x = p∧∃ w ∈ bi W p,ax T w = some v:=fun x v hv=>by
    by_cases e : x = p
    · subst e
      rcases h.from_ with f | ⟨w,hw,f⟩
      · exact .inl (by rw [← f]; exact hv)
      · exact .inr ⟨rfl,w,hw,by rw [← f]; exact hv⟩
    · exact .inl (by rw [← h.other x e]; exact hv)
  refine ⟨fun x v hv=>?_,fun x hx=>?_,fun x v hv=>?_,fun x v hv=>?_⟩
  · rcases key x v hv with f | ⟨_,w,_,f⟩
    · exact k.pos x v f
    · exact (fm f).1
  · have h1:=k.zero x hx
    have h2:=h.down x
    rw [h1] at h2
    cases e : T' x with
    | none=>rw [e] at h2; exact h2.elim
    | some v =>
      rw [e] at h2
      have h2 : v ≤ 0:=h2
      have : 0 ≤ v:=by
        rcases key x v e with f | ⟨_,w,_,f⟩
        · exact k.pos x v f
        · exact (fm f).1
      rw [show v = 0 by omega]
  · rcases key x v hv with f | ⟨rfl,w,hw,f⟩
    · exact k.real x v f
    · obtain ⟨v0,u,hu,hle⟩:=fm f
      obtain ⟨s,z,h1,h2,h3⟩:=k.real _ u hu
      refine ⟨w :: s,z,⟨hw,h1⟩,h2,?_⟩
      show max (cst s - w.2) 0 ≤ v
      omega
  · rcases key x v hv with f | ⟨rfl,w,hw,f⟩
    · rcases k.way x v f with g | ⟨w,hw,g⟩
      · exact .inl g
      · exact .inr ⟨w,hw,(fP (h.down _)).trans g⟩
    · exact .inr ⟨w,hw,(fP (h.down _)).trans (by rw [f]; exact leO.refl _)⟩
def Rnd (W : Lf) (Z : Int→Prop) (n k : Nat) (T : Tb) : Prop:=∀ x s z,0 ≤ x→x < (n : Int)→Wk W x s z→Z z→s.length ≤ k→leO (T x) (some (cst s))
def Mid (W : Lf) (Z : Int→Prop) (n k : Nat) (i : Nat) (T : Tb) : Prop:=Rnd W Z n k T∧∀ x s z,0 ≤ x→x < (i : Int)→Wk W x s z→Z z→s.length ≤ k + 1→leO (T x) (some (cst s))
theorem Rnd.start {W : Lf} {Z : Int→Prop} {n : Nat} {T : Tb} (h : ∀ x,Z x→T x = some 0) : Rnd W Z n 0 T:=fun x s z _ _ hw hz hl=>by
  have e:=List.eq_nil_of_length_eq_zero (Nat.le_zero.mp hl)
  subst e
  cases hw
  rw [h x hz]; exact leO.refl _
theorem Rnd.mid {W : Lf} {Z : Int→Prop} {n k : Nat} {T : Tb} (h : Rnd W Z n k T) : Mid W Z n k 0 T:=⟨h,fun x s z h0 h1=>absurd h1 (by omega)⟩
theorem Mid.swp {W : Lf} {Z : Int→Prop} {n k i : Nat} {T T' : Tb} (hin : InW W n) (k0 : Tk W Z T') (h : Mid W Z n k i T) (s : Swp W (i : Int) T T') : Mid W Z n k (i + 1) T':=by
  refine ⟨fun x t z x0 x1 hw hz hl=>(s.down x).trans (h.1 x t z x0 x1 hw hz hl),fun x t z h0 h1 hw hz hl=>?_⟩
  by_cases e : x = (i : Int)
  · subst e
    cases t with
    | nil =>
      cases hw
      rw [k0.zero _ hz]; exact leO.refl _
    | cons w t =>
      refine (s.by_ w hw.1).trans ?_
      have hi:=hin _ w hw.1
      have:=h.1 w.1 t z hi.1 hi.2 hw.2 hz (by simp at hl; omega)
      unfold ax
      cases e : T w.1 with
      | none=>rw [e] at this; exact this.elim
      | some u =>
        rw [e] at this
        have this : u ≤ cst t:=this
        show max (u - w.2) 0 ≤ max (cst t - w.2) 0
        omega
  · exact (s.down x).trans (h.2 x t z h0 (by omega) hw hz hl)
theorem Mid.done {W : Lf} {Z : Int→Prop} {n k : Nat} {T : Tb} (h : Mid W Z n k n T) : Rnd W Z n (k + 1) T:=fun x s z x0 x1 hw hz hl=>h.2 x s z x0 x1 hw hz hl
structure Nds (W : Lf) (n : Nat) (T : Tb) : Prop where
  pos : ∀ x v,T x = some v→0 ≤ v
  low : ∀ x,0 ≤ x→x < (n : Int)→∀ w ∈ bi W x,leO (T x) (ax T w)
  way : ∀ x v,0 ≤ x→x < (n : Int)→T x = some v→∃ w ∈ bi W x,leO (ax T w) (some v)
  ring : ∀ x s,s ≠ []→Wk W x s x→0 ≤ sm s→∃ w ∈ s,T w.1 = some 0
theorem jm {W : Lf} {n : Nat} {T : Tb} (hin : InW W n) (hpos : ∀ x v,T x = some v→0 ≤ v) (hlow : ∀ x,0 ≤ x→x < (n : Int)→∀ w ∈ bi W x,leO (T x) (ax T w)) {z : Int} (hz : T z = some 0) : ∀ {x : Int} {s : List Wy} {g : Int},0 ≤ x→x < (n : Int)→Wk W x s z→OkS g s→leO (T x) (some g)
  | x,[],g,x0,x1,hw,ho=>by
    cases hw
    rw [hz]
    have:=ho 0 (Nat.zero_le _)
    rw [List.take_zero,b8] at this
    show (0 : Int) ≤ g
    omega
  | x,w :: s,g,x0,x1,hw,ho=>by
    have hi:=hin x w hw.1
    have ho' : OkS (g + w.2) s:=fun i hi=>by
      have:=ho (i + 1) (by simp; omega)
      rw [List.take_succ_cons,bF] at this
      omega
    have ih:=jm hin hpos hlow hz hi.1 hi.2 hw.2 ho'
    refine (hlow x x0 x1 w hw.1).trans ?_
    have g0 : 0 ≤ g:=by have:=ho 0 (Nat.zero_le _); rw [List.take_zero,b8] at this; omega
    unfold ax
    cases e : T w.1 with
    | none=>rw [e] at ih; exact ih.elim
    | some u =>
      rw [e] at ih
      have ih : u ≤ g + w.2:=ih
      show max (u - w.2) 0 ≤ g
      omega
theorem tO {W : Lf} {n : Nat} {Z : Int→Prop} {T : Tb} (hin : InW W n) (hZ : ∀ x s,s ≠ []→Wk W x s x→0 ≤ sm s→∃ w ∈ s,Z w.1) (hB : ∀ z,Z z→0 ≤ z∧z < (n : Int)∧∃ s,s ≠ []∧Wk W z s z∧OkS 0 s) (k : Tk W Z T) (r : Rnd W Z n n T) : Nds W n T:=by
  have low : ∀ x,0 ≤ x→x < (n : Int)→∀ w ∈ bi W x,leO (T x) (ax T w):=fun x x0 x1 w hw=>by
    cases e : ax T w with
    | none=>exact (by unfold leO; trivial)
    | some v =>
      obtain ⟨v0,u,hu,hle⟩:=fm e
      obtain ⟨s,z,h1,h2,h3⟩:=k.real _ u hu
      obtain ⟨s',z',g1,g2,g3,g4⟩:=dR hin hZ (s.length + 1) (s:=w :: s) (by simp) x0 x1 ⟨hw,h1⟩ h2
      have:=r x s' z' x0 x1 g1 g2 (by omega)
      refine this.trans ?_
      show cst s' ≤ v
      have : cst (w :: s) = max (cst s - w.2) 0:=rfl
      omega
  refine ⟨k.pos,low,fun x v x0 x1 hv=>?_,fun x s hs hw hm=>?_⟩
  · rcases k.way x v hv with hz | h
    · obtain ⟨_,_,s,hs,hw,ho⟩:=hB x hz
      have hv0:=k.zero x hz
      rw [hv] at hv0
      cases hv0
      cases s with
      | nil=>exact absurd rfl hs
      | cons w s =>
        have hi:=hin x w hw.1
        have ho' : OkS (0 + w.2) s:=fun i hi=>by
          have:=ho (i + 1) (by simp; omega)
          rw [List.take_succ_cons,bF] at this
          omega
        have:=jm hin k.pos low (k.zero x hz) hi.1 hi.2 hw.2 ho'
        refine ⟨w,hw.1,?_⟩
        unfold ax
        cases e : T w.1 with
        | none=>rw [e] at this; exact this.elim
        | some u =>
          rw [e] at this
          have this : u ≤ 0 + w.2:=this
          show max (u - w.2) 0 ≤ 0
          omega
    · exact h
  · obtain ⟨w,hw,hz⟩:=hZ x s hs hw hm
    exact ⟨w,hw,k.zero _ hz⟩
theorem OkS.snoc {g : Int} {s : List Wy} {w : Wy} (h : OkS g s) (hw : 0 ≤ g + (sm s + w.2)) : OkS g (s ++ [w]):=fun i hi=>by
  rcases Nat.lt_or_ge s.length i with c | c
  · rw [List.take_of_length_le (by simp; omega),du,bF,b8]; omega
  · rw [List.take_append_of_le_length c]; exact h i c
def GoodG (W : Lf) (z : Int) (G : Tb) : Prop:=∀ p g,G p = some g→∃ s,Wk W z s p∧OkS 0 s∧sm s = g
theorem p7 {W : Lf} {p : Int} {w : Wy} (h : w ∈ bi W p) : Wk W p [w] w.1:=⟨h,rfl⟩
theorem GoodG.step {W : Lf} {z p g : Int} {w : Wy} {G : Tb} (h : GoodG W z G) (hg : G p = some g) (hw : w ∈ bi W p) (h0 : 0 ≤ g + w.2) : GoodG W z (fun q=>if q = w.1 then some (g + w.2) else G q):=fun q g' e=>by
  have e : (if q = w.1 then some (g + w.2) else G q) = some g':=e
  by_cases c : q = w.1
  · rw [if_pos c] at e
    cases e
    obtain ⟨s,h1,h2,h3⟩:=h p g hg
    exact ⟨s ++ [w],by rw [c]; exact h1.app (p7 hw),h2.snoc (by omega),by rw [du,bF,b8]; omega⟩
  · rw [if_neg c] at e
    exact h q g' e
theorem GoodG.start {W : Lf} {z : Int} {G : Tb} (h : ∀ p g,G p = some g→p = z∧g = 0) : GoodG W z G:=fun p g e=>by
  obtain ⟨rfl,rfl⟩:=h p g e
  exact ⟨[],rfl,fun i hi=>by rw [List.take_nil,b8]; decide,rfl⟩
def Rg (W : Lf) (z : Int) (r : List Wy) : Prop:=r ≠ []∧Wk W z r z∧OkS 0 r
theorem GoodG.back {W : Lf} {z p g : Int} {w : Wy} {G : Tb} (h : GoodG W z G) (hg : G p = some g) (hw : w ∈ bi W p) (ez : w.1 = z) (h0 : 0 ≤ g + w.2) : ∃ r,Rg W z r:=by
  obtain ⟨s,h1,h2,h3⟩:=h p g hg
  have:=h1.app (p7 hw)
  rw [ez] at this
  exact ⟨s ++ [w],by simp,this,h2.snoc (by omega)⟩
def geO (a : Option Int) (v : Int) : Prop:=∃ g,a = some g∧v ≤ g
def UpG (G G' : Tb) : Prop:=∀ p v,geO (G p) v→geO (G' p) v
theorem UpG.refl (G : Tb) : UpG G G:=fun _ _ h=>h
theorem UpG.trans {A B C : Tb} (h1 : UpG A B) (h2 : UpG B C) : UpG A C:=fun p v h=>h2 p v (h1 p v h)
theorem UpG.put {G : Tb} {q v : Int} (h : ∀ g,G q = some g→g ≤ v) : UpG G (fun p=>if p = q then some v else G p):=fun p u hu=>by
  by_cases c : p = q
  · obtain ⟨g,e,hg⟩:=hu
    rw [c] at e
    have:=h g e
    exact ⟨v,if_pos c,by omega⟩
  · obtain ⟨g,e,hg⟩:=hu
    exact ⟨g,(if_neg c).trans e,hg⟩
def plc (z : Int) (r : List Wy) (j : Nat) : Int:=if j = 0 then z else ((r[j - 1]?).map (·.1)).getD z
theorem fC {z : Int} {r : List Wy} {j : Nat} {w : Wy} (h : r[j]? = some w) : plc z r (j + 1) = w.1:=by
  unfold plc
  rw [if_neg (by omega),Nat.add_sub_cancel,h]; rfl
theorem tq {W : Lf} : ∀ {z y : Int} {r : List Wy} {j : Nat} {w : Wy},Wk W z r y→r[j]? = some w→w ∈ bi W (plc z r j)
  | _,_,[],_,_,_,h=>by cases h
  | z,y,u :: r,0,w,hk,h=>by cases h; exact hk.1
  | z,y,u :: r,j + 1,w,hk,h=>by
    have h : r[j]? = some w:=h
    have ih:=tq hk.2 h
    have e : plc z (u :: r) (j + 1) = plc u.1 r j:=by
      cases j with
      | zero=>rw [fC (w:=u) rfl]; rfl
      | succ j =>
        obtain ⟨w',hw'⟩ : ∃ w',r[j]? = some w':=⟨r[j]'(by have:=(List.getElem?_eq_some_iff.mp h).1; omega),by simp⟩
        rw [fC (w:=w') (by simpa using hw'),fC hw']
    rw [e]; exact ih
theorem m6 {r : List Wy} {j : Nat} {w : Wy} (h : r[j]? = some w) : sm (r.take (j + 1)) = sm (r.take j) + w.2:=by
  rw [List.take_add_one,h,du]
  show _ + sm [w] = _
  rw [bF,b8]; omega
def Cmp (W : Lf) (z : Int) (t : Nat) (G : Tb) : Prop:=∀ r,Rg W z r→t < r.length∧∀ j,j ≤ t→geO (G (plc z r j)) (sm (r.take j))
def CmpM (W : Lf) (z : Int) (t i : Nat) (G : Tb) : Prop:=Cmp W z t G∧∀ r,Rg W z r→0 ≤ plc z r t→plc z r t < (i : Int)→t + 1 < r.length∧geO (G (plc z r (t + 1))) (sm (r.take (t + 1)))
theorem Cmp.start {W : Lf} {z : Int} {G : Tb} (h : G z = some 0) : Cmp W z 0 G:=fun r hr=>⟨List.length_pos_iff.mpr hr.1,fun j hj=>by
  have : j = 0:=by omega
  subst this
  exact ⟨0,h,by rw [List.take_zero,b8]; decide⟩⟩
theorem Cmp.mid {W : Lf} {z : Int} {t : Nat} {G : Tb} (h : Cmp W z t G) : CmpM W z t 0 G:=⟨h,fun r _ h0 h1=>absurd h1 (by omega)⟩
theorem CmpM.up {W : Lf} {z : Int} {t i : Nat} {G G' : Tb} (h : CmpM W z t i G) (u : UpG G G') : CmpM W z t i G':=⟨fun r hr=>⟨(h.1 r hr).1,fun j hj=>u _ _ ((h.1 r hr).2 j hj)⟩,fun r hr h0 h1=>⟨(h.2 r hr h0 h1).1,u _ _ (h.2 r hr h0 h1).2⟩⟩
theorem CmpM.skip {W : Lf} {z : Int} {t i : Nat} {G : Tb} (h : CmpM W z t i G) (hn : G (i : Int) = none) : CmpM W z t (i + 1) G:=⟨h.1,fun r hr h0 h1=>by
  by_cases e : plc z r t = (i : Int)
  · obtain ⟨g,e1,_⟩:=(h.1 r hr).2 t (Nat.le_refl _)
    rw [e,hn] at e1; cases e1
  · exact h.2 r hr h0 (by omega)⟩
theorem CmpM.swp {W : Lf} {z : Int} {t i : Nat} {G G' : Tb} (h : CmpM W z t i G) (u : UpG G G') (hw : ∀ w ∈ bi W (i : Int),∀ g,G (i : Int) = some g→0 ≤ g + w.2→geO (G' w.1) (g + w.2)) (hb : ∀ w ∈ bi W (i : Int),w.1 = z→∀ g,G' (i : Int) = some g→¬ 0 ≤ g + w.2) : CmpM W z t (i + 1) G':=by
  have hu:=h.up u
  refine ⟨hu.1,fun r hr h0 h1=>?_⟩
  by_cases e : plc z r t = (i : Int)
  · obtain ⟨ht,hj⟩:=h.1 r hr
    obtain ⟨w,hwr⟩ : ∃ w,r[t]? = some w:=⟨r[t],by simp⟩
    have hwo:=tq hr.2.1 hwr
    rw [e] at hwo
    obtain ⟨g,e1,hg⟩:=hj t (Nat.le_refl _)
    rw [e] at e1
    have ok:=hr.2.2 (t + 1) (by omega)
    rw [m6 hwr] at ok
    have hlt : t + 1 < r.length:=by
      refine Nat.lt_of_not_le fun c=>?_
      have el : r.length = t + 1:=by omega
      obtain ⟨g',e2,hg'⟩:=u (i : Int) g ⟨g,e1,Int.le_refl _⟩
      have esp : r = r.take t ++ [w]:=by
        have:=(List.take_append_drop t r).symm
        rw [List.drop_eq_getElem_cons (by omega),List.drop_of_length_le (by omega)] at this
        have hw2 : r[t]'(by omega) = w:=by have:=List.getElem?_eq_some_iff.mp hwr; exact this.2
        rw [hw2] at this
        exact this
      have hk:=hr.2.1
      rw [esp] at hk
      have ez:=hk.last
      exact hb w hwo ez.symm g' e2 (by omega)
    refine ⟨hlt,?_⟩
    rw [fC hwr,m6 hwr]
    obtain ⟨g',e2,hg'⟩:=hw w hwo g e1 (by omega)
    exact ⟨g',e2,by omega⟩
  · exact hu.2 r hr h0 (by omega)
theorem CmpM.done {W : Lf} {z : Int} {n t : Nat} {G : Tb} (hin : InW W n) (hz : 0 ≤ z∧z < (n : Int)) (h : CmpM W z t n G) : Cmp W z (t + 1) G:=fun r hr=>by
  have hp : 0 ≤ plc z r t∧plc z r t < (n : Int):=by
    unfold plc
    by_cases c : t = 0
    · rw [if_pos c]; exact hz
    · rw [if_neg c]
      cases e : r[t - 1]? with
      | none=>exact hz
      | some w=>exact hr.2.1.inside hin w (List.mem_of_getElem? e)
  obtain ⟨h1,h2⟩:=h.2 r hr hp.1 hp.2
  exact ⟨h1,fun j hj=>by
    rcases Nat.lt_or_ge j (t + 1) with c | c
    · exact (h.1 r hr).2 j (by omega)
    · have : j = t + 1:=by omega
      rw [this]; exact h2⟩
theorem Cmp.none {W : Lf} {z : Int} {n : Nat} {G : Tb} (h : Cmp W z n G) {r : List Wy} (hr : Rg W z r) (hl : r.length ≤ n) : False:=by have:=(h r hr).1; omega
theorem lU {W : Lf} {n : Nat} {Z : Int→Prop} (hin : InW W n) (hc : ∀ z,0 ≤ z→z < (n : Int)→(∃ r,Rg W z r∧r.length ≤ n)→Z z) : ∀ x s,s ≠ []→Wk W x s x→0 ≤ sm s→∃ w ∈ s,Z w.1:=fun x s hs hw hm=>by
  obtain ⟨y,r,r1,r2,r3,r4,r5⟩:=jQ s.length (Nat.le_refl _) hs hw hm
  obtain ⟨z,a,b,e,ne,w2,ok⟩:=nI r1 r2 r3
  have hlen : (b ++ a).length ≤ n:=by
    have h1 : (r.map (·.1)).length ≤ n:=bZ r4 fun p hp=>by
      obtain ⟨w,h1,h2⟩:=List.mem_map.mp hp
      rw [← h2]; exact r2.inside hin w h1
    rw [List.length_map,e] at h1
    simp at h1 ⊢; omega
  obtain ⟨i,l,el⟩ : ∃ i l,b ++ a = i ++ [l]:=⟨(b ++ a).dropLast,(b ++ a).getLast ne,(List.dropLast_concat_getLast ne).symm⟩
  have ez : z = l.1:=by
    have:=w2
    rw [el] at this
    exact this.last
  have hlm : l ∈ b ++ a:=by rw [el]; simp
  have hin':=w2.inside hin l hlm
  refine ⟨l,r5 l (by rw [e]; simp at hlm ⊢; exact hlm.symm),?_⟩
  rw [← ez]
  exact hc z (by rw [ez]; exact hin'.1) (by rw [ez]; exact hin'.2) ⟨b ++ a,⟨ne,w2,ok⟩,hlen⟩
def WkR (R : Int→Wy→Prop) : Int→List Wy→Int→Prop
  | x,[],y=>x = y
  | x,w :: s,y=>R x w∧WkR R w.1 s y
section
variable {R : Int→Wy→Prop}
theorem WkR.split : ∀ {x z : Int} {a b : List Wy},WkR R x (a ++ b) z→∃ y,WkR R x a y∧WkR R y b z
  | x,_,[],_,h=>⟨x,rfl,h⟩
  | _,_,w :: a,b,h=>by
    obtain ⟨y,h1,h2⟩:=WkR.split (a:=a) (b:=b) h.2
    exact ⟨y,⟨h.1,h1⟩,h2⟩
theorem WkR.last {x y : Int} {a : List Wy} {w : Wy} (h : WkR R x (a ++ [w]) y) : y = w.1:=by
  obtain ⟨z,_,h2⟩:=h.split
  exact h2.2.symm
theorem WkR.wk {W : Lf} (hR : ∀ x w,R x w→w ∈ bi W x) : ∀ {x y : Int} {s : List Wy},WkR R x s y→Wk W x s y
  | _,_,[],h=>h
  | _,_,_ :: _,h=>⟨hR _ _ h.1,WkR.wk hR h.2⟩
theorem WkR.inside {n : Nat} (hR : ∀ x w,R x w→0 ≤ w.1∧w.1 < (n : Int)) : ∀ {x y : Int} {s : List Wy},WkR R x s y→∀ w ∈ s,0 ≤ w.1∧w.1 < (n : Int)
  | _,_,[],_,_,hw=>by cases hw
  | _,_,u :: s,h,w,hw=>by
    rcases List.mem_cons.mp hw with e | e
    · rw [e]; exact hR _ _ h.1
    · exact WkR.inside hR h.2 w e
theorem jW {n : Nat} {B : Int→Prop} (hB : ∀ x,B x→0 ≤ x∧x < (n : Int)) (go : ∀ x,B x→∃ w,R x w∧B w.1) (hR : ∀ x w,R x w→B w.1) {x : Int} (hx : B x) : ∃ y s,s ≠ []∧WkR R y s y∧B y:=by
  have long : ∀ (m : Nat) x,B x→∃ s y,s.length = m∧WkR R x s y:=fun m=>by
    induction m with
    | zero=>exact fun x _=>⟨[],x,rfl,rfl⟩
    | succ m ih =>
      intro x hx
      obtain ⟨w,h1,h2⟩:=go x hx
      obtain ⟨s,y,h3,h4⟩:=ih w.1 h2
      exact ⟨w :: s,y,by simp [h3],h1,h4⟩
  obtain ⟨s,z,hl,hw⟩:=long n x hx
  have nd : ¬ (((x,(0 : Int)) :: s).map (fun w : Wy=>w.1)).Nodup:=fun h=>by
    have:=bZ h fun y hy=>by
      obtain ⟨w,h1,h2⟩:=List.mem_map.mp hy
      rcases List.mem_cons.mp h1 with e | e
      · rw [← h2,e]; exact hB x hx
      · rw [← h2]; exact hw.inside (fun x w h=>hB _ (hR x w h)) w e
    simp at this; omega
  obtain ⟨a0,u,b,v,c,e,ev⟩:=cR (fun w : Wy=>w.1) nd
  have ev : u.1 = v.1:=ev
  obtain ⟨a,hsa,hwa⟩ : ∃ a,s = a ++ ((b ++ [v]) ++ c)∧∀ y,WkR R x a y→y = u.1:=by
    cases a0 with
    | nil =>
      simp only [List.nil_append,List.cons.injEq] at e
      refine ⟨[],by rw [e.2]; simp,fun y hy=>?_⟩
      have hy : x = y:=hy
      rw [← hy,← e.1]
    | cons t a1 =>
      simp only [List.cons_append,List.cons.injEq] at e
      exact ⟨a1 ++ [u],by rw [e.2]; simp,fun y hy=>hy.last⟩
  subst hsa
  obtain ⟨y,w1,w2⟩:=hw.split
  obtain ⟨y2,w3,w4⟩:=w2.split
  have e1:=hwa y w1
  have e2:=w3.last
  have e3 : y = y2:=by omega
  subst e3
  refine ⟨y,b ++ [v],by simp,w3,?_⟩
  obtain ⟨t,t1,t2⟩:=w3.split
  have : B v.1:=hR _ _ t2.1
  rw [e2]; exact this
theorem tY {f : Int→Int} (h : ∀ x w,R x w→f w.1 ≤ f x + w.2) : ∀ {x y : Int} {s : List Wy},WkR R x s y→f y ≤ f x + sm s
  | _,_,[],hw=>by cases hw; rw [b8]; omega
  | x,y,w :: s,hw=>by
    have h1:=h _ _ hw.1
    have h2:=tY h hw.2
    rw [bF]; omega
theorem fV {C : Int→Prop} (h : ∀ x w,R x w→C x→C w.1) : ∀ {x y : Int} {s : List Wy},WkR R x s y→C x→C y∧∀ w ∈ s,C w.1
  | _,_,[],hw,c=>by cases hw; exact ⟨c,fun _ z=>by cases z⟩
  | x,y,w :: s,hw,c=>by
    have c1:=h _ _ hw.1 c
    obtain ⟨h1,h2⟩:=fV h hw.2 c1
    exact ⟨h1,fun u hu=>by
      rcases List.mem_cons.mp hu with e | e
      · rw [e]; exact c1
      · exact h2 u e⟩
theorem WkR.and {R2 : Int→Wy→Prop} : ∀ {x y : Int} {s : List Wy},WkR R x s y→(∀ a w b,s = a ++ w :: b→∀ t,WkR R x a t→R t w→R2 t w)→WkR R2 x s y
  | _,_,[],h,_=>h
  | x,y,w :: s,h,g=>⟨g [] w s rfl x rfl h.1,WkR.and h.2 fun a u b e t ht hu=>g (w :: a) u b (by rw [e]; rfl) t ⟨h.1,ht⟩ hu⟩
end
theorem not_le {a b : Option Int} (h : ¬ leO a b) : leO b a:=(leO.total a b).resolve_left h
theorem eZ {W W' : Lf} {n : Nat} {T T' : Tb} (hin' : InW W' n) (N : Nds W n T) (N' : Nds W' n T') (h1 : ∀ x,0 ≤ x→x < (n : Int)→∀ w ∈ bi W' x,w ∈ bi W x ∨ ¬ leO (ax T w) (T x)) : ∀ x,0 ≤ x→x < (n : Int)→leO (T x) (T' x):=by
  refine fun x x0 x1=>Classical.byContradiction fun hx=>?_
  have low : ∀ x,0 ≤ x→x < (n : Int)→∀ w ∈ bi W' x,leO (T x) (ax T w):=fun x x0 x1 w hw=>by
    rcases h1 x x0 x1 w hw with h | h
    · exact N.low x x0 x1 w h
    · exact not_le h
  let B : Int→Prop:=fun y=>(0 ≤ y∧y < (n : Int))∧∃ u,T' y = some u∧¬ leO (T y) (some u)
  let R : Int→Wy→Prop:=fun y w=>B y∧B w.1∧w ∈ bi W' y∧(T' w.1).getD 0 ≤ (T' y).getD 0 + w.2
  have hxB : B x:=by
    refine ⟨⟨x0,x1⟩,?_⟩
    cases e : T' x with
    | none=>exact absurd (by rw [e]; unfold leO; trivial) hx
    | some u=>exact ⟨u,rfl,by rw [e] at hx; exact hx⟩
  have go : ∀ y,B y→∃ w,R y w∧B w.1:=fun y hy=>by
    obtain ⟨⟨y0,y1⟩,u,hu,hn⟩:=hy
    have u0:=N'.pos y u hu
    obtain ⟨w,hw,hle⟩:=N'.way y u y0 y1 hu
    have hi:=hin' y w hw
    have hu' : ∃ u',T' w.1 = some u'∧u' ≤ u + w.2:=by
      unfold ax at hle
      cases e : T' w.1 with
      | none=>rw [e] at hle; exact hle.elim
      | some u' =>
        rw [e] at hle
        have hle : max (u' - w.2) 0 ≤ u:=hle
        exact ⟨u',rfl,by omega⟩
    obtain ⟨u',e',hle'⟩:=hu'
    have hBw : B w.1:=⟨hi,u',e',fun z=>hn (by
      refine (low y y0 y1 w hw).trans ?_
      unfold ax
      cases e : T w.1 with
      | none=>rw [e] at z; exact z.elim
      | some t =>
        rw [e] at z
        have z : t ≤ u':=z
        show max (t - w.2) 0 ≤ u
        omega)⟩
    exact ⟨w,⟨⟨⟨y0,y1⟩,u,hu,hn⟩,hBw,hw,by rw [e',hu]; exact hle'⟩,hBw⟩
  obtain ⟨y,s,hs,hw,hyB⟩:=jW (R:=R) (B:=B) (n:=n) (fun x h=>h.1) go (fun x w h=>h.2.1) hxB
  have s0 : 0 ≤ sm s:=by
    have:=tY (R:=R) (f:=fun p=>(T' p).getD 0) (fun x w h=>h.2.2.2) hw
    omega
  have big : ∀ z,B z→∀ t,T z = some t→0 < t:=fun z hz t ht=>by
    obtain ⟨_,u,hu,hn⟩:=hz
    have:=N'.pos z u hu
    rw [ht] at hn
    have hn : ¬ t ≤ u:=hn
    omega
  have sp : ∀ x w,R x w→T x = none→T w.1 = none:=fun x w h e=>by
    have:=low x h.1.1.1 h.1.1.2 w h.2.2.1
    rw [e] at this
    unfold ax at this
    cases e2 : T w.1 with
    | none=>rfl
    | some t=>rw [e2] at this; exact this.elim
  have old : WkR (fun x w=>w ∈ bi W x) y s y:=by
    refine hw.and fun a w b e t ht hR=>?_
    rcases h1 t hR.1.1.1 hR.1.1.2 w hR.2.2.1 with h | h
    · exact h
    exfalso
    have hw2:=hw
    rw [e] at hw2
    obtain ⟨t',k1,k2⟩:=hw2.split
    have k3:=k2.2
    cases ey : T y with
    | none =>
      have:=(fV (C:=fun p=>T p = none) sp ht ey).1
      rw [this] at h
      exact h (by unfold leO; trivial)
    | some ty =>
      have some_at : ∀ p q l,WkR R p l q→WkR R q [] q→T q ≠ none→T p ≠ none:=fun p q l hl _ hq hp=>hq (fV (C:=fun p=>T p = none) sp hl hp).1
      have hy' : T y ≠ none:=by rw [ey]; exact fun z=>by cases z
      have hwn : T w.1 ≠ none:=some_at _ _ _ k3 rfl hy'
      have hR' : ∀ x u,R x u→T u.1 ≠ none→(T x).getD 0 + u.2 ≤ (T u.1).getD 0:=fun x u hr hu=>by
        have hl:=low x hr.1.1.1 hr.1.1.2 u hr.2.2.1
        unfold ax at hl
        cases e2 : T u.1 with
        | none=>exact absurd e2 hu
        | some t2 =>
          rw [e2] at hl
          cases e3 : T x with
          | none=>rw [e3] at hl; exact hl.elim
          | some t3 =>
            rw [e3] at hl
            have hl : t3 ≤ max (t2 - u.2) 0:=hl
            have:=big x hr.1 t3 e3
            show t3 + u.2 ≤ t2
            omega
      have tl : ∀ {p q : Int} {l : List Wy},WkR R p l q→T q ≠ none→(T p).getD 0 + sm l ≤ (T q).getD 0:=fun {p q l} hl hq=>by
        induction l generalizing p with
        | nil=>cases hl; rw [b8]; omega
        | cons u l ih =>
          have g1:=ih hl.2
          have g2:=hR' p u hl.1 (some_at _ _ _ hl.2 rfl hq)
          rw [bF]; omega
      have htn : T t ≠ none:=fun z=>hwn (sp t w hR z)
      have g1:=tl ht htn
      have g2:=tl k3 hy'
      have g3 : (T t).getD 0 + w.2 < (T w.1).getD 0:=by
        unfold ax at h
        cases e2 : T w.1 with
        | none=>exact absurd e2 hwn
        | some t2 =>
          rw [e2] at h
          cases e3 : T t with
          | none=>exact absurd e3 htn
          | some t3 =>
            rw [e3] at h
            have h : ¬ max (t2 - w.2) 0 ≤ t3:=h
            have:=big t hR.1 t3 e3
            show t3 + w.2 < t2
            omega
      have es : sm s = sm a + (w.2 + sm b):=by rw [e,du,bF]
      omega
  obtain ⟨w,hwm,hz⟩:=N.ring y s hs (WkR.wk (fun _ _ h=>h) old) s0
  have hBw : B w.1:=(fV (R:=R) (C:=B) (fun x w h _=>h.2.1) hw hyB).2 w hwm
  have:=big w.1 hBw 0 hz
  omega
theorem Nds.single {W : Lf} {n : Nat} {T : Tb} (N : Nds W n T) {x : Int} (x0 : 0 ≤ x) (x1 : x < (n : Int)) {w : Wy} (h : bi W x = [w]) : T x = ax T w:=by
  have l:=N.low x x0 x1 w (by rw [h]; exact List.mem_cons_self)
  cases e : T x with
  | none =>
    rw [e] at l
    cases e2 : ax T w with
    | none=>rfl
    | some v=>rw [e2] at l; exact l.elim
  | some v =>
    obtain ⟨w',hw,g⟩:=N.way x v x0 x1 e
    rw [h] at hw
    have : w' = w:=by simpa using hw
    rw [this] at g
    rw [e] at l
    exact leO.anti l g
theorem Nds.one {W : Lf} {n : Nat} {T T' : Tb} (hin : InW W n) (N : Nds W n T) (N' : Nds W n T') {x : Int} (x0 : 0 ≤ x) (x1 : x < (n : Int)) : T x = T' x :=
  leO.anti (eZ hin N N' (fun _ _ _ _ h=>.inl h) x x0 x1) (eZ hin N' N (fun _ _ _ _ h=>.inl h) x x0 x1)
theorem si {W W' : Lf} {n : Nat} {T T' : Tb} (hin' : InW W' n) (N' : Nds W' n T') (hb : ∀ x,0 ≤ x→x < (n : Int)→leO (T x) (T' x)) {x : Int} (x0 : 0 ≤ x) (x1 : x < (n : Int)) {w : Wy} (h : bi W' x = [w]) (hm : ¬ leO (ax T w) (T x)) : ¬ leO (T' x) (T x):=fun z=>by
  have hi:=hin' x w (by rw [h]; exact List.mem_cons_self)
  rw [N'.single x0 x1 h] at z
  exact hm ((fP (hb _ hi.1 hi.2)).trans z)
theorem js {T : Tb} {x p v : Int} {w : Wy} (h : leO (ax T w) (T x)) (e : T x = some v) (hp : v ≤ p) : ∃ v',T w.1 = some v'∧v' ≤ p + w.2:=by
  rw [e] at h
  unfold ax at h
  cases e2 : T w.1 with
  | none=>rw [e2] at h; exact h.elim
  | some v' =>
    rw [e2] at h
    have h : max (v' - w.2) 0 ≤ v:=h
    exact ⟨v',rfl,by omega⟩
theorem eM {T : Tb} {y : Int} {s : List Wy} (h : WkR (fun x w=>leO (ax T w) (T x)∧T x ≠ none) y s y) : 0 ≤ sm s:=by
  have:=tY (f:=fun p=>(T p).getD 0) (fun x w h=>by
    cases e : T x with
    | none=>exact absurd e h.2
    | some v =>
      obtain ⟨v',e',hv⟩:=js h.1 e (Int.le_refl v)
      show (T w.1).getD 0 ≤ v + w.2
      rw [e']; exact hv) h
  omega
theorem lJ {W : Lf} {n : Nat} {T : Tb} (N : Nds W n T) {y : Int} {s : List Wy} (hs : s ≠ []) (hw : Wk W y s y) (h : ∀ w ∈ s,T w.1 ≠ some 0) : sm s < 0:=Int.not_le.mp fun z=>by
  obtain ⟨w,hw,e⟩:=N.ring y s hs hw z
  exact h w hw e
theorem gX {α : Type} [DecidableEq α] : ∀ (l1 l2 : List α),l1.Nodup→(∀ x ∈ l1,x ∈ l2)→l1.length ≤ l2.length
  | [],_,_,_=>Nat.zero_le _
  | x :: l1,l2,hn,hs=>by
    have hx : x ∈ l2:=hs x List.mem_cons_self
    have hxn:=(List.nodup_cons.mp hn).1
    have:=gX l1 (l2.erase x) (List.nodup_cons.mp hn).2 fun y hy=>(List.mem_erase_of_ne (fun e=>by subst e; exact hxn hy)).mpr (hs y (List.mem_cons_of_mem _ hy))
    rw [List.length_erase_of_mem hx] at this
    have:=List.length_pos_of_mem hx
    simp; omega
def BtC (Wf : List (Option Int)→Lf) (n : Nat) (A : List (Option Int)) (L : List (List (Option Int))) (T : Tb) : Prop :=
  L.Nodup∧∀ r ∈ L,r.length = n∧(∀ a ∈ r,a ∈ A)∧InW (Wf r) n∧∃ T0,Nds (Wf r) n T0∧∀ x,0 ≤ x→x < (n : Int)→leO (T0 x) (T x)
theorem BtC.start {Wf : List (Option Int)→Lf} {n : Nat} {A : List (Option Int)} {r : List (Option Int)} {T : Tb} (hl : r.length = n) (ha : ∀ a ∈ r,a ∈ A) (hin : InW (Wf r) n) (N : Nds (Wf r) n T) : BtC Wf n A [r] T:=⟨by simp,fun q hq=>by
  rw [List.mem_singleton.mp hq]
  exact ⟨hl,ha,hin,T,N,fun x _ _=>leO.refl _⟩⟩
theorem BtC.next {Wf : List (Option Int)→Lf} {n : Nat} {A : List (Option Int)} {L : List (List (Option Int))} {r : List (Option Int)} {T T' : Tb} (h : BtC Wf n A L T) (hl : r.length = n) (ha : ∀ a ∈ r,a ∈ A) (hin : InW (Wf r) n) (N : Nds (Wf r) n T') (hb : ∀ x,0 ≤ x→x < (n : Int)→leO (T x) (T' x)) (hm : ∃ x,0 ≤ x∧x < (n : Int)∧¬ leO (T' x) (T x)) : BtC Wf n A (r :: L) T':=by
  refine ⟨List.nodup_cons.mpr ⟨fun hr=>?_,h.1⟩,fun q hq=>?_⟩
  · obtain ⟨_,_,hi,T0,N0,h0⟩:=h.2 r hr
    obtain ⟨x,x0,x1,hx⟩:=hm
    rw [Nds.one hi N N0 x0 x1] at hx
    exact hx (h0 x x0 x1)
  · rcases List.mem_cons.mp hq with e | e
    · rw [e]; exact ⟨hl,ha,hin,T',N,fun x _ _=>leO.refl _⟩
    · obtain ⟨g1,g2,g3,T0,g4,g5⟩:=h.2 q e
      exact ⟨g1,g2,g3,T0,g4,fun x x0 x1=>(g5 x x0 x1).trans (hb x x0 x1)⟩
abbrev aF:=Int × List Wy
def amP (ws : List Wy) (p : Int) : Int:=((ws.find? fun w=>w.1 == p).map (·.2)).getD 0
def aR (P : List aF) (r : List (Option Int)) : Lf:=List.zipWith (fun row way=>match way with | none=>row.2 | some p=>[(p,amP row.2 p)]) P r
def GPk (P : List aF) : Prop:=∀ row ∈ P,row.2 ≠ []∧(row.2.map (·.1)).Nodup∧∀ w ∈ row.2,0 ≤ w.1∧w.1 < (P.length : Int)
def RlP (P : List aF) (r : List (Option Int)) : Prop:=r.length = P.length∧∀ (i : Nat) row,P[i]? = some row→(row.1 ≠ 1→r[i]? = some none)∧(row.1 = 1→∃ w ∈ row.2,r[i]? = some (some w.1))
theorem gP : ∀ {ws : List Wy} {w : Wy},(ws.map (·.1)).Nodup→w ∈ ws→amP ws w.1 = w.2
  | u :: ws,w,nd,hw=>by
    rw [List.map_cons] at nd
    have nd:=List.nodup_cons.mp nd
    unfold amP
    by_cases c : u.1 = w.1
    · have : u = w:=by
        rcases List.mem_cons.mp hw with e | e
        · exact e.symm
        · exact absurd (List.mem_map.mpr ⟨w,e,c.symm⟩) nd.1
      rw [List.find?_cons,this]; simp
    · have hw' : w ∈ ws:=by
        rcases List.mem_cons.mp hw with e | e
        · exact absurd (by rw [e]) c
        · exact e
      rw [List.find?_cons]
      have : (u.1 == w.1) = false:=by simpa using c
      rw [this]
      exact gP nd.2 hw'
theorem kr {P : List aF} {r : List (Option Int)} (h : r.length = P.length) : (aR P r).length = P.length:=by unfold aR; rw [List.length_zipWith]; omega
theorem cS {P : List aF} {r : List (Option Int)} (h : RlP P r) {i : Nat} {row : aF} (hr : P[i]? = some row) (h1 : row.1 ≠ 1) : bi (aR P r) (i : Int) = row.2:=by
  have:=(h.2 i row hr).1 h1
  unfold bi aR
  rw [Int.toNat_natCast,List.getElem?_zipWith,hr,this]; rfl
theorem bL {P : List aF} {r : List (Option Int)} (g : GPk P) {i : Nat} {row : aF} {w : Wy} (hr : P[i]? = some row) (hw : w ∈ row.2) (e : r[i]? = some (some w.1)) : bi (aR P r) (i : Int) = [w]:=by
  unfold bi aR
  rw [Int.toNat_natCast,List.getElem?_zipWith,hr,e]
  show [(w.1,amP row.2 w.1)] = [w]
  rw [gP (g row (List.mem_of_getElem? hr)).2.1 hw]
theorem tQ {P : List aF} {x : Int} (x0 : 0 ≤ x) (x1 : x < (P.length : Int)) : ∃ (i : Nat) (row : aF),x = (i : Int)∧P[i]? = some row:=⟨x.toNat,P[x.toNat]'(by omega),by omega,by simp⟩
theorem fk {P : List aF} {r : List (Option Int)} (g : GPk P) (h : RlP P r) : InW (aR P r) P.length:=fun x w hw=>by
  rcases Nat.lt_or_ge x.toNat P.length with c | c
  · obtain ⟨row,hrow⟩ : ∃ row,P[x.toNat]? = some row:=⟨P[x.toNat],by simp⟩
    have ho : bi (aR P r) x = bi (aR P r) ((x.toNat : Nat) : Int):=by unfold bi; rw [Int.toNat_natCast]
    rw [ho] at hw
    by_cases c1 : row.1 = 1
    · obtain ⟨u,hu,e⟩:=(h.2 _ row hrow).2 c1
      rw [bL g hrow hu e] at hw
      rw [List.mem_singleton.mp hw]
      exact (g row (List.mem_of_getElem? hrow)).2.2 u hu
    · rw [cS h hrow c1] at hw
      exact (g row (List.mem_of_getElem? hrow)).2.2 w hw
  · unfold bi at hw
    rw [List.getElem?_eq_none (by rw [kr h.1]; exact c)] at hw
    cases hw
def Btr (P : List aF) (r : List (Option Int)) (T : Tb) (r' : List (Option Int)) : Prop:=r'.length = P.length∧∀ (i : Nat) row,P[i]? = some row→(row.1 ≠ 1→r'[i]? = some none)∧(row.1 = 1→∃ own most,own ∈ row.2∧most ∈ row.2∧r[i]? = some (some own.1)∧(∀ w ∈ row.2,leO (ax T w) (ax T most))∧(leO (ax T most) (ax T own)∧r'[i]? = some (some own.1) ∨ ¬ leO (ax T most) (ax T own)∧r'[i]? = some (some most.1)))
theorem Btr.rule {P : List aF} {r r' : List (Option Int)} {T : Tb} (b : Btr P r T r') : RlP P r':=⟨b.1,fun i row hr=>⟨(b.2 i row hr).1,fun h=>by
  obtain ⟨own,most,h1,h2,_,_,h5⟩:=(b.2 i row hr).2 h
  rcases h5 with h | h
  · exact ⟨own,h1,h.2⟩
  · exact ⟨most,h2,h.2⟩⟩⟩
theorem im {P : List aF} {r : List (Option Int)} {T : Tb} (g : GPk P) (N : Nds (aR P r) P.length T) {i : Nat} {row : aF} (hr : P[i]? = some row) {own : Wy} (ho : own ∈ row.2) (e : r[i]? = some (some own.1)) : T (i : Int) = ax T own:=by
  have:=(List.getElem?_eq_some_iff.mp hr).1
  exact N.single (by omega) (by omega) (bL g hr ho e)
theorem Btr.ways {P : List aF} {r r' : List (Option Int)} {T : Tb} (g : GPk P) (h : RlP P r) (N : Nds (aR P r) P.length T) (b : Btr P r T r') : ∀ x,0 ≤ x→x < (P.length : Int)→∀ w ∈ bi (aR P r') x,w ∈ bi (aR P r) x ∨ ¬ leO (ax T w) (T x):=fun x x0 x1 w hw=>by
  obtain ⟨i,row,rfl,hr⟩:=tQ x0 x1
  by_cases c : row.1 = 1
  · obtain ⟨own,most,h1,h2,h3,_,h5⟩:=(b.2 i row hr).2 c
    rcases h5 with ⟨_,e⟩ | ⟨hn,e⟩
    · rw [bL g hr h1 e] at hw
      exact .inl (by rw [bL g hr h1 h3]; exact hw)
    · rw [bL g hr h2 e] at hw
      rw [List.mem_singleton.mp hw,im g N hr h1 h3]
      exact .inr hn
  · rw [cS b.rule hr c] at hw
    exact .inl (by rw [cS h hr c]; exact hw)
theorem Btr.more {P : List aF} {r r' : List (Option Int)} {T T' : Tb} (g : GPk P) (h : RlP P r) (N : Nds (aR P r) P.length T) (b : Btr P r T r') (N' : Nds (aR P r') P.length T') (ne : r' ≠ r) : (∀ x,0 ≤ x→x < (P.length : Int)→leO (T x) (T' x))∧∃ x,0 ≤ x∧x < (P.length : Int)∧¬ leO (T' x) (T x):=by
  have hin':=fk g b.rule
  have low:=eZ hin' N N' (b.ways g h N)
  refine ⟨low,Classical.byContradiction fun hno=>ne ?_⟩
  refine List.ext_getElem? fun i=>?_
  cases hr : P[i]? with
  | none =>
    have hi : P.length ≤ i:=List.getElem?_eq_none_iff.mp hr
    rw [List.getElem?_eq_none (by rw [b.1]; exact hi),List.getElem?_eq_none (by rw [h.1]; exact hi)]
  | some row =>
    have hi:=(List.getElem?_eq_some_iff.mp hr).1
    by_cases c : row.1 = 1
    · obtain ⟨own,most,h1,h2,h3,_,h5⟩:=(b.2 i row hr).2 c
      rcases h5 with ⟨_,e⟩ | ⟨hn,e⟩
      · rw [e,h3]
      · exact absurd ⟨(i : Int),by omega,by omega,si (W:=aR P r) hin' N' low (by omega) (by omega) (bL g hr h2 e) (by rw [im g N hr h1 h3]; exact hn)⟩ hno
    · rw [(b.2 i row hr).1 c,(h.2 i row hr).1 c]
theorem Btr.last {P : List aF} {r : List (Option Int)} {T : Tb} (g : GPk P) (N : Nds (aR P r) P.length T) (b : Btr P r T r) {i : Nat} {row : aF} (hr : P[i]? = some row) (c : row.1 = 1) {w : Wy} (hw : w ∈ row.2) : leO (ax T w) (T (i : Int)):=by
  obtain ⟨own,most,h1,h2,h3,h4,h5⟩:=(b.2 i row hr).2 c
  rw [im g N hr h1 h3]
  rcases h5 with ⟨h,_⟩ | ⟨hn,e⟩
  · exact (h4 w hw).trans h
  · rw [h3] at e
    have e1 : own.1 = most.1:=by simpa using e
    have : ax T most = ax T own:=by
      have a1:=gP (g row (List.mem_of_getElem? hr)).2.1 h1
      have a2:=gP (g row (List.mem_of_getElem? hr)).2.1 h2
      rw [e1] at a1
      unfold ax
      rw [e1,← a1,← a2]
    exact absurd (by rw [this]; exact leO.refl _) hn
def twn (n : Nat) (w : Wy) : Wy:=(w.1,-((n : Nat) : Int) * w.2 - 1)
theorem jU (n : Nat) : ∀ s : List Wy,sm (s.map (twn n)) = -((n : Nat) : Int) * sm s - s.length
  | []=>by rw [List.map_nil,b8,Int.mul_zero]; simp
  | w :: s=>by
    have:=jU n s
    rw [List.map_cons,bF,bF,this,Int.mul_add]
    show -((n : Nat) : Int) * w.2 - 1 + _ = _
    rw [List.length_cons]
    push_cast
    omega
section
variable {R : Int→Wy→Prop}
theorem WkR.tw {R2 : Int→Wy→Prop} {n : Nat} (h : ∀ x w,R x w→R2 x (twn n w)) : ∀ {x y : Int} {s : List Wy},WkR R x s y→WkR R2 x (s.map (twn n)) y
  | _,_,[],hw=>hw
  | _,_,_ :: _,hw=>⟨h _ _ hw.1,WkR.tw h hw.2⟩
theorem gh : ∀ (m : Nat) {y : Int} {s : List Wy},s.length ≤ m→s ≠ []→WkR R y s y→∃ z r,r ≠ []∧WkR R z r z∧(r.map (·.1)).Nodup
  | 0,_,s,hl,hn,_=>absurd (List.eq_nil_of_length_eq_zero (by omega)) hn
  | m + 1,y,s,hl,hn,hw=>by
    by_cases nd : (s.map (·.1)).Nodup
    · exact ⟨y,s,hn,hw,nd⟩
    obtain ⟨a,u,b,v,c,rfl,e⟩:=cR (fun w : Wy=>w.1) nd
    have e : u.1 = v.1:=e
    have e1 : a ++ u :: (b ++ v :: c) = (a ++ [u]) ++ ((b ++ [v]) ++ c):=by simp
    rw [e1] at hw
    obtain ⟨t,w1,w2⟩:=hw.split
    obtain ⟨t2,w3,w4⟩:=w2.split
    have ey:=w1.last
    have ez:=w3.last
    have hyz : t = t2:=by omega
    subst hyz
    exact gh m (by simp at hl ⊢; omega) (by simp) w3
end
theorem iW {T : Tb} {x : Int} {w : Wy} (h : leO (T x) (ax T w)) (e : T x = none) : T w.1 = none:=by
  rw [e] at h
  unfold ax at h
  cases e2 : T w.1 with
  | none=>rfl
  | some t=>rw [e2] at h; exact h.elim
theorem oU {W1 W2 : Lf} {n : Nat} {T1 T2 : Tb} (hin : InW W1 n) (N1 : Nds W1 n T1) (N2 : Nds W2 n T2) (com : ∀ x,0 ≤ x→x < (n : Int)→∃ w ∈ bi W1 x,twn n w ∈ bi W2 x) {x : Int} (x0 : 0 ≤ x) (x1 : x < (n : Int)) (e1 : T1 x = none) (e2 : T2 x = none) : False:=by
  let B : Int→Prop:=fun y=>(0 ≤ y∧y < (n : Int))∧T1 y = none∧T2 y = none
  let R : Int→Wy→Prop:=fun y w=>B w.1∧w ∈ bi W1 y∧twn n w ∈ bi W2 y
  have go : ∀ y,B y→∃ w,R y w∧B w.1:=fun y hy=>by
    obtain ⟨⟨y0,y1⟩,g1,g2⟩:=hy
    obtain ⟨w,h1,h2⟩:=com y y0 y1
    have hb : B w.1:=⟨hin y w h1,iW (N1.low y y0 y1 w h1) g1,iW (w:=twn n w) (N2.low y y0 y1 _ h2) g2⟩
    exact ⟨w,⟨hb,h1,h2⟩,hb⟩
  obtain ⟨y,s,hs,hw,_⟩:=jW (R:=R) (B:=B) (n:=n) (fun x h=>h.1) go (fun x w h=>h.1) (x:=x) ⟨⟨x0,x1⟩,e1,e2⟩
  obtain ⟨z,r,hr,hz,nd⟩:=gh s.length (Nat.le_refl _) hs hw
  have hB : ∀ w ∈ r,B w.1:=fun w hwm=>by
    obtain ⟨a,b,e⟩:=List.append_of_mem hwm
    rw [e] at hz
    obtain ⟨t,_,k2⟩:=hz.split
    exact k2.1.1
  have len : r.length ≤ n:=by
    have:=bZ nd fun p hp=>by
      obtain ⟨w,h1,h2⟩:=List.mem_map.mp hp
      rw [← h2]; exact (hB w h1).1
    rwa [List.length_map] at this
  have neg : sm r < 0:=lJ N1 hr (WkR.wk (fun _ _ h=>h.2.1) hz) fun w hwm z0=>by
    have:=(hB w hwm).2.1
    rw [this] at z0; cases z0
  have pos : 0 ≤ sm (r.map (twn n)):=by
    rw [jU]
    have h1 : (n : Int) * 1 ≤ (n : Int) * (-sm r):=Int.mul_le_mul_of_nonneg_left (by omega) (by omega)
    have h2 : -((n : Nat) : Int) * sm r = (n : Int) * (-sm r):=by rw [Int.neg_mul,Int.mul_neg]
    rw [h2]; omega
  have hw2 : Wk W2 z (r.map (twn n)) z:=WkR.wk (R:=fun x w=>w ∈ bi W2 x) (fun _ _ h=>h) (WkR.tw (fun _ _ h=>h.2.2) hz)
  obtain ⟨w',hw',e⟩:=N2.ring z _ (by simpa using hr) hw2 pos
  obtain ⟨w,h1,h2⟩:=List.mem_map.mp hw'
  have:=(hB w h1).2.2
  rw [← h2] at e
  have e : T2 w.1 = some 0:=e
  rw [this] at e; cases e
theorem om {n : Nat} {T1 T2 : Tb} (com : ∀ x,0 ≤ x→x < (n : Int)→T1 x ≠ none→T2 x ≠ none→∃ w : Wy,(0 ≤ w.1∧w.1 < (n : Int))∧leO (ax T1 w) (T1 x)∧leO (ax T2 (twn n w)) (T2 x)) {x : Int} (x0 : 0 ≤ x) (x1 : x < (n : Int)) (e1 : T1 x ≠ none) (e2 : T2 x ≠ none) : False:=by
  let B : Int→Prop:=fun y=>(0 ≤ y∧y < (n : Int))∧T1 y ≠ none∧T2 y ≠ none
  let R : Int→Wy→Prop:=fun y w=>B y∧B w.1∧leO (ax T1 w) (T1 y)∧leO (ax T2 (twn n w)) (T2 y)
  have nx : ∀ {T : Tb} {y : Int} {w : Wy},T y ≠ none→leO (ax T w) (T y)→T w.1 ≠ none:=fun {T y w} h1 h2 z=>by
    cases e : T y with
    | none=>exact h1 e
    | some v =>
      obtain ⟨v',e',_⟩:=js h2 e (Int.le_refl v)
      rw [z] at e'; cases e'
  have go : ∀ y,B y→∃ w,R y w∧B w.1:=fun y hy=>by
    obtain ⟨⟨y0,y1⟩,g1,g2⟩:=hy
    obtain ⟨w,h0,h1,h2⟩:=com y y0 y1 g1 g2
    have hb : B w.1:=⟨h0,nx g1 h1,nx (w:=twn n w) g2 h2⟩
    exact ⟨w,⟨⟨⟨y0,y1⟩,g1,g2⟩,hb,h1,h2⟩,hb⟩
  obtain ⟨y,s,hs,hw,_⟩:=jW (R:=R) (B:=B) (n:=n) (fun x h=>h.1) go (fun x w h=>h.2.1) (x:=x) ⟨⟨x0,x1⟩,e1,e2⟩
  have p1 : 0 ≤ sm s:=eM (T:=T1) (y:=y) (hw.and fun a w b _ t _ h=>⟨h.2.2.1,h.1.2.1⟩)
  have p2 : 0 ≤ sm (s.map (twn n)):=eM (T:=T2) (y:=y) (WkR.tw (R2:=fun x w=>leO (ax T2 w) (T2 x)∧T2 x ≠ none) (fun x w h=>⟨h.2.2.2,h.1.2.2⟩) hw)
  rw [jU] at p2
  have hl : 0 < s.length:=List.length_pos_iff.mpr hs
  have h1 : 0 ≤ (n : Int) * sm s:=Int.mul_nonneg (by omega) p1
  rw [Int.neg_mul] at p2
  omega
end L2
namespace Law
open PySem L2
section
variable {R : Int→Wy→Prop}
theorem kc {f : Int→Int} (hR : ∀ x w,R x w→w.2 = f x) : ∀ {x y : Int} {s : List Wy},WkR R x s y→sm s + f y = f x + d7 (s.map fun w=>f w.1)
  | _,_,[],hw=>by cases hw; rw [b8]; simp [d7]
  | x,y,w :: s,hw=>by
    have ih:=kc hR hw.2
    have e:=hR _ _ hw.1
    rw [bF,List.map_cons]
    simp only [d7]
    omega
theorem jo : ∀ (m : Nat) {q : Int} {s : List Wy},s.length ≤ m→s ≠ []→WkR R q s q→∃ r,r ≠ []∧WkR R q r q∧(r.map (·.1)).Nodup∧∀ w ∈ r,w ∈ s
  | 0,_,s,hl,hn,_=>absurd (List.eq_nil_of_length_eq_zero (by omega)) hn
  | m + 1,q,s,hl,hn,hw=>by
    by_cases nd : (s.map (·.1)).Nodup
    · exact ⟨s,hn,hw,nd,fun _ h=>h⟩
    obtain ⟨a,u,b,v,c,rfl,e⟩:=cR (fun w : Wy=>w.1) nd
    have e : u.1 = v.1:=e
    have e1 : a ++ u :: (b ++ v :: c) = (a ++ [u]) ++ ((b ++ [v]) ++ c):=by simp
    rw [e1] at hw
    obtain ⟨t,w1,w2⟩:=hw.split
    obtain ⟨t2,w3,w4⟩:=w2.split
    have ey:=w1.last
    have ez:=w3.last
    have hyz : t = t2:=by omega
    subst hyz
    have app : ∀ {x y z : Int} {a b : List Wy},WkR R x a y→WkR R y b z→WkR R x (a ++ b) z:=fun {x y z a b} h1 h2=>by
      induction a generalizing x with
      | nil=>cases h1; exact h2
      | cons w a ih=>exact ⟨h1.1,ih h1.2⟩
    obtain ⟨r,r1,r2,r3,r4⟩:=jo m (s:=(a ++ [u]) ++ c) (by simp at hl ⊢; omega) (by simp) (app w1 w4)
    refine ⟨r,r1,r2,r3,fun w hw=>?_⟩
    have:=r4 w hw
    simp at this ⊢
    rcases this with h | h | h <;> simp [h]
theorem ji {n : Nat} {rk : Int→Int} {q : Int} {s : List Wy} (hR : ∀ x w,R x w→w.2 = amt n (rk x)∧(0 ≤ w.1∧w.1 < (n : Int))) (hs : s ≠ []) (hw : WkR R q s q) (h0 : ∀ w ∈ s,0 ≤ rk w.1) (hm : ∀ w ∈ s,rk w.1 ≤ rk q) : ∃ r,r ≠ []∧WkR R q r q∧(rk q % 2 = 1→sm r < 0)∧(rk q % 2 ≠ 1→0 < sm r):=by
  obtain ⟨r,r1,r2,r3,r4⟩:=jo s.length (Nat.le_refl _) hs hw
  have len : r.length ≤ n:=by
    have:=bZ r3 fun p hp=>by
      obtain ⟨w,h1,h2⟩:=List.mem_map.mp hp
      rw [← h2]
      exact r2.inside (fun x w h=>(hR x w h).2) w h1
    rwa [List.length_map] at this
  have e:=kc (f:=fun x=>amt n (rk x)) (fun x w h=>(hR x w h).1) r2
  have e2 : sm r = d7 ((r.map fun w=>rk w.1).map (amt n)):=by
    have : (r.map fun w=>rk w.1).map (amt (n : Int)) = r.map fun w=>amt n (rk w.1):=by simp [List.map_map,Function.comp_def]
    rw [this]
    have e : sm r + amt n (rk q) = amt n (rk q) + d7 (r.map fun w=>amt n (rk w.1)):=e
    omega
  obtain ⟨i,l,el⟩ : ∃ i l,r = i ++ [l]:=⟨r.dropLast,r.getLast r1,(List.dropLast_concat_getLast r1).symm⟩
  have eq : q = l.1:=by have:=r2; rw [el] at this; exact this.last
  have hn1 : 1 ≤ n:=by have:=List.length_pos_iff.mpr r1; omega
  have:=o5 hn1 (rs:=r.map fun w=>rk w.1) (fun x hx=>by
    obtain ⟨w,h1,h2⟩:=List.mem_map.mp hx
    rw [← h2]; exact h0 w (r4 w h1)) (by rw [List.length_map]; exact len) (M:=rk q) (List.mem_map.mpr ⟨l,by rw [el]; simp,by rw [eq]⟩) (fun x hx=>by
    obtain ⟨w,h1,h2⟩:=List.mem_map.mp hx
    rw [← h2]; exact hm w (r4 w h1))
  exact ⟨r,r1,r2,by rw [e2]; exact this.1,by rw [e2]; exact this.2⟩
end
theorem kT {n : Nat} {rk : Int→Int} {T : Tb} {q : Int} {s : List Wy} (hs : s ≠ []) (hw : WkR (fun x w=>(w.2 = amt n (rk x)∧(0 ≤ w.1∧w.1 < (n : Int)))∧leO (ax T w) (T x)∧T x ≠ none) q s q) (h0 : ∀ w ∈ s,0 ≤ rk w.1) (hm : ∀ w ∈ s,rk w.1 ≤ rk q) : rk q % 2 ≠ 1:=fun z=>by
  obtain ⟨r,_,r2,r3,_⟩:=ji (fun x w h=>h.1) hs hw h0 hm
  have:=eM (T:=T) (y:=q) (r2.and fun a w b _ t _ h=>h.2)
  have:=r3 z
  omega
theorem lE {n : Nat} {rk : Int→Int} {T : Tb} {q : Int} {s : List Wy} (hs : s ≠ []) (hw : WkR (fun x w=>(w.2 = amt n (rk x)∧(0 ≤ w.1∧w.1 < (n : Int)))∧leO (ax T (twn n w)) (T x)∧T x ≠ none) q s q) (h0 : ∀ w ∈ s,0 ≤ rk w.1) (hm : ∀ w ∈ s,rk w.1 ≤ rk q) : rk q % 2 = 1:=Classical.byContradiction fun z=>by
  obtain ⟨r,r1,r2,_,r4⟩:=ji (fun x w h=>h.1) hs hw h0 hm
  have p:=eM (T:=T) (y:=q) (WkR.tw (R2:=fun x w=>leO (ax T w) (T x)∧T x ≠ none) (fun x w h=>h.2) r2)
  rw [jU] at p
  have h1:=r4 z
  have hl : 0 < r.length:=List.length_pos_iff.mpr r1
  have h2 : 0 ≤ (n : Int) * sm r:=Int.mul_nonneg (by omega) (by omega)
  rw [Int.neg_mul] at p
  omega
end Law
namespace L2
open PySem PySem.Spec PyProof.Rows
abbrev l6 (qual : Str) (scope : Scope) (cl : List (Str × Addr)) (L a : Addr) (cd : Value) : Env :=
  { scope:=scope,locals:=L,globals:=mainGlobals,cells:=cl,qual:=qual ++ ".<locals>.",func:=some a,code:=cd,frame:=some L,builtins:=builtinsNs }
abbrev j8 (P : Program) (w : World) (K : PySem.W.Frag) (mg : Str→Option Value) (base : Heap) (N : List Str) (qual : Str) (scope : Scope) (cl : List (Str × Addr)) (q : Addr) (cd : Value) (A : Around) (outer : List Env) (s : Shared) (H : Hp) : Cx where
  prog:=P
  w:=w
  K:=K
  mg:=mg
  base:=base
  A:=A.deeper (l6 qual scope cl s.heap.objs.size q cd)
  N:=N
  s₀:=s
  H₀:=H
  env:=l6 qual scope cl s.heap.objs.size q cd
  outer:=outer
  stack:=l6 qual scope cl s.heap.objs.size q cd :: outer
  ex:=[]
  calm:=true
  fn:=fun _=>false
  pn:=[]
  xe:=fun _ _=>False
structure LamCl (scope : Scope) (cl : List (Str × Addr)) (x : Str) (N : List Str) (vs : List V) (s : Shared) (H : Hp) : Prop where
  kind : scope.kind = .function
  co : scope.isCoroutine = false
  gen : scope.isGenerator = false
  nocell : ∀ y ∈ scope.names,y.2 ≠ .cell
  hx : scope.names.lookup x = some .local
  inj : ∀ x y c,cl.lookup x = some c→cl.lookup y = some c→x = y
  has : ∀ y,scope.names.lookup y = some .free→∃ c,cl.lookup y = some c
  cell : ∀ y c,cl.lookup y = some c→H c = none∧∃ v,s.heap.IsCell c v
  N : ∃ ys,N = x :: ys∧ys.length = vs.length∧x ∉ ys∧∀ (i : Nat) y v,ys[i]? = some y→vs[i]? = some v→scope.names.lookup y = some .free∧∃ c u,cl.lookup y = some c∧s.heap.IsCell c (some u)∧RelV v u
theorem rd {P : Program} {w : World} {K : PySem.W.Frag} {mg : Str→Option Value} {base : Heap} {k : Nat} {q : Addr} {qual x : Str} {params : Arguments} {body : Expr} {scope : Scope} {cl : List (Str × Addr)} {pm cdv ctv : Value} {N : List Str} {vs : List V} {A : Around} {outer : List Env} {s : Shared} {H : Hp} {v : V} {u : Value} {Q : VK} {E : XK} {te : TE}
    (ho : s.heap.get? q = some { cls:=.type "function",data:=.func (PySem.W.kla_fn "<lambda>" qual params body scope cl pm cdv ctv) }) (hc : s.heap.CodeRec cdv qual)
    (hbind : bindArgs (PySem.W.kla_fn "<lambda>" qual params body scope cl pm cdv ctv) ⟨[u],[]⟩ = pure [(x,u)]) (C : LamCl scope cl x N vs s H) (hr : Room (k + 1) A) (e0 : Env0 P w K mg base A outer s H) (r : RelV v u)
    (hb : PE (j8 P w K mg base N qual scope cl q cdv A outer s H) body te) (hq : te (some v :: vs.map some) H Q) :
    codeAny (model P w) A (.call (.ref q) ⟨[u],[]⟩) (CR CX0 outer P w H s Q E) s:=by
  have lim : s.heap.NoLimit:=e0.mod.nolimit.keeps fun b o e=>(e0.bs b o e).1
  refine PySem.W.kla_callFunE hr.depth ho rfl C.co C.gen rfl hc ?_
  rw [hbind]
  refine wpAny_pure ?_
  refine wpAny_newFunctionEnv C.nocell (fun y hy=>by
    have : y = (x,u):=by simpa using hy
    rw [this]; exact C.hx) (fun h' ns sb=>?_) C.kind
  have keep : ∀ b o,s.heap.get? b = some o→h'.get? b = some o:=fun b o e=>by
    have hb:=Heap.lt_size e
    rw [sb.2 b (Nat.ne_of_lt hb)]
    exact Heap.get?_push_of_some _ e
  refine ⟨lim.keeps keep,PySem.W.kla_codeExpr ?_⟩
  have I : Inv (j8 P w K mg base N qual scope cl q cdv A outer s H) [] (some v :: vs.map some) H { s with heap:=h',toks:=s.toks + 1 }:=by
    obtain ⟨ys,eN,yl,xn,yv⟩:=C.N
    have ic : ∀ {c : Addr} {v : Option Value},s.heap.IsCell c v→h'.IsCell c v:=fun {c v} ⟨o,h1,h2⟩=>⟨o,keep _ _ h1,h2⟩
    refine ⟨⟨e0.mod,C.kind,rfl,rfl,Nat.le_refl _,C.inj,fun y hy=>?_,(fun y c h=>by cases h),fun _=>hr.hd,Around.frames_deeper e0.frames,.inr ⟨rfl,rfl⟩,(fun b z=>nomatch z),e0.bs,e0.bsz,(fun b _ _ z=>nomatch z),(fun b z=>nomatch z),e0.funs,e0.frf⟩,
      rfl,e0.bare,Un.kept keep,⟨_,ns,fun i y v' h1 h2 h3=>?_⟩,fun y c h=>?_,e0.hok.fresh (Nat.le_refl _),fun y c h=>(C.cell y c h).1,(fun p hp=>nomatch hp),e0.hok.kept keep,?_⟩
    · have hy : scope.names.lookup y = some .cell ∨ scope.names.lookup y = some .free:=hy
      rcases hy with hy | hy
      · exact absurd rfl (C.nocell _ (PySem.mem_of_lookup hy))
      · exact C.has y hy
    · subst eN
      cases i with
      | zero =>
        have e1 : x = y:=by injection h1
        have e2 : v = v':=by injection h2 with h2; injection h2
        subst e1 e2
        exact ⟨u,r,.inl ⟨C.hx,by show List.lookup x [(x,u)] = _; simp⟩⟩
      | succ i =>
        have h1 : ys[i]? = some y:=h1
        have h2 : (vs.map some)[i]? = some (some v'):=h2
        have h2 : vs[i]? = some v':=by
          rw [List.getElem?_map] at h2
          cases e : vs[i]? with
          | none=>rw [e] at h2; cases h2
          | some a=>rw [e] at h2; cases h2; rfl
        obtain ⟨hf,c,u',h3,h4,h5⟩:=yv i y v' h1 h2
        exact ⟨u',h5,.inr ⟨.inr hf,c,h3,ic h4⟩⟩
    · obtain ⟨_,v,hv⟩:=C.cell y c h
      exact ⟨v,ic hv⟩
    · subst eN
      show (vs.map some).length + 1 = ys.length + 1
      rw [List.length_map,yl]
  refine wpAny_mono (hb [] _ _ H _ I hq) (fun y s' hs=>?_) fun e s' hs=>hs.elim
  obtain ⟨yv,H',J,rv,qv⟩:=hs
  exact ⟨yv,H',J.os,J.bare,J.base,J.hok,rv,qv⟩
def TabOk (H : Hp) (P : Addr) (pos : Pos) (qual : Str) : Prop:=∃ ps : Array Value,H P = some (.tbl ps)∧TriplesOk ps.toList ∧
  (codeAmong pos ps.toList = none ∨ ∃ (c : Addr) (o : Obj) (vs : Array Value) (t : Tok),codeAmong pos ps.toList = some (.ref c)∧H c = some (.frz o (.own c))∧o.data = .fields vs∧vs[1]? = some (.str qual t))
def SameT (P : Addr) (H H' : Hp) : Prop:=∀ b o,b ≠ P→H b = some o→H' b = some o
theorem SameT.trans {P : Addr} {H H1 H2 : Hp} (a : SameT P H H1) (b : SameT P H1 H2) : SameT P H H2:=fun c o n h=>b c o n (a c o n h)
theorem SameT.of {P : Addr} {H H' : Hp} (s : Same H H') : SameT P H H':=fun b o _ h=>s b o h
theorem TabOk.up {H H' : Hp} {P : Addr} {pos : Pos} {qual : Str} (t : TabOk H P pos qual) (s : Same H H') : TabOk H' P pos qual:=by
  obtain ⟨ps,h1,h2,h3⟩:=t
  refine ⟨ps,s _ _ h1,h2,?_⟩
  rcases h3 with h | ⟨c,o,vs,t,h4,h5,h6⟩
  · exact .inl h
  · exact .inr ⟨c,o,vs,t,h4,s _ _ h5,h6⟩
abbrev exO (a : Addr) (o : Obj) : HO:=.frz o (.own a)
abbrev rL (qual : Str) (params : Arguments) (body : Expr) (scope : Scope) (cl : List (Str × Addr)) (pm cdv ctv : Value) : Obj:={ cls:=.type "function",data:=.func (PySem.W.kla_fn "<lambda>" qual params body scope cl pm cdv ctv) }
def gL (H : Hp) (q : Addr) (qual : Str) (params : Arguments) (body : Expr) (scope : Scope) (cl : List (Str × Addr)) : Prop:=∃ (pm ctv : Value) (c : Addr) (o : Obj) (vs : Array Value) (t : Tok),H q = some (exO q (rL qual params body scope cl pm (.ref c) ctv))∧H c = some (exO c o)∧o.data = .fields vs∧vs[1]? = some (.str qual t)
section
variable {X : Cx} {pins : List (Addr × Obj)} {σ : St} {H : Hp} {s : Shared}
theorem Inv.grown {P : Addr} {ps more : Array Value} {h' : Heap} {t' : Nat} {news : List (Addr × Obj)} (I : Inv X pins σ H s) (hP : H P = some (.tbl ps)) (k : ∀ b o,b ≠ P→s.heap.get? b = some o→h'.get? b = some o) (hp : h'.get? P = some (PySem.W.tabObj (ps ++ more))) (hn : ∀ p ∈ news,s.heap.objs.size ≤ p.1∧h'.get? p.1 = some p.2) :
    ∃ H',Inv X pins σ H' { s with heap:=h',toks:=t' }∧SameT P H H'∧H' P = some (.tbl (ps ++ more))∧∀ p ∈ news,H' p.1 = some (exO p.1 p.2):=by
  have oldP : P < s.heap.objs.size:=I.hok.lt hP
  have old : ∀ {b o},H b = some o→b < s.heap.objs.size:=fun e=>I.hok.lt e
  let H' : Hp:=fun b=>if b = P then some (.tbl (ps ++ more)) else if b < s.heap.objs.size then H b else ((news.find? fun p=>decide (p.1 = b)).map fun p=>exO p.1 p.2)
  have e1 : H' P = some (.tbl (ps ++ more)):=if_pos rfl
  have e2 : ∀ {b},b ≠ P→b < s.heap.objs.size→H' b = H b:=fun {b} n l=>by show (if b = P then _ else _) = _; rw [if_neg n,if_pos l]
  have e3 : ∀ {b o},¬ b < s.heap.objs.size→H' b = some o→∃ p ∈ news,p.1 = b∧o = exO p.1 p.2:=fun {b o} l e=>by
    have e : (if b = P then some (.tbl (ps ++ more)) else if b < s.heap.objs.size then H b else ((news.find? fun p=>decide (p.1 = b)).map fun p=>exO p.1 p.2)) = some o:=e
    rw [if_neg (fun z=>l (by rw [z]; exact oldP)),if_neg l] at e
    obtain ⟨p,hp,rfl⟩:=Option.map_eq_some_iff.mp e
    exact ⟨p,List.mem_of_find?_eq_some hp,by have:=List.find?_some hp; simpa using this,rfl⟩
  have sm : SameT P H H':=fun b o n e=>by rw [e2 n (old e)]; exact e
  have nP : ∀ {b o},H b = some o→(∀ q,o ≠ .tbl q)→b ≠ P:=fun {b o} e d z=>by rw [z,hP] at e; injection e with e; exact d _ e.symm
  refine ⟨H',I.un ⟨fun b o e n _ _=>?_,fun b o e n _ _=>?_,fun b o e n _=>?_,fun b o e _=>?_,fun b xs e=>?_,fun b o u e=>?_,fun b qs e=>?_⟩ (fun b o e=>?_),sm,e1,fun p hp'=>?_⟩
  · exact k b o (fun z=>by rw [z,hP] at n; cases n) e
  · exact ⟨o.slots,k b o (fun z=>by rw [z,hP] at n; cases n) e⟩
  · rw [e2 (fun z=>by rw [z,hP] at n; cases n) (Heap.lt_size e)]; exact n
  · by_cases hb : b = P
    · rw [hb]; exact ⟨_,hp⟩
    · exact ⟨o,k b o hb e⟩
  · exact sm _ _ (nP e fun q z=>by cases z) e
  · exact sm _ _ (nP e fun q z=>by cases z) e
  · by_cases hb : b = P
    · subst hb; rw [hP] at e; cases e; exact ⟨more,e1⟩
    · exact ⟨#[],by rw [sm _ _ hb e]; simp⟩
  · by_cases hb : b = P
    · subst hb; rw [e1] at e; cases e; exact hp
    by_cases hl : b < s.heap.objs.size
    · rw [e2 hb hl] at e
      refine (I.hok b o e).stay (fun c v hc r=>k c v ?_ r) (fun c r=>sm _ _ (nP r fun q z=>by cases z) r) fun c xs r=>sm _ _ (nP r fun q z=>by cases z) r
      rcases hc with rfl | hc
      · exact hb
      · exact nP hc fun q z=>by cases z
    · obtain ⟨p,hm,rfl,rfl⟩:=e3 hl e
      exact ⟨(hn p hm).2,_,(hn p hm).2⟩
  · have hl : ¬ p.1 < s.heap.objs.size:=Nat.not_lt.mpr (hn p hp').1
    show (if p.1 = P then _ else _) = _
    rw [if_neg (fun z=>hl (by rw [z]; exact oldP)),if_neg hl]
    cases e : news.find? fun q=>decide (q.1 = p.1) with
    | none=>exact absurd (decide_eq_true rfl) (List.find?_eq_none.mp e p hp')
    | some q =>
      have h1 : q.1 = p.1:=by have:=List.find?_some e; simpa using this
      have h2:=(hn q (List.mem_of_find?_eq_some e)).2
      rw [h1,(hn p hp').2] at h2
      injection h2 with h2
      show some (exO q.1 q.2) = _
      rw [h1,h2]
structure LamDef (X : Cx) (P : Addr) : Prop where
  code : ∃ c,X.env.code = .ref c∧∀ h : Heap,(∀ b o,X.base.get? b = some o→h.get? b = some o)→PySem.W.CodeHd h c P
  blt : ∀ h : Heap,(∀ b o,X.base.get? b = some o→h.get? b = some o)→h.BuiltinsAt X.mg P
  ne : mainGlobals ≠ P
theorem qU {P : Addr} {params : Arguments} {body : Expr} {scope : Scope} {pos : Pos} {Q : Value→Shared→Prop} {E : Value→Shared→Prop} (D : LamDef X P) (I : Inv X pins σ H s) (t : TabOk H P pos (X.env.qual ++ "<lambda>")) (hd : defaultsOf params X.env = ([],[]))
    (hf : ∀ y ∈ scope.names,y.2 = .free→∃ c,X.env.cells.lookup y.1 = some c)
    (h : ∀ (cl : List (Str × Addr)) (q : Addr) (H' : Hp) (s' : Shared),(∀ x c,cl.lookup x = some c→X.env.cells.lookup x = some c)→(∀ x,(x,NameKind.free) ∈ scope.names→∃ c,cl.lookup x = some c)→Inv X pins σ H' s'→SameT P H H'→TabOk H' P pos (X.env.qual ++ "<lambda>")→gL H' q (X.env.qual ++ "<lambda>") params body scope cl→Q (.ref q) s') :
    wpAny (model X.prog X.w) X.A (eval (.Lambda params body scope pos) X.env) Q E s:=by
  obtain ⟨cl,ecl,c1,c2⟩:=fu hf
  obtain ⟨c,hc,hcd⟩:=D.code
  obtain ⟨ps,hP,tr,alt⟩:=t
  have gl : s.heap.Ns mainGlobals X.mg:=by
    have:=I.ok.mod.glob
    exact this.keeps I.bk
  have hPo : s.heap.get? P = some (PySem.W.tabObj ps):=I.hok P _ hP
  refine PySem.W.kla_eval hd ?_
  rcases alt with none_ | ⟨cc,o,vs,tk,among,hcc,od,ov⟩
  · refine PySem.W.kla_makeFunction ecl I.ok.glob gl hc (hcd _ I.bk) hPo tr none_ D.ne (D.blt _ I.bk) fun c' ctv h' tk' ext ge lt rec tab=>?_
    obtain ⟨c0,oc,vs,t0,e0,g0,d0,v0⟩:=rec
    cases e0
    obtain ⟨H',I',sT,hP',hnew⟩:=I.grown (P:=P) (ps:=ps) (more:=#[rawInt pos.line,rawInt pos.col,Value.ref c']) (t':=tk') (news:=[(c',oc),(h'.objs.size,PySem.W.kla_obj "<lambda>" (X.env.qual ++ "<lambda>") params body scope cl ((X.mg "__name__").getD .none) c' ctv)])
      (h' := h'.push (PySem.W.kla_obj "<lambda>" (X.env.qual ++ "<lambda>") params body scope cl ((X.mg "__name__").getD .none) c' ctv)) hP (fun b o n e=>Heap.get?_push_of_some _ (ext b o n e)) (Heap.get?_push_of_some _ tab) (fun p hp=>by
        rcases List.mem_cons.mp hp with rfl | hp
        · exact ⟨ge,Heap.get?_push_of_some _ g0⟩
        · rw [List.mem_singleton.mp hp]
          exact ⟨Nat.le_of_lt (Nat.lt_of_le_of_lt ge lt),Heap.get?_push_size _ rfl⟩)
    have n1:=hnew (c',oc) List.mem_cons_self
    have n2:=hnew _ (List.mem_cons_of_mem _ (List.mem_singleton.mpr rfl))
    have el : (ps ++ #[rawInt (pos.line : Int),rawInt (pos.col : Int),Value.ref c']).toList = ps.toList ++ [rawInt (pos.line : Int),rawInt (pos.col : Int),Value.ref c']:=by simp
    exact h cl _ H' _ c1 c2 I' sT ⟨_,hP',by rw [el]; exact TriplesOk_snoc _ _ _ _ tr,.inr ⟨c',oc,vs,t0,by rw [el]; exact codeAmong_snoc _ tr none_,n1,d0,v0⟩⟩ ⟨_,_,c',oc,vs,t0,n2,n1,d0,v0⟩
  · refine PySem.W.kla_makeFunctionHit ecl I.ok.glob gl hc (hcd _ I.bk) hPo tr among (D.blt _ I.bk) fun ctv h' tk' ext ge=>?_
    have I':=I.laid (a:=h'.objs.size) (o:=exO h'.objs.size (rL (X.env.qual ++ "<lambda>") params body scope cl ((X.mg "__name__").getD .none) (.ref cc) ctv)) (h':=h'.push (rL (X.env.qual ++ "<lambda>") params body scope cl ((X.mg "__name__").getD .none) (.ref cc) ctv)) (t':=tk')
      (fun b u e=>Heap.get?_push_of_some _ (ext b u e)) ge ⟨Heap.get?_push_size _ rfl,_,Heap.get?_push_size _ rfl⟩
    have sm:=ag (H:=H) (I.hok.fresh ge) (exO h'.objs.size (rL (X.env.qual ++ "<lambda>") params body scope cl ((X.mg "__name__").getD .none) (.ref cc) ctv))
    exact h cl _ _ _ c1 c2 I' (SameT.of sm) ⟨ps,sm _ _ hP,tr,.inr ⟨cc,o,vs,tk,among,sm _ _ hcc,od,ov⟩⟩ ⟨_,_,cc,o,vs,tk,ae,sm _ _ hcc,od,ov⟩
end
end L2
namespace HT
open PySem PyProof.Rows
theorem pU (A : Around) (s : Shared) (a : Int) (t : Tok) (c : Int) (u : Tok) (prog : Program) (w : World) (E : Value→Shared→Prop) (Q : Value→Shared→Prop) (h : Q (.bool (decide (c < a))) s) :
    wpAny (model prog w) A (richCompare .Gt (.int a t) (.int c u)) Q E s :=
  (PyProof.Rows.gt_int h : wpAny (model prog w) A (compareOp .Gt (.int a t) (.int c u)) Q E s)
section
open PySem.SeqAt
open PySem.AutoSeq1 (wpAny_loadPart')
open PySem.MeetsSeq PySem.MeetsSeq2 PySem.MeetsSeq3
theorem iJ (l b : Addr) (items items2 : Array Value) (n n2 : Nat) (dd dd2 : Option Addr) (sl sl2 : Array (Option Value)) (ns ms : List Int) (hi : IntsAre items.toList ns) (hj : IntsAre items2.toList ms) :
    Meets (Builtin.«tuple.__gt__» ⟨[.ref l,.ref b],[]⟩)
      (fun _ R s=>s.heap.get? l = some { cls:=.type "tuple",dict:=dd,data:=.seq items n,slots:=sl }∧s.heap.get? b = some { cls:=.type "tuple",dict:=dd2,data:=.seq items2 n2,slots:=sl2 } ∧
        R (.ok (.ret (.bool (lexLt ms ns)))) s) :=
  .of_wp fun prog w A R s h=>by
    obtain ⟨hp,g,d,tk,os⟩:=s; obtain ⟨hl,hb,h⟩:=h
    have f2:=AutoSeq1.sub_tuple_tuple
    have z1 : items.size = ns.length:=by rw [← hi.length]; simp
    have z2 : items2.size = ms.length:=by rw [← hj.length]; simp
    wp_walk using wpAny_loadPart' hl,wpAny_loadPart' hb,wpAny_forIn_list _ (fun rest b s'=>b.1 = none∧s' = ⟨hp,g,d,tk,os⟩∧∃ (vs ws : List Value) (ns' ms' : List Int),rest = vs.zip ws ∧
      IntsAre vs ns'∧IntsAre ws ms'∧ns'.length + items2.size = ms'.length + items.size∧R (.ok (.ret (.bool (lexLt ms' ns')))) ⟨hp,g,d,tk,os⟩) _
    case turn =>
      rintro ⟨y,x⟩ rest b s' ⟨hb',rfl,vs,ws,ns',ms',hz,hvi,hwi,hlen,hR⟩
      cases hvi with
      | nil=>rw [List.zip_nil_left] at hz; cases hz
      | cons a t hvi' =>
        cases hwi with
        | nil=>rw [List.zip_nil_right] at hz; cases hz
        | cons c u hwi' =>
          rw [List.zip_cons_cons] at hz
          injection hz with hyx hrest
          injection hyx with hy hx
          subst hy hx
          rw [lexLt_cons] at hR
          simp only [List.length_cons] at hlen
          obtain ⟨e,he,hiff⟩:=kU A.in1 ⟨hp,g,d,tk,os⟩ a t c u
          refine wpAny_bind (he prog w _ _ ?_)
          cases e with
          | true =>
            rw [if_pos (hiff.mp rfl).symm] at hR
            wp_walk
            exact ⟨rfl,rfl,_,_,_,_,hrest,hvi',hwi',by omega,hR⟩
          | false =>
            rw [if_neg (fun q=>absurd (hiff.mpr q.symm) Bool.false_ne_true)] at hR
            have hri:=pU A.in1 ⟨hp,g,d,tk,os⟩ a t c u prog w
            wp_walk using hri
            exact ⟨_,rfl,by simpa using hR⟩
    case fin =>
      rintro ⟨b1,b2⟩ s' ⟨hb',rfl,vs,ws,ns',ms',hz,hvi,hwi,hlen,hR⟩
      simp only at hb'
      subst hb'
      have hv : lexLt ms' ns' = decide (items2.size < items.size):=by
        cases hvi with
        | nil =>
          cases hwi with
          | nil =>
            simp only [List.length_nil] at hlen
            rw [lexLt_nil_nil]
            exact (decide_eq_false (by omega)).symm
          | cons c u hw =>
            simp only [List.length_nil,List.length_cons] at hlen
            rw [ej]
            exact (decide_eq_false (by omega)).symm
        | cons a t hv =>
          cases hwi with
          | nil =>
            simp only [List.length_nil,List.length_cons] at hlen
            rw [eF]
            exact (decide_eq_true (by omega)).symm
          | cons c u hw =>
            rw [List.zip_cons_cons] at hz
            cases hz
      rw [hv] at hR
      wp_walk
      exact ⟨_,rfl,by simpa [Builtin.Tuple.tupleCompareSizes] using hR⟩
    case h =>
      exact ⟨rfl,rfl,items.toList,items2.toList,ns,ms,rfl,hi,hj,by omega,h⟩
end
section
variable {prog : Program} {w : World} {A : Around} {E : Value→Shared→Prop} {s : Shared}
theorem gt_tupInts {l b : Addr} {items items2 : Array Value} {ns ms : List Int} {Q : Value→Shared→Prop} (hl : IsTup s.heap l items) (hb : IsTup s.heap b items2) (hi : IntsAre items.toList ns) (hj : IntsAre items2.toList ms)
    (hu : A.units < cLine) (h : Q (.bool (lexLt ms ns)) s) : wpAny (model prog w) A (compareOp .Gt (.ref l) (.ref b)) Q E s:=by
  obtain ⟨⟨cls,dd,data,sl⟩,ho,hc,n,hd⟩:=id hl
  obtain ⟨⟨cls2,dd2,data2,sl2⟩,ho2,hc2,n2,hd2⟩:=id hb
  simp only at hc hd hc2 hd2
  subst hc hd hc2 hd2
  exact richCompare_meets_room (op:=.Gt) ⟨_,ho,rfl⟩ ⟨_,ho2,rfl⟩ PySem.F.slot_tuple_gt PySem.F.entry_tuple_gt (PySem.F.args_tuple_gt_2 _ _) (iJ l b items items2 n n2 dd dd2 sl sl2 ns ms hi hj)
    ⟨ho,ho2,show Value.bool (lexLt ms ns) ≠ Value.notImplemented∧Q (.bool (lexLt ms ns)) s from ⟨(fun x=>nomatch x),h⟩⟩ hu
end
end HT
namespace L2
open PySem PySem.Spec PyProof.Rows
section
variable {X : Cx}
def vN (K : PySem.W.Frag) : R2:=fun x y H Q=>∃ a b ns ms,x = .ref a∧y = .ref b∧SqT K H a (ns.map V.int)∧SqT K H b (ms.map V.int)∧Q (.bl (HT.lexLt ms ns)) H
theorem tZ {K : PySem.W.Frag} (hK : X.K = K) (hu : X.A.units < cLine) : OpR X (compareOp .Gt) (vN K):=by
  subst hK
  intro pins s σ H x y v u Q I rx ry h
  obtain ⟨a,b,ns,ms,rfl,rfl,ha,hb,q⟩:=h
  cases rx
  cases ry
  obtain ⟨its,r1,p1,_⟩:=I.tuple ha
  obtain ⟨its2,r2,p2,_⟩:=I.tuple hb
  have i1 : IntsAre its.toArray.toList ns:=bK r1
  have i2 : IntsAre its2.toArray.toList ms:=bK r2
  exact HT.gt_tupInts p1 p2 i1 i2 hu ⟨.bl (HT.lexLt ms ns),H,I,rfl,q⟩
end
def lt2 (p q : Int × Int) : Prop:=p.1 < q.1 ∨ p.1 = q.1∧p.2 < q.2
theorem qS (p q : Int × Int) : HT.lexLt [p.1,p.2] [q.1,q.2] = true ↔ lt2 p q:=by
  rw [HT.lexLt_cons]
  unfold lt2
  by_cases e : p.1 = q.1
  · rw [if_pos e,HT.lexLt_cons]
    by_cases f : p.2 = q.2
    · rw [if_pos f,HT.lexLt_nil_nil]
      exact ⟨(fun z=>by cases z),fun z=>by omega⟩
    · rw [if_neg f,decide_eq_true_eq]
      exact ⟨fun z=>.inr ⟨e,z⟩,fun z=>by omega⟩
  · rw [if_neg e,decide_eq_true_eq]
    exact ⟨fun z=>.inl z,fun z=>by omega⟩
theorem jz (A : Around) (args : Args) : A.under (.builtin "min.loop" args) = A.in1:=by
  cases A with
  | mk a b c d e =>
    have h1 : (Code.builtin "min.loop" args).weight = 0:=rfl
    have h2 : (Code.builtin "min.loop" args).cUnits = 1:=rfl
    have h3 : pushGuards (Code.builtin "min.loop" args).guards d = d:=by cases d <;> rfl
    simp [Around.under,Around.in1,Code.envs,Code.isFrame,pushEnvs,h1,h2,h3]
theorem ja (A : Around) (args : Args) : A.under (.builtin "max.loop" args) = A.in1:=by
  cases A with
  | mk a b c d e =>
    have h1 : (Code.builtin "max.loop" args).weight = 0:=rfl
    have h2 : (Code.builtin "max.loop" args).cUnits = 1:=rfl
    have h3 : pushGuards (Code.builtin "max.loop" args).guards d = d:=by cases d <;> rfl
    simp [Around.under,Around.in1,Code.envs,Code.isFrame,pushEnvs,h1,h2,h3]
def ngK (kf : Nat→Int × Int) : Nat→Int × Int:=fun i=>(-(kf i).1,-(kf i).2)
theorem ng_lt {kf : Nat→Int × Int} {i j : Nat} : lt2 (ngK kf j) (ngK kf i) ↔ lt2 (kf i) (kf j):=by
  unfold lt2 ngK
  show (-(kf j).1 < -(kf i).1 ∨ -(kf j).1 = -(kf i).1∧-(kf j).2 < -(kf i).2) ↔ _
  omega
theorem dk {M : Model} {A : Around} {E : Value→Shared→Prop} {s : Shared} {S : Addr} {o : Obj} {items : Array Value} {n : Nat} {Q : Option (Array Value)→Shared→Prop} (hS : s.heap.get? S = some o) (hd : o.data = .seq items n) (h : Q (some items) s) : wpAny M A (seqItems? (.ref S)) Q E s:=by
  unfold seqItems?
  refine wpAny_bind (wpAny_load hS ?_)
  rw [hd]
  exact wpAny_pure h
def BestN (kf : Nat→Int × Int) (n i : Nat) : Prop:=∀ j,j < n→¬ lt2 (kf j) (kf i)∧(j < i→lt2 (kf i) (kf j))
theorem BestN.keep {kf : Nat→Int × Int} {n i : Nat} (h : BestN kf n i) (hi : i < n) (hn : ¬ lt2 (kf n) (kf i)) : BestN kf (n + 1) i:=fun j hj=>by
  rcases Nat.lt_or_ge j n with c | c
  · exact h j c
  · have : j = n:=by omega
    subst this
    exact ⟨hn,fun z=>by omega⟩
theorem BestN.next {kf : Nat→Int × Int} {n i : Nat} (h : BestN kf n i) (hn : lt2 (kf n) (kf i)) : BestN kf (n + 1) n:=fun j hj=>by
  rcases Nat.lt_or_ge j n with c | c
  · have:=(h j c).1
    unfold lt2 at *
    exact ⟨by omega,fun _=>by omega⟩
  · have : j = n:=by omega
    subst this
    unfold lt2
    exact ⟨by omega,fun z=>by omega⟩
def dh (p : Int × Int) : List V:=[V.int p.1,V.int p.2]
section
variable {X : Cx} {pins : List (Addr × Obj)} {σ : St}
theorem FpOk.of {H H' : Hp} {b : Addr} (h : FpOk X pins H b) (hn : H' b = none) : FpOk X pins H' b:=⟨hn,h.2⟩
theorem pF (kf : Nat→Int × Int) {xs : List V} {l it S q : Addr} {H0 : Hp} {R : Result→Shared→Prop} (hcalm : X.A.handled = none) (hu : X.A.units + 2 < cLine) (hl : SqL X.K H0 l xs) (ne : xs ≠ []) (nIS : S ≠ it)
    (KEY : ∀ (i : Nat) (x : V) (u : Value) (H : Hp) (s : Shared) (pins' : List (Addr × Obj)),Inv X pins' σ H s→Same H0 H→xs[i]? = some x→RelV x u→wpAny (model X.prog X.w) X.A.in1 (call (.ref q) [u]) (EP X pins' σ fun y H'=>Same H H'∧∃ t,y = .ref t∧H' t = some (.tup (dh (kf i)))) (fun _ _=>False) s)
    (FIN : ∀ (i : Nat) (x : V) (u : Value) (H : Hp) (s : Shared),Inv X pins σ H s→Same H0 H→xs[i]? = some x→RelV x u→BestN kf xs.length i→R (.ok (.ret u)) s) :
    ∀ (r j : Nat) (H : Hp) (s : Shared),xs.length - j = r→j ≤ xs.length→Inv X pins σ H s→Same H0 H→s.heap.IsListIter it l j→FpOk X pins H it→FpOk X pins H S →
      ((j = 0∧∃ n,s.heap.get? S = some { cls:=.type "list",data:=.seq #[] n }) ∨ ∃ (i : Nat) (x : V) (ub : Value) (t : Addr) (n : Nat),s.heap.get? S = some { cls:=.type "list",data:=.seq #[ub,.ref t] n }∧xs[i]? = some x∧RelV x ub∧i < j∧H t = some (.tup (dh (kf i)))∧BestN kf j i) →
      codeAny (model X.prog X.w) X.A (.builtin "min.loop" ⟨[.ref it,.ref q,.ref S],[]⟩) R s:=by
  intro r
  induction r with
  | zero =>
    intro j H s hr hj I sm hit fI fS st
    have hje : j = xs.length:=by omega
    have hpos : 0 < xs.length:=List.length_pos_iff.mpr ne
    rcases st with ⟨h0,_⟩ | ⟨i,x,ub,t,n,hS,hx,hub,hij,ht,bst⟩
    · omega
    refine codeAny_builtin PySem.F.entry_min_loop ?_
    rw [jz]
    unfold Builtin.«min.loop»
    show wpAny _ _ (seqItems? (.ref S) >>= _) _ _ s
    refine wpAny_bind (dk hS rfl ?_)
    obtain ⟨its,rv,p,hz⟩:=I.list (sm.seq hl)
    have hl2:=rv.length
    refine wpAny_bind (wpAny_tryCatch (wpAny_pyNext_list_end hcalm hit p.isList (by simp; omega) fun h' eb=>?_))
    obtain ⟨f0,f1,f2,f3,f4,f5⟩:=fI
    have I1 : Inv X pins σ H { s with heap:=h' }:=I.turned (t':=s.toks) (fun b o hb e=>eb b o hb e) f0 f1 f3 f4 f5
    have hS1 : h'.get? S = some { cls:=.type "list",data:=.seq #[ub,.ref t] n }:=eb S _ nIS hS
    obtain ⟨g0,g1,g2,g3,g4,g5⟩:=fS
    show wpAny _ _ (updateSeq S (fun _=>#[]) >>= _) _ _ _
    refine wpAny_bind (wpAny_updateSeq (s:={ s with heap:=h' }) hS1 rfl ?_ (by show 2 ≤ sizeLine; decide) (by show 0 ≤ sizeLine + 1; decide))
    refine wpAny_bind (wpAny_letGo (wpAny_pure ?_))
    have I2:=I1.turned (t':=s.toks) (h':=h'.update S (Obj.mapSeq fun _=>#[])) (fun b o hb e=>((Heap.SameBut.update h' S (Obj.mapSeq fun _=>#[])).2 b hb).trans e) g0 g1 g3 g4 g5
    exact FIN i x ub H _ I2 sm hx hub (hje ▸ bst)
  | succ r ih =>
    intro j H s hr hj I sm hit fI fS st
    have hjl : j < xs.length:=by omega
    have hr1 : xs.length - (j + 1) = r:=by clear st; omega
    obtain ⟨its,rv,p,hz⟩:=I.list (sm.seq hl)
    have hl2:=rv.length
    obtain ⟨u,hu',ru⟩:=rv.get (List.getElem?_eq_getElem hjl)
    refine codeAny_builtin PySem.F.entry_min_loop ?_
    rw [jz]
    unfold Builtin.«min.loop»
    show wpAny _ _ (seqItems? (.ref S) >>= _) _ _ s
    obtain ⟨oS,items,n,hS,dS,hcase⟩ : ∃ (oS : Obj) (items : Array Value) (n : Nat),s.heap.get? S = some oS∧oS = { cls:=.type "list",data:=.seq items n }∧((j = 0∧items = #[]) ∨ ∃ (i : Nat) (x : V) (ub : Value) (t : Addr),items = #[ub,.ref t]∧xs[i]? = some x∧RelV x ub∧i < j∧H t = some (.tup (dh (kf i)))∧BestN kf j i):=by
      rcases st with ⟨h0,n,h⟩ | ⟨i,x,ub,t,n,hS,h⟩
      · exact ⟨_,_,_,h,rfl,.inl ⟨h0,rfl⟩⟩
      · exact ⟨_,_,_,hS,rfl,.inr ⟨i,x,ub,t,rfl,h⟩⟩
    refine wpAny_bind (dk hS (by rw [dS]) ?_)
    refine wpAny_bind (wpAny_tryCatch (wpAny_pyNext_list_item hit p.isList (x:=u) (by simpa using hu') fun h1 hit1 sb=>?_))
    obtain ⟨f0,f1,f2,f3,f4,f5⟩:=id fI
    obtain ⟨g0,g1,g2,g3,g4,g5⟩:=id fS
    have I1 : Inv X pins σ H { s with heap:=h1 }:=I.turned (t':=s.toks) (fun b o hb e=>(sb.2 b hb).trans e) f0 f1 f3 f4 f5
    have hS1 : h1.get? S = some oS:=(sb.2 S nIS).trans hS
    obtain ⟨oI,hI1,cI,dI⟩:=id hit1
    have I2 : Inv X (pins ++ [(it,oI),(S,oS)]) σ H { s with heap:=h1 }:=I1.pins_of fun p hp=>by
      rcases List.mem_append.mp hp with z | z
      · exact I1.pin p (List.mem_append_right _ z)
      · rcases List.mem_cons.mp z with rfl | z
        · exact ⟨hI1,f0,f1,f2,fun v=>by rw [dI]; exact fun z=>by cases z⟩
        · rw [List.mem_singleton.mp z]
          exact ⟨hS1,g0,g1,g2,fun v=>by rw [dS]; exact fun z=>by cases z⟩
    show wpAny _ _ (tryCatch (holding [u] (call (.ref q) [u])) _ >>= _) _ _ _
    refine wpAny_bind (wpAny_tryCatch (wpAny_holding (wpAny_mono (KEY j _ u H _ _ I2 sm (List.getElem?_eq_getElem hjl) ru) (fun kv s2 hm=>?_) fun _ _ z=>z.elim)))
    obtain ⟨y,H2,I3,ry,s12,t2,rfl,ht2⟩:=hm
    obtain rfl : kv = Value.ref t2:=ry
    have pI:=I3.pin (it,oI) (by simp)
    have pS:=I3.pin (S,oS) (by simp)
    have I4 : Inv X pins σ H2 s2:=I3.pins_of fun p hp=>I3.pin p (by
      rcases List.mem_append.mp (List.mem_append_right X.pn hp) with z | z
      · exact List.mem_append_left _ z
      · exact List.mem_append_right _ (List.mem_append_left _ z))
    have sm2:=sm.trans s12
    have hit2 : s2.heap.IsListIter it l (j + 1):=⟨oI,pI.1,cI,dI⟩
    have fI2 : FpOk X pins H2 it:=fI.of pI.2.1
    have fS2 : FpOk X pins H2 S:=fS.of pS.2.1
    have put : ∀ (a b : Value) (s2 : Shared) (n : Nat) (items : Array Value),Inv X pins σ H2 s2→s2.heap.get? S = some { cls:=.type "list",data:=.seq items n }→items.size ≤ 2→s2.heap.IsListIter it l (j + 1)→∃ h3 n3,(∀ {E : Value→Shared→Prop} {Q : Unit→Shared→Prop},Q () { s2 with heap:=h3 }→wpAny (model X.prog X.w) X.A.in1 (updateSeq S fun _=>#[a,b]) Q E s2)∧Inv X pins σ H2 { s2 with heap:=h3 }∧h3.get? S = some { cls:=.type "list",data:=.seq #[a,b] n3 }∧h3.IsListIter it l (j + 1):=fun a b s2 n items I4 hS2 hz2 hit2=>by
      have sb2:=Heap.SameBut.update s2.heap S (Obj.mapSeq fun _=>#[a,b])
      refine ⟨s2.heap.update S (Obj.mapSeq fun _=>#[a,b]),_,fun {E Q} h=>wpAny_updateSeq hS2 rfl h (Nat.le_trans hz2 (by decide)) (by show 2 ≤ sizeLine + 1; decide),I4.turned (t':=s2.toks) (fun b o hb e=>(sb2.2 b hb).trans e) fS2.1 fS2.2.1 fS2.2.2.2.1 fS2.2.2.2.2.1 fS2.2.2.2.2.2,Heap.get?_update_self _ hS2 rfl,?_⟩
      obtain ⟨o,e1,e2,e3⟩:=hit2
      exact ⟨o,(sb2.2 it (Ne.symm nIS)).trans e1,e2,e3⟩
    have hS2 : s2.heap.get? S = some { cls:=.type "list",data:=.seq items n }:=by rw [← dS]; exact pS.1
    rcases hcase with ⟨h0,rfl⟩ | ⟨i,x,ub,t,rfl,hx,hub,hij,ht,bst⟩
    · show wpAny _ _ (updateSeq S (fun _=>#[u,Value.ref t2]) >>= _) _ _ _
      obtain ⟨h3,n3,w3,I5,hS3,hit3⟩:=put u (.ref t2) s2 n #[] I4 hS2 (by decide) hit2
      refine wpAny_bind (w3 ?_)
      refine wpAny_pure ⟨rfl,ih (j + 1) H2 _ hr1 hjl I5 sm2 hit3 fI2 fS2 (.inr ⟨j,_,u,t2,n3,hS3,List.getElem?_eq_getElem hjl,ru,Nat.lt_succ_self j,ht2,fun j' hj'=>?_⟩)⟩
      have : j' = j:=by omega
      subst this
      unfold lt2
      exact ⟨by omega,fun z=>by omega⟩
    · have htb:=s12 _ _ ht
      obtain ⟨i1,r1,p1,_⟩:=I4.tuple (SqT.of ht2)
      obtain ⟨i2,r2,p2,_⟩:=I4.tuple (SqT.of htb)
      have a1 : IntsAre i1.toArray.toList [(kf j).1,(kf j).2]:=bK r1
      have a2 : IntsAre i2.toArray.toList [(kf i).1,(kf i).2]:=bK r2
      show wpAny _ _ (tryCatch (holding [u,Value.ref t2] (richCompare .Lt (.ref t2) (.ref t) >>= _)) _ >>= _) _ _ _
      refine wpAny_bind (wpAny_tryCatch (wpAny_holding (wpAny_bind ?_)))
      refine (HT.lt_tupInts p1 p2 a1 a2 (by show X.A.units + 1 < cLine; omega) ?_ : wpAny (model X.prog X.w) X.A.in1 (compareOp .Lt (.ref t2) (.ref t)) _ _ s2)
      refine wpAny_bind (wpAny_holding (wpAny_truthy_bool (wpAny_bind (wpAny_letGo (wpAny_pure ?_)))))
      by_cases c : lt2 (kf j) (kf i)
      · rw [(qS _ _).mpr c]
        show wpAny _ _ (updateSeq S (fun _=>#[u,Value.ref t2]) >>= _) _ _ _
        obtain ⟨h3,n3,w3,I5,hS3,hit3⟩:=put u (.ref t2) s2 n #[ub,.ref t] I4 hS2 (by show 2 ≤ 2; decide) hit2
        refine wpAny_bind (w3 (wpAny_bind (wpAny_letGo ?_)))
        exact wpAny_pure ⟨rfl,ih (j + 1) H2 _ hr1 hjl I5 sm2 hit3 fI2 fS2 (.inr ⟨j,_,u,t2,n3,hS3,List.getElem?_eq_getElem hjl,ru,Nat.lt_succ_self j,ht2,bst.next c⟩)⟩
      · have e : HT.lexLt [(kf j).1,(kf j).2] [(kf i).1,(kf i).2] = false:=by
          cases z : HT.lexLt [(kf j).1,(kf j).2] [(kf i).1,(kf i).2] with
          | false=>rfl
          | true=>exact absurd ((qS _ _).mp z) c
        rw [e]
        show wpAny _ _ (letGo [u,Value.ref t2] >>= _) _ _ _
        refine wpAny_bind (wpAny_letGo ?_)
        exact wpAny_pure ⟨rfl,ih (j + 1) H2 _ hr1 hjl I4 sm2 hit2 fI2 fS2 (.inr ⟨i,x,ub,t,n,hS2,hx,hub,Nat.lt_succ_of_lt hij,htb,bst.keep hij c⟩)⟩
theorem oH (kf : Nat→Int × Int) {xs : List V} {l it S q : Addr} {H0 : Hp} {R : Result→Shared→Prop} (hcalm : X.A.handled = none) (hu : X.A.units + 2 < cLine) (hl : SqL X.K H0 l xs) (ne : xs ≠ []) (nIS : S ≠ it)
    (KEY : ∀ (i : Nat) (x : V) (u : Value) (H : Hp) (s : Shared) (pins' : List (Addr × Obj)),Inv X pins' σ H s→Same H0 H→xs[i]? = some x→RelV x u→wpAny (model X.prog X.w) X.A.in1 (call (.ref q) [u]) (EP X pins' σ fun y H'=>Same H H'∧∃ t,y = .ref t∧H' t = some (.tup (dh (kf i)))) (fun _ _=>False) s)
    (FIN : ∀ (i : Nat) (x : V) (u : Value) (H : Hp) (s : Shared),Inv X pins σ H s→Same H0 H→xs[i]? = some x→RelV x u→BestN (ngK kf) xs.length i→R (.ok (.ret u)) s) :
    ∀ (r j : Nat) (H : Hp) (s : Shared),xs.length - j = r→j ≤ xs.length→Inv X pins σ H s→Same H0 H→s.heap.IsListIter it l j→FpOk X pins H it→FpOk X pins H S →
      ((j = 0∧∃ n,s.heap.get? S = some { cls:=.type "list",data:=.seq #[] n }) ∨ ∃ (i : Nat) (x : V) (ub : Value) (t : Addr) (n : Nat),s.heap.get? S = some { cls:=.type "list",data:=.seq #[ub,.ref t] n }∧xs[i]? = some x∧RelV x ub∧i < j∧H t = some (.tup (dh (kf i)))∧BestN (ngK kf) j i) →
      codeAny (model X.prog X.w) X.A (.builtin "max.loop" ⟨[.ref it,.ref q,.ref S],[]⟩) R s:=by
  intro r
  induction r with
  | zero =>
    intro j H s hr hj I sm hit fI fS st
    have hje : j = xs.length:=by omega
    have hpos : 0 < xs.length:=List.length_pos_iff.mpr ne
    rcases st with ⟨h0,_⟩ | ⟨i,x,ub,t,n,hS,hx,hub,hij,ht,bst⟩
    · omega
    refine codeAny_builtin PySem.F.entry_max_loop ?_
    rw [ja]
    unfold Builtin.«max.loop»
    show wpAny _ _ (seqItems? (.ref S) >>= _) _ _ s
    refine wpAny_bind (dk hS rfl ?_)
    obtain ⟨its,rv,p,hz⟩:=I.list (sm.seq hl)
    have hl2:=rv.length
    refine wpAny_bind (wpAny_tryCatch (wpAny_pyNext_list_end hcalm hit p.isList (by simp; omega) fun h' eb=>?_))
    obtain ⟨f0,f1,f2,f3,f4,f5⟩:=fI
    have I1 : Inv X pins σ H { s with heap:=h' }:=I.turned (t':=s.toks) (fun b o hb e=>eb b o hb e) f0 f1 f3 f4 f5
    have hS1 : h'.get? S = some { cls:=.type "list",data:=.seq #[ub,.ref t] n }:=eb S _ nIS hS
    obtain ⟨g0,g1,g2,g3,g4,g5⟩:=fS
    show wpAny _ _ (updateSeq S (fun _=>#[]) >>= _) _ _ _
    refine wpAny_bind (wpAny_updateSeq (s:={ s with heap:=h' }) hS1 rfl ?_ (by show 2 ≤ sizeLine; decide) (by show 0 ≤ sizeLine + 1; decide))
    refine wpAny_bind (wpAny_letGo (wpAny_pure ?_))
    have I2:=I1.turned (t':=s.toks) (h':=h'.update S (Obj.mapSeq fun _=>#[])) (fun b o hb e=>((Heap.SameBut.update h' S (Obj.mapSeq fun _=>#[])).2 b hb).trans e) g0 g1 g3 g4 g5
    exact FIN i x ub H _ I2 sm hx hub (hje ▸ bst)
  | succ r ih =>
    intro j H s hr hj I sm hit fI fS st
    have hjl : j < xs.length:=by omega
    have hr1 : xs.length - (j + 1) = r:=by clear st; omega
    obtain ⟨its,rv,p,hz⟩:=I.list (sm.seq hl)
    have hl2:=rv.length
    obtain ⟨u,hu',ru⟩:=rv.get (List.getElem?_eq_getElem hjl)
    refine codeAny_builtin PySem.F.entry_max_loop ?_
    rw [ja]
    unfold Builtin.«max.loop»
    show wpAny _ _ (seqItems? (.ref S) >>= _) _ _ s
    obtain ⟨oS,items,n,hS,dS,hcase⟩ : ∃ (oS : Obj) (items : Array Value) (n : Nat),s.heap.get? S = some oS∧oS = { cls:=.type "list",data:=.seq items n }∧((j = 0∧items = #[]) ∨ ∃ (i : Nat) (x : V) (ub : Value) (t : Addr),items = #[ub,.ref t]∧xs[i]? = some x∧RelV x ub∧i < j∧H t = some (.tup (dh (kf i)))∧BestN (ngK kf) j i):=by
      rcases st with ⟨h0,n,h⟩ | ⟨i,x,ub,t,n,hS,h⟩
      · exact ⟨_,_,_,h,rfl,.inl ⟨h0,rfl⟩⟩
      · exact ⟨_,_,_,hS,rfl,.inr ⟨i,x,ub,t,rfl,h⟩⟩
    refine wpAny_bind (dk hS (by rw [dS]) ?_)
    refine wpAny_bind (wpAny_tryCatch (wpAny_pyNext_list_item hit p.isList (x:=u) (by simpa using hu') fun h1 hit1 sb=>?_))
    obtain ⟨f0,f1,f2,f3,f4,f5⟩:=id fI
    obtain ⟨g0,g1,g2,g3,g4,g5⟩:=id fS
    have I1 : Inv X pins σ H { s with heap:=h1 }:=I.turned (t':=s.toks) (fun b o hb e=>(sb.2 b hb).trans e) f0 f1 f3 f4 f5
    have hS1 : h1.get? S = some oS:=(sb.2 S nIS).trans hS
    obtain ⟨oI,hI1,cI,dI⟩:=id hit1
    have I2 : Inv X (pins ++ [(it,oI),(S,oS)]) σ H { s with heap:=h1 }:=I1.pins_of fun p hp=>by
      rcases List.mem_append.mp hp with z | z
      · exact I1.pin p (List.mem_append_right _ z)
      · rcases List.mem_cons.mp z with rfl | z
        · exact ⟨hI1,f0,f1,f2,fun v=>by rw [dI]; exact fun z=>by cases z⟩
        · rw [List.mem_singleton.mp z]
          exact ⟨hS1,g0,g1,g2,fun v=>by rw [dS]; exact fun z=>by cases z⟩
    show wpAny _ _ (tryCatch (holding [u] (call (.ref q) [u])) _ >>= _) _ _ _
    refine wpAny_bind (wpAny_tryCatch (wpAny_holding (wpAny_mono (KEY j _ u H _ _ I2 sm (List.getElem?_eq_getElem hjl) ru) (fun kv s2 hm=>?_) fun _ _ z=>z.elim)))
    obtain ⟨y,H2,I3,ry,s12,t2,rfl,ht2⟩:=hm
    obtain rfl : kv = Value.ref t2:=ry
    have pI:=I3.pin (it,oI) (by simp)
    have pS:=I3.pin (S,oS) (by simp)
    have I4 : Inv X pins σ H2 s2:=I3.pins_of fun p hp=>I3.pin p (by
      rcases List.mem_append.mp (List.mem_append_right X.pn hp) with z | z
      · exact List.mem_append_left _ z
      · exact List.mem_append_right _ (List.mem_append_left _ z))
    have sm2:=sm.trans s12
    have hit2 : s2.heap.IsListIter it l (j + 1):=⟨oI,pI.1,cI,dI⟩
    have fI2 : FpOk X pins H2 it:=fI.of pI.2.1
    have fS2 : FpOk X pins H2 S:=fS.of pS.2.1
    have put : ∀ (a b : Value) (s2 : Shared) (n : Nat) (items : Array Value),Inv X pins σ H2 s2→s2.heap.get? S = some { cls:=.type "list",data:=.seq items n }→items.size ≤ 2→s2.heap.IsListIter it l (j + 1)→∃ h3 n3,(∀ {E : Value→Shared→Prop} {Q : Unit→Shared→Prop},Q () { s2 with heap:=h3 }→wpAny (model X.prog X.w) X.A.in1 (updateSeq S fun _=>#[a,b]) Q E s2)∧Inv X pins σ H2 { s2 with heap:=h3 }∧h3.get? S = some { cls:=.type "list",data:=.seq #[a,b] n3 }∧h3.IsListIter it l (j + 1):=fun a b s2 n items I4 hS2 hz2 hit2=>by
      have sb2:=Heap.SameBut.update s2.heap S (Obj.mapSeq fun _=>#[a,b])
      refine ⟨s2.heap.update S (Obj.mapSeq fun _=>#[a,b]),_,fun {E Q} h=>wpAny_updateSeq hS2 rfl h (Nat.le_trans hz2 (by decide)) (by show 2 ≤ sizeLine + 1; decide),I4.turned (t':=s2.toks) (fun b o hb e=>(sb2.2 b hb).trans e) fS2.1 fS2.2.1 fS2.2.2.2.1 fS2.2.2.2.2.1 fS2.2.2.2.2.2,Heap.get?_update_self _ hS2 rfl,?_⟩
      obtain ⟨o,e1,e2,e3⟩:=hit2
      exact ⟨o,(sb2.2 it (Ne.symm nIS)).trans e1,e2,e3⟩
    have hS2 : s2.heap.get? S = some { cls:=.type "list",data:=.seq items n }:=by rw [← dS]; exact pS.1
    rcases hcase with ⟨h0,rfl⟩ | ⟨i,x,ub,t,rfl,hx,hub,hij,ht,bst⟩
    · show wpAny _ _ (updateSeq S (fun _=>#[u,Value.ref t2]) >>= _) _ _ _
      obtain ⟨h3,n3,w3,I5,hS3,hit3⟩:=put u (.ref t2) s2 n #[] I4 hS2 (by decide) hit2
      refine wpAny_bind (w3 ?_)
      refine wpAny_pure ⟨rfl,ih (j + 1) H2 _ hr1 hjl I5 sm2 hit3 fI2 fS2 (.inr ⟨j,_,u,t2,n3,hS3,List.getElem?_eq_getElem hjl,ru,Nat.lt_succ_self j,ht2,fun j' hj'=>?_⟩)⟩
      have : j' = j:=by omega
      subst this
      unfold lt2
      exact ⟨by omega,fun z=>by omega⟩
    · have htb:=s12 _ _ ht
      obtain ⟨i1,r1,p1,_⟩:=I4.tuple (SqT.of ht2)
      obtain ⟨i2,r2,p2,_⟩:=I4.tuple (SqT.of htb)
      have a1 : IntsAre i1.toArray.toList [(kf j).1,(kf j).2]:=bK r1
      have a2 : IntsAre i2.toArray.toList [(kf i).1,(kf i).2]:=bK r2
      show wpAny _ _ (tryCatch (holding [u,Value.ref t2] (richCompare .Gt (.ref t2) (.ref t) >>= _)) _ >>= _) _ _ _
      refine wpAny_bind (wpAny_tryCatch (wpAny_holding (wpAny_bind ?_)))
      refine (HT.gt_tupInts p1 p2 a1 a2 (by show X.A.units + 1 < cLine; omega) ?_ : wpAny (model X.prog X.w) X.A.in1 (compareOp .Gt (.ref t2) (.ref t)) _ _ s2)
      refine wpAny_bind (wpAny_holding (wpAny_truthy_bool (wpAny_bind (wpAny_letGo (wpAny_pure ?_)))))
      by_cases c : lt2 (ngK kf j) (ngK kf i)
      · rw [(qS _ _).mpr (ng_lt.mp c)]
        show wpAny _ _ (updateSeq S (fun _=>#[u,Value.ref t2]) >>= _) _ _ _
        obtain ⟨h3,n3,w3,I5,hS3,hit3⟩:=put u (.ref t2) s2 n #[ub,.ref t] I4 hS2 (by show 2 ≤ 2; decide) hit2
        refine wpAny_bind (w3 (wpAny_bind (wpAny_letGo ?_)))
        exact wpAny_pure ⟨rfl,ih (j + 1) H2 _ hr1 hjl I5 sm2 hit3 fI2 fS2 (.inr ⟨j,_,u,t2,n3,hS3,List.getElem?_eq_getElem hjl,ru,Nat.lt_succ_self j,ht2,bst.next c⟩)⟩
      · have e : HT.lexLt [(kf i).1,(kf i).2] [(kf j).1,(kf j).2] = false:=by
          cases z : HT.lexLt [(kf i).1,(kf i).2] [(kf j).1,(kf j).2] with
          | false=>rfl
          | true=>exact absurd (ng_lt.mpr ((qS _ _).mp z)) c
        rw [e]
        show wpAny _ _ (letGo [u,Value.ref t2] >>= _) _ _ _
        refine wpAny_bind (wpAny_letGo ?_)
        exact wpAny_pure ⟨rfl,ih (j + 1) H2 _ hr1 hjl I4 sm2 hit2 fI2 fS2 (.inr ⟨i,x,ub,t,n,hS2,hx,hub,Nat.lt_succ_of_lt hij,htb,bst.keep hij c⟩)⟩
end
theorem kn (nm : String) (v : Value) : Builtin.Builtins.bindParams nm ["key","default"] 0 { kw:=[("key",v)] } = pure [some v,none]:=by
  rfl
section
variable {X : Cx} {pins : List (Addr × Obj)} {σ : St}
theorem o7 (kf : Nat→Int × Int) {xs : List V} {l q : Addr} {H : Hp} {s : Shared} {Q : VK} {E : Value→Shared→Prop} (hcalm : X.A.handled = none) (hu : X.A.units + 2 < cLine) (I : Inv X pins σ H s) (hl : SqL X.K H l xs) (ne : xs ≠ [])
    (KEY : ∀ (i : Nat) (x : V) (u : Value) (H1 : Hp) (s : Shared) (pins' : List (Addr × Obj)),Inv X pins' σ H1 s→Same H H1→xs[i]? = some x→RelV x u→wpAny (model X.prog X.w) X.A.in1 (call (.ref q) [u]) (EP X pins' σ fun y H'=>Same H1 H'∧∃ t,y = .ref t∧H' t = some (.tup (dh (kf i)))) (fun _ _=>False) s)
    (FIN : ∀ (i : Nat) (x : V) (H' : Hp),Same H H'→xs[i]? = some x→BestN kf xs.length i→Q x H') :
    wpAny (model X.prog X.w) X.A (call (.builtin "min") [.ref l] [("key",.ref q)]) (EP X pins σ Q) E s:=by
  refine PyProof.Rows.kmk_tree (by rfl) (by rfl) PySem.F.entry_min (PyProof.Rows.kmk_min_key _ _) ?_
  unfold Builtin.min
  show wpAny _ _ (Builtin.Builtins.bindParams "min" ["key","default"] 0 { kw:=[("key",Value.ref q)] } >>= _) _ _ s
  rw [kn]
  refine wpAny_bind (wpAny_pure ?_)
  obtain ⟨its,rv,p,hz⟩:=I.list hl
  refine wpAny_bind (wpAny_pure ?_)
  refine wpAny_bind (wpAny_pyIter_list p.isList ?_)
  refine wpAny_bind (wpAny_newList ?_)
  have I1 : Inv X pins σ H { s with heap:=s.heap.push { cls:=.type "list_iterator",data:=.fields #[.ref l,.int 0 0] } }:=I.kept (t':=s.toks) (fun b o e=>Heap.get?_push_of_some _ e)
  have hit : (s.heap.push { cls:=.type "list_iterator",data:=.fields #[.ref l,.int 0 0] }).IsListIter s.heap.objs.size l 0:=⟨_,Heap.get?_push_size _ rfl,rfl,rfl⟩
  have fI:=I.fpOk (H':=H) (Nat.le_refl s.heap.objs.size) (I.hok.fresh (Nat.le_refl _))
  have sz1 : (s.heap.push { cls:=.type "list_iterator",data:=.fields #[.ref l,.int 0 0] }).objs.size = s.heap.objs.size + 1:=by simp [Heap.push]
  generalize s.heap.push { cls:=.type "list_iterator",data:=.fields #[.ref l,.int 0 0] } = h1 at I1 hit sz1
  have I2 : Inv X pins σ H { s with heap:=h1.push { cls:=.type "list",data:=.seq #[] 0 } }:=I1.kept (t':=s.toks) (fun b o e=>Heap.get?_push_of_some _ e)
  have fS:=I1.fpOk (H':=H) (Nat.le_refl h1.objs.size) (I1.hok.fresh (Nat.le_refl _))
  have hit2 : (h1.push { cls:=.type "list",data:=.seq #[] 0 }).IsListIter s.heap.objs.size l 0:=by
    obtain ⟨o,e1,e2,e3⟩:=hit
    exact ⟨o,Heap.get?_push_of_some _ e1,e2,e3⟩
  refine wpAny_pure ⟨rfl,?_⟩
  refine pF (S:=h1.objs.size) (it:=s.heap.objs.size) (q:=q) (R:=fun r s'=>match r with
    | Except.ok (Flow.ret v)=>EP X pins σ Q v s'
    | Except.ok _=>False
    | Except.error e=>E e s') kf hcalm hu hl ne (by rw [sz1]; exact Nat.succ_ne_self _) KEY (fun i x u H' s' I' sm hx ru b=>⟨x,H',I',ru,FIN i x H' sm hx b⟩) _ 0 H _ rfl (Nat.zero_le _) I2 (Same.refl _) hit2 fI fS (.inl ⟨rfl,0,Heap.get?_push_size _ rfl⟩)
theorem oF (kf : Nat→Int × Int) {xs : List V} {l q : Addr} {H : Hp} {s : Shared} {Q : VK} {E : Value→Shared→Prop} (hcalm : X.A.handled = none) (hu : X.A.units + 2 < cLine) (I : Inv X pins σ H s) (hl : SqL X.K H l xs) (ne : xs ≠ [])
    (KEY : ∀ (i : Nat) (x : V) (u : Value) (H1 : Hp) (s : Shared) (pins' : List (Addr × Obj)),Inv X pins' σ H1 s→Same H H1→xs[i]? = some x→RelV x u→wpAny (model X.prog X.w) X.A.in1 (call (.ref q) [u]) (EP X pins' σ fun y H'=>Same H1 H'∧∃ t,y = .ref t∧H' t = some (.tup (dh (kf i)))) (fun _ _=>False) s)
    (FIN : ∀ (i : Nat) (x : V) (H' : Hp),Same H H'→xs[i]? = some x→BestN (ngK kf) xs.length i→Q x H') :
    wpAny (model X.prog X.w) X.A (call (.builtin "max") [.ref l] [("key",.ref q)]) (EP X pins σ Q) E s:=by
  refine PyProof.Rows.kmk_tree (by rfl) (by rfl) PySem.F.entry_max (PyProof.Rows.kmk_max_key _ _) ?_
  unfold Builtin.max
  show wpAny _ _ (Builtin.Builtins.bindParams "max" ["key","default"] 0 { kw:=[("key",Value.ref q)] } >>= _) _ _ s
  rw [kn]
  refine wpAny_bind (wpAny_pure ?_)
  obtain ⟨its,rv,p,hz⟩:=I.list hl
  refine wpAny_bind (wpAny_pure ?_)
  refine wpAny_bind (wpAny_pyIter_list p.isList ?_)
  refine wpAny_bind (wpAny_newList ?_)
  have I1 : Inv X pins σ H { s with heap:=s.heap.push { cls:=.type "list_iterator",data:=.fields #[.ref l,.int 0 0] } }:=I.kept (t':=s.toks) (fun b o e=>Heap.get?_push_of_some _ e)
  have hit : (s.heap.push { cls:=.type "list_iterator",data:=.fields #[.ref l,.int 0 0] }).IsListIter s.heap.objs.size l 0:=⟨_,Heap.get?_push_size _ rfl,rfl,rfl⟩
  have fI:=I.fpOk (H':=H) (Nat.le_refl s.heap.objs.size) (I.hok.fresh (Nat.le_refl _))
  have sz1 : (s.heap.push { cls:=.type "list_iterator",data:=.fields #[.ref l,.int 0 0] }).objs.size = s.heap.objs.size + 1:=by simp [Heap.push]
  generalize s.heap.push { cls:=.type "list_iterator",data:=.fields #[.ref l,.int 0 0] } = h1 at I1 hit sz1
  have I2 : Inv X pins σ H { s with heap:=h1.push { cls:=.type "list",data:=.seq #[] 0 } }:=I1.kept (t':=s.toks) (fun b o e=>Heap.get?_push_of_some _ e)
  have fS:=I1.fpOk (H':=H) (Nat.le_refl h1.objs.size) (I1.hok.fresh (Nat.le_refl _))
  have hit2 : (h1.push { cls:=.type "list",data:=.seq #[] 0 }).IsListIter s.heap.objs.size l 0:=by
    obtain ⟨o,e1,e2,e3⟩:=hit
    exact ⟨o,Heap.get?_push_of_some _ e1,e2,e3⟩
  refine wpAny_pure ⟨rfl,?_⟩
  refine oH (S:=h1.objs.size) (it:=s.heap.objs.size) (q:=q) (R:=fun r s'=>match r with
    | Except.ok (Flow.ret v)=>EP X pins σ Q v s'
    | Except.ok _=>False
    | Except.error e=>E e s') kf hcalm hu hl ne (by rw [sz1]; exact Nat.succ_ne_self _) KEY (fun i x u H' s' I' sm hx ru b=>⟨x,H',I',ru,FIN i x H' sm hx b⟩) _ 0 H _ rfl (Nat.zero_le _) I2 (Same.refl _) hit2 fI fS (.inl ⟨rfl,0,Heap.get?_push_size _ rfl⟩)
end
def ua (P : Addr) (pos : Pos) (qual : Str) (params : Arguments) (body : Expr) (scope : Scope) (cells : List (Str × Addr)) : TE:=fun σ H Q=>TabOk H P pos qual∧∀ (cl : List (Str × Addr)) (q : Addr) (H' : Hp),(∀ x c,cl.lookup x = some c→cells.lookup x = some c)→(∀ x,(x,NameKind.free) ∈ scope.names→∃ c,cl.lookup x = some c)→SameT P H H'→TabOk H' P pos qual→gL H' q qual params body scope cl→Q (.ref q) H'
theorem qh {X : Cx} {P : Addr} {params : Arguments} {body : Expr} {scope : Scope} {pos : Pos} (D : LamDef X P) (hd : defaultsOf params X.env = ([],[]):=by rfl) (hf : ∀ y ∈ scope.names,y.2 = .free→∃ c,X.env.cells.lookup y.1 = some c) :
    PE X (.Lambda params body scope pos) (ua P pos (X.env.qual ++ "<lambda>") params body scope X.env.cells):=by
  intro pins s σ H Q I h
  exact qU D I h.1 hd hf fun cl q H' s' c1 c2 I' sT t' la=>⟨.ref q,H',I',rfl,h.2 cl q H' c1 c2 sT t' la⟩
section
variable {X : Cx} {pins : List (Addr × Obj)} {σ : St}
theorem mG {k : Nat} {q : Addr} {qual x y : Str} {params : Arguments} {body : Expr} {scope : Scope} {cl : List (Str × Addr)} {H : Hp} {s : Shared} {j : Nat} {pv v : V} {u : Value} {te : TE} {Q : VK} (hr : Room (k + 2) X.A) (I : Inv X pins σ H s) (la : gL H q qual params body scope cl) (c1 : ∀ x c,cl.lookup x = some c→X.env.cells.lookup x = some c)
    (kind : scope.kind = .function) (co : scope.isCoroutine = false) (gen : scope.isGenerator = false) (names : scope.names.lookup x = some .local∧scope.names.lookup y = some .free∧(y,NameKind.free) ∈ scope.names∧∀ z ∈ scope.names,z.2 ≠ .cell∧(z.2 = .free→z.1 = y)) (hxy : x ≠ y) (hcl : ∃ c,cl.lookup y = some c)
    (hj : X.N[j]? = some y) (hs : σ[j]? = some (some pv)) (hcell : X.env.scope.names.lookup y = some .cell)
    (hbind : ∀ pm cdv ctv,bindArgs (PySem.W.kla_fn "<lambda>" qual params body scope cl pm cdv ctv) ⟨[u],[]⟩ = pure [(x,u)]) (r : RelV v u)
    (hb : ∀ cdv,PE (j8 X.prog X.w X.K X.mg X.base [x,y] qual scope cl q cdv X.A.in1 X.stack s H) body te) (hq : te [some v,some pv] H Q) :
    wpAny (model X.prog X.w) X.A.in1 (call (.ref q) [u]) (EP X pins σ Q) (fun _ _=>False) s:=by
  obtain ⟨pm,ctv,c,o,vs,t,hq0,hc0,hd,hv⟩:=la
  have oq:=(I.hok q _ hq0).1
  have oc:=(I.hok c _ hc0).1
  have lk : scope.names.lookup x = some .local∧scope.names.lookup y = some .free∧(∀ z,scope.names.lookup z = some .free→z = y)∧∀ z ∈ scope.names,z.2 ≠ .cell:=by
    exact ⟨names.1,names.2.1,fun z hz=>(names.2.2.2 _ (PySem.mem_of_lookup hz)).2 rfl,fun z hz=>(names.2.2.2 z hz).1⟩
  obtain ⟨cc,hcc⟩:=hcl
  have hXc:=c1 y cc hcc
  obtain ⟨m,hn,hloc⟩:=id I.loc
  obtain ⟨uu,ruu,look⟩:=hloc j y pv hj hs (.inr (.inl hcell))
  have hIs : s.heap.IsCell cc (some uu):=by
    rcases look with ⟨kk,_⟩ | ⟨_,c',e1,e2⟩
    · have kk : X.env.scope.names.lookup y = some .local:=kk
      rw [hcell] at kk; cases kk
    · rw [hXc] at e1; cases e1; exact e2
  have C : LamCl scope cl x [x,y] [pv] s H:=⟨kind,co,gen,lk.2.2.2,lk.1,fun a b c h1 h2=>I.ok.inj a b c (c1 a c h1) (c1 b c h2),fun z hz=>by rw [lk.2.2.1 z hz]; exact ⟨cc,hcc⟩,fun z c hz=>⟨I.freeC z c (c1 z c hz),I.cell z c (c1 z c hz)⟩,[y],rfl,rfl,by simpa using hxy,fun i z v' h1 h2=>by
    cases i with
    | zero=>cases h1; cases h2; exact ⟨lk.2.1,cc,uu,hcc,hIs,ruu⟩
    | succ i=>cases h1⟩
  refine wpAny_call ?_
  have run:=rd (P:=X.prog) (w:=X.w) (K:=X.K) (mg:=X.mg) (base:=X.base) (E:=E0) (Q:=Q) oq ⟨c,o,vs,t,rfl,oc,hd,hv⟩ (hbind _ _ _) C hr.in1 I.env0.in1 r (hb _) hq
  refine codeAny_mono run fun rr s' h=>?_
  cases rr with
  | ok f =>
    cases f with
    | ret v=>exact I.after h
    | _=>exact h
  | error e=>exact h.elim
end
def sY (mx : Bool) (P : Addr) (pos : Pos) (qual : Str) (j : Nat) (ta : TA) (tb : TE) : TE:=fun σ H Q=>ta σ H fun vs H1=>TabOk H1 P pos qual∧∃ (l : Addr) (xs : List V) (pv : V) (kf : Nat→Int × Int),vs = [.ref l]∧H1 l = some (.lst xs)∧xs ≠ []∧σ[j]? = some (some pv) ∧
  (∀ i x H2,xs[i]? = some x→SameT P H1 H2→tb [some x,some pv] H2 fun y H3=>Same H2 H3∧∃ t,y = .ref t∧H3 t = some (.tup (dh (kf i)))) ∧
  ∀ i x H2,xs[i]? = some x→BestN (if mx then ngK kf else kf) xs.length i→SameT P H1 H2→TabOk H2 P pos qual→Q x H2
theorem sO {X : Cx} {k j : Nat} {P : Addr} {x y : Str} {params : Arguments} {body e : Expr} {scope : Scope} {lpos p pos kpos : Pos} {ta : TA} {tb : TE} (D : LamDef X P) (hr : Room (k + 2) X.A) (hcalm : X.calm = true) (hg : Gl X "min") (hm : X.mg "min" = none) (ha : PA X [e] ta)
    (kind : scope.kind = .function) (co : scope.isCoroutine = false) (gen : scope.isGenerator = false) (names : scope.names.lookup x = some .local∧scope.names.lookup y = some .free∧(y,NameKind.free) ∈ scope.names∧∀ z ∈ scope.names,z.2 ≠ .cell∧(z.2 = .free→z.1 = y)) (hxy : x ≠ y) (hj : X.N[j]? = some y) (hcell : X.env.scope.names.lookup y = some .cell)
    (hbind : ∀ cl u pm cdv ctv,bindArgs (PySem.W.kla_fn "<lambda>" (X.env.qual ++ "<lambda>") params body scope cl pm cdv ctv) ⟨[u],[]⟩ = pure [(x,u)])
    (hb : ∀ cl q cdv s H,PE (j8 X.prog X.w X.K X.mg X.base [x,y] (X.env.qual ++ "<lambda>") scope cl q cdv X.A.in1 X.stack s H) body tb)
    (hd : defaultsOf params X.env = ([],[]):=by rfl)
    (h1 : backTo pos (starEach [e] X.env) = (false,eval e X.env) :: backTo pos (starEach [] X.env):=by rfl) (h2 : ((backTo pos (starEach [e] X.env)).any fun x=>x.fst) = false:=by rfl)
    (h3 : ((backToKw pos (keywordEach [⟨some ("key" : Str),.Lambda params body scope lpos,kpos⟩] X.env)).all fun x=>x.fst.isSome) = true:=by rfl) (h4 : ((backToKw pos (keywordEach [⟨some ("key" : Str),.Lambda params body scope lpos,kpos⟩] X.env)).any fun x=>x.fst.isNone) = false:=by rfl)
    (h5 : List.filterMap (fun x=>x.fst) (backToKw pos (keywordEach [⟨some ("key" : Str),.Lambda params body scope lpos,kpos⟩] X.env)) = [("key" : Str)]:=by rfl) :
    PE X (.Call (.Name "min" p) [e] [⟨some ("key" : Str),.Lambda params body scope lpos,kpos⟩] pos) (sY false P lpos (X.env.qual ++ "<lambda>") j ta tb):=by
  intro pins s σ H Q I h
  refine wpAny_Call_Name_kw (c6 I hg hm boot_min ?_ (by decide) (by decide))
  refine PyProof.Rows.callWith_kw (thn (ha pos pins s σ H _ I h) fun us s1 hm0=>?_) h1 h2 h3 h4
  obtain ⟨vs,H1,I1,r1,tab,l,xs,pv,kf,rfl,hl,ne,hs,hk,q⟩:=hm0
  have hcl0 : ∃ c,X.env.cells.lookup y = some c:=I1.ok.has y (.inl hcell)
  have hf : ∀ z ∈ scope.names,z.2 = .free→∃ c,X.env.cells.lookup z.1 = some c:=fun z hz hf=>by
    rw [(names.2.2.2 z hz).2 hf]; exact hcl0
  have hPK : PK X [⟨some ("key" : Str),.Lambda params body scope lpos,kpos⟩] (mm (ua P lpos (X.env.qual ++ "<lambda>") params body scope X.env.cells) rf):=mr (qh D hd hf) qQ
  have hyf : (y,NameKind.free) ∈ scope.names:=names.2.2.1
  obtain ⟨ps,hP,_⟩:=id tab
  have nlP : l ≠ P:=fun z=>by rw [z,hP] at hl; cases hl
  refine thn (hPK pos pins s1 σ H1 (fun zs H2=>∃ (cl : List (Str × Addr)) (qa : Addr),zs = [.ref qa]∧(∀ x c,cl.lookup x = some c→X.env.cells.lookup x = some c)∧(∃ c,cl.lookup y = some c)∧SameT P H1 H2∧TabOk H2 P lpos (X.env.qual ++ "<lambda>")∧gL H2 qa (X.env.qual ++ "<lambda>") params body scope cl) I1 ⟨tab,fun cl qa H2 c1 c2 sT t2 la=>⟨cl,qa,rfl,c1,c2 y hyf,sT,t2,la⟩⟩) fun ws s2 hm0=>?_
  obtain ⟨zs,H2,I2,r2,cl,qa,rfl,c1,hcl,sT,t2,la⟩:=hm0
  rw [h5]
  obtain ⟨u,rfl,ru⟩:=de r1
  cases ru
  obtain ⟨u2,rfl,ru2⟩:=de r2
  cases ru2
  refine o7 kf (I2.ok.hd hcalm) (jL hr 2) I2 (SqL.of (sT _ _ nlP hl)) ne (fun i x' u H3 s3 pins' I3 sm hx ru=>?_) (fun i x' H' sm hx b=>q i x' H' hx b (sT.trans (SameT.of sm)) (t2.up sm))
  have la3 : gL H3 qa (X.env.qual ++ "<lambda>") params body scope cl:=by
    obtain ⟨pm,ctv,c,o,vs,t,a1,a2,a3⟩:=la
    exact ⟨pm,ctv,c,o,vs,t,sm _ _ a1,sm _ _ a2,a3⟩
  exact mG hr I3 la3 c1 kind co gen names hxy hcl hj hs hcell (fun pm cdv ctv=>hbind cl u pm cdv ctv) ru (fun cdv=>hb cl qa cdv s3 H3) (hk i x' H3 hx (sT.trans (SameT.of sm)))
theorem rO {X : Cx} {k j : Nat} {P : Addr} {x y : Str} {params : Arguments} {body e : Expr} {scope : Scope} {lpos p pos kpos : Pos} {ta : TA} {tb : TE} (D : LamDef X P) (hr : Room (k + 2) X.A) (hcalm : X.calm = true) (hg : Gl X "max") (hm : X.mg "max" = none) (ha : PA X [e] ta)
    (kind : scope.kind = .function) (co : scope.isCoroutine = false) (gen : scope.isGenerator = false) (names : scope.names.lookup x = some .local∧scope.names.lookup y = some .free∧(y,NameKind.free) ∈ scope.names∧∀ z ∈ scope.names,z.2 ≠ .cell∧(z.2 = .free→z.1 = y)) (hxy : x ≠ y) (hj : X.N[j]? = some y) (hcell : X.env.scope.names.lookup y = some .cell)
    (hbind : ∀ cl u pm cdv ctv,bindArgs (PySem.W.kla_fn "<lambda>" (X.env.qual ++ "<lambda>") params body scope cl pm cdv ctv) ⟨[u],[]⟩ = pure [(x,u)])
    (hb : ∀ cl q cdv s H,PE (j8 X.prog X.w X.K X.mg X.base [x,y] (X.env.qual ++ "<lambda>") scope cl q cdv X.A.in1 X.stack s H) body tb)
    (hd : defaultsOf params X.env = ([],[]):=by rfl)
    (h1 : backTo pos (starEach [e] X.env) = (false,eval e X.env) :: backTo pos (starEach [] X.env):=by rfl) (h2 : ((backTo pos (starEach [e] X.env)).any fun x=>x.fst) = false:=by rfl)
    (h3 : ((backToKw pos (keywordEach [⟨some ("key" : Str),.Lambda params body scope lpos,kpos⟩] X.env)).all fun x=>x.fst.isSome) = true:=by rfl) (h4 : ((backToKw pos (keywordEach [⟨some ("key" : Str),.Lambda params body scope lpos,kpos⟩] X.env)).any fun x=>x.fst.isNone) = false:=by rfl)
    (h5 : List.filterMap (fun x=>x.fst) (backToKw pos (keywordEach [⟨some ("key" : Str),.Lambda params body scope lpos,kpos⟩] X.env)) = [("key" : Str)]:=by rfl) :
    PE X (.Call (.Name "max" p) [e] [⟨some ("key" : Str),.Lambda params body scope lpos,kpos⟩] pos) (sY true P lpos (X.env.qual ++ "<lambda>") j ta tb):=by
  intro pins s σ H Q I h
  refine wpAny_Call_Name_kw (c6 I hg hm boot_max ?_ (by decide) (by decide))
  refine PyProof.Rows.callWith_kw (thn (ha pos pins s σ H _ I h) fun us s1 hm0=>?_) h1 h2 h3 h4
  obtain ⟨vs,H1,I1,r1,tab,l,xs,pv,kf,rfl,hl,ne,hs,hk,q⟩:=hm0
  have hcl0 : ∃ c,X.env.cells.lookup y = some c:=I1.ok.has y (.inl hcell)
  have hf : ∀ z ∈ scope.names,z.2 = .free→∃ c,X.env.cells.lookup z.1 = some c:=fun z hz hf=>by
    rw [(names.2.2.2 z hz).2 hf]; exact hcl0
  have hPK : PK X [⟨some ("key" : Str),.Lambda params body scope lpos,kpos⟩] (mm (ua P lpos (X.env.qual ++ "<lambda>") params body scope X.env.cells) rf):=mr (qh D hd hf) qQ
  have hyf : (y,NameKind.free) ∈ scope.names:=names.2.2.1
  obtain ⟨ps,hP,_⟩:=id tab
  have nlP : l ≠ P:=fun z=>by rw [z,hP] at hl; cases hl
  refine thn (hPK pos pins s1 σ H1 (fun zs H2=>∃ (cl : List (Str × Addr)) (qa : Addr),zs = [.ref qa]∧(∀ x c,cl.lookup x = some c→X.env.cells.lookup x = some c)∧(∃ c,cl.lookup y = some c)∧SameT P H1 H2∧TabOk H2 P lpos (X.env.qual ++ "<lambda>")∧gL H2 qa (X.env.qual ++ "<lambda>") params body scope cl) I1 ⟨tab,fun cl qa H2 c1 c2 sT t2 la=>⟨cl,qa,rfl,c1,c2 y hyf,sT,t2,la⟩⟩) fun ws s2 hm0=>?_
  obtain ⟨zs,H2,I2,r2,cl,qa,rfl,c1,hcl,sT,t2,la⟩:=hm0
  rw [h5]
  obtain ⟨u,rfl,ru⟩:=de r1
  cases ru
  obtain ⟨u2,rfl,ru2⟩:=de r2
  cases ru2
  refine oF kf (I2.ok.hd hcalm) (jL hr 2) I2 (SqL.of (sT _ _ nlP hl)) ne (fun i x' u H3 s3 pins' I3 sm hx ru=>?_) (fun i x' H' sm hx b=>q i x' H' hx b (sT.trans (SameT.of sm)) (t2.up sm))
  have la3 : gL H3 qa (X.env.qual ++ "<lambda>") params body scope cl:=by
    obtain ⟨pm,ctv,c,o,vs,t,a1,a2,a3⟩:=la
    exact ⟨pm,ctv,c,o,vs,t,sm _ _ a1,sm _ _ a2,a3⟩
  exact mG hr I3 la3 c1 kind co gen names hxy hcl hj hs hcell (fun pm cdv ctv=>hbind cl u pm cdv ctv) ru (fun cdv=>hb cl qa cdv s3 H3) (hk i x' H3 hx (sT.trans (SameT.of sm)))
end L2
namespace L2
open PySem PySem.W PySem.Calls PyProof.Rows
def uo : Value→Bool | .str _ _=>true | _=>false
def qo : Value→Bool | .int _ _=>true | _=>false
def rH : Value→Bool | .bool _=>true | _=>false
def jd : Value→Bool | .type "code"=>true | _=>false
def jI (K : Frag) : Option Addr:=match nsIn K mainGlobals "__builtins__" with
  | some (some (.ref bm))=>match K.lookup bm with
    | some ⟨.type "module",some d,.plain,_⟩=>if d = builtinsNs∧bm ≠ builtinsNs∧bm ≠ mainGlobals then some bm else none
    | _=>none
  | _=>none
def dz (K : Frag) (f : Addr) : Option Addr:=match K.lookup f,jI K with
  | some ⟨_,_,.func fd,_⟩,some bm=>match fd.code with
    | .ref c=>match K.lookup c with
      | some ⟨cl,_,.fields vs,_⟩=>match ((vs : Array Value)[11]? : Option Value) with
        | some (Value.ref P)=>if jd cl∧uo (vs.getD 18 .none)∧qo (vs.getD 7 .none)∧rH (vs.getD 9 .none)∧qo (vs.getD 10 .none)∧c ≠ P∧mainGlobals ≠ P∧bm ≠ P∧(K.lookup P).isNone then some P else none
        | _=>none
      | _=>none
    | _=>none
  | _,_=>none
def aJ (K : Frag) (x : Str) : Addr:=match nsIn K mainGlobals x with
  | some (some (.ref f))=>(dz K f).getD 0
  | _=>0
def gf (K : Frag) (mg : Str→Option Value) (x : Str) : Prop:=∃ f,mg x = some (.ref f)∧dz K f = some (aJ K x)
theorem nX {K : Frag} {bm : Addr} (e : jI K = some bm) : ∃ sl,nsIn K mainGlobals "__builtins__" = some (some (.ref bm))∧K.lookup bm = some ⟨.type "module",some builtinsNs,.plain,sl⟩∧bm ≠ builtinsNs∧bm ≠ mainGlobals:=by
  unfold jI at e
  split at e
  · rename_i b hb
    split at e
    · rename_i d sl hl
      split at e
      · rename_i h
        obtain ⟨h1,h2,h3⟩:=h
        injection e with e
        subst e; subst h1
        exact ⟨sl,hb,hl,h2,h3⟩
      · cases e
    · cases e
  · cases e
theorem jq {K : Frag} {f P : Addr} (e : dz K f = some P) : ∃ (oc : Value) (od : Option Addr) (fd : FuncData) (sl : Array (Option Value)) (c : Addr) (bm : Addr),K.lookup f = some ⟨oc,od,.func fd,sl⟩∧fd.code = .ref c∧jI K = some bm∧bm ≠ P∧mainGlobals ≠ P∧K.lookup P = none∧∀ h : Heap,K.In h→CodeHd h c P:=by
  unfold dz at e
  split at e
  · rename_i oc od fd sl bm hf hb
    split at e
    · rename_i c hc
      split at e
      · rename_i cl cd vs csl hk
        split at e
        · rename_i Q hQ
          split at e
          · rename_i hh
            obtain ⟨h0,h1,h2,h3,h4,h5,h6,h7,h8⟩:=hh
            injection e with e
            subst e
            refine ⟨oc,od,fd,sl,c,bm,hf,hc,hb,h7,h6,by simpa using h8,fun h X=>?_⟩
            have s1 : ∃ a b,vs.getD 18 .none = .str a b:=by
              cases z : vs.getD 18 .none <;> rw [z] at h1 <;> first | exact ⟨_,_,rfl⟩ | cases h1
            have s2 : ∃ a b,vs.getD 7 .none = .int a b:=by
              cases z : vs.getD 7 .none <;> rw [z] at h2 <;> first | exact ⟨_,_,rfl⟩ | cases h2
            have s3 : ∃ a,vs.getD 9 .none = .bool a:=by
              cases z : vs.getD 9 .none <;> rw [z] at h3 <;> first | exact ⟨_,rfl⟩ | cases h3
            have s4 : ∃ a b,vs.getD 10 .none = .int a b:=by
              cases z : vs.getD 10 .none <;> rw [z] at h4 <;> first | exact ⟨_,_,rfl⟩ | cases h4
            have s0 : cl = .type "code":=by
              unfold jd at h0
              split at h0
              · rfl
              · cases h0
            obtain ⟨f1,f2,e1⟩:=s1
            obtain ⟨g1,g2,e2⟩:=s2
            obtain ⟨i1,e3⟩:=s3
            obtain ⟨t1,t2,e4⟩:=s4
            exact ⟨_,vs,f1,f2,g1,g2,i1,t1,t2,X _ _ hk,s0,rfl,hQ,by rw [Array.getD_eq_getD_getElem?,hQ]; rfl,e1,e2,e3,e4,h5⟩
          · cases e
        · cases e
      · cases e
    · cases e
  · cases e
theorem rD {X : Cx} {f P : Addr} {oc : Value} {od : Option Addr} {fd : FuncData} {sl : Array (Option Value)} (ok : Mod X.K X.mg X.base) (hf : X.K.lookup f = some ⟨oc,od,.func fd,sl⟩) (hc : X.env.code = fd.code) (e : dz X.K f = some P) : LamDef X P:=by
  obtain ⟨oc',od',fd',sl',c,bm,h1,h2,h3,h4,h5,h6,h7⟩:=jq e
  rw [hf] at h1
  cases h1
  obtain ⟨msl,b1,b2,b3,b4⟩:=nX h3
  refine ⟨⟨c,hc.trans h2,fun h k=>h7 h (ok.kin.keeps k)⟩,fun h k=>⟨bm,_,mg_of ok.kin ok.glob b1,b3,b4,h4,k _ _ (ok.kin _ _ b2),rfl,rfl,rfl⟩,h5⟩
theorem Fun.okL {P : Program} {w : World} {K : Frag} {mg : Str→Option Value} {base : Heap} {x qual : Str} {st : Stmt} {f : Addr} {fd : FuncData} {N ps : List Str} {k : Nat} {sp : Sp} {T : Addr} (F : Fun K x qual st f fd) (hT : dz K f = some T) (S : FnScope N ps (ai st)) (len : ∀ vs H Q E,sp vs H Q E→vs.length = ps.length)
    (hbody : ∀ (cdv : Value) (A : Around) (outer : List Env) (s : Shared) (H : Hp) (vs : List V) (Q : VK) (E : XK),(Mod K mg base→LamDef (fN CX0 P w K mg base N qual (ai st) f cdv A outer s H E).nox T)→Room k (A.deeper (envOfC qual (ai st) s.heap.objs.size f cdv))→sp vs H Q E →
      ∃ t,(Mod K mg base→PSs (fN CX0 P w K mg base N qual (ai st) f cdv A outer s H E).nox (bu st) t)∧t { nx:=fun _ H'=>Q .non H',rt:=Q } (start N vs) H) : FnOk P w K mg base CX0 (k + 1) f fd ps sp:=by
  obtain ⟨oc,od,kV,doc,pm,an,cdv,ct,osl,rfl,lk,hcd⟩:=F.ex
  refine ow lk hcd S len fun A outer s H vs Q E hr hsp=>?_
  obtain ⟨t,h,q⟩:=hbody cdv A outer s H vs Q E (fun m=>rD (X:=(fN CX0 P w K mg base N qual (ai st) f cdv A outer s H E).nox) m lk rfl hT) hr hsp
  refine ⟨t,PSs.nox (fun pins s' σ H' D I hh=>h I.ok.mod pins s' σ H' D I hh),q⟩
def oh : Obj→Bool
  | ⟨.none,_,.fields _,_⟩=>true
  | _=>false
def partN (as : List Addr) (h : Heap) : Frag:=(jM as h).filter fun p=>!oh p.2
theorem lC {h : Heap} {as : List Addr} {a : Addr} {o : Obj} (e : (a,o) ∈ jM as h) : h.get? a = some o:=by
  unfold jM at e
  obtain ⟨b,_,hb⟩:=List.mem_filterMap.mp e
  obtain ⟨o',h1,h2⟩:=Option.map_eq_some_iff.mp hb
  cases h2
  exact h1
theorem qC {β : Type} {a : Addr} {b : β} : ∀ (l : List (Addr × β)),l.lookup a = some b→(a,b) ∈ l
  | [],h=>by cases h
  | (c,d) :: l,h=>by
    rw [List.lookup_cons] at h
    cases q : a == c with
    | true =>
      rw [q] at h
      have h : some d = some b:=h
      cases h
      rw [eq_of_beq q]
      exact List.mem_cons_self
    | false =>
      rw [q] at h
      exact List.mem_cons_of_mem _ (qC l h)
theorem partN_in (h : Heap) (as : List Addr) : (partN as h).In h:=fun a o e=>by
  have m : (a,o) ∈ (jM as h).filter fun p=>!oh p.2:=qC _ e
  exact lC (as:=as) (List.mem_filter.mp m).1
def qF (K : Frag) (h : Heap) (x : Str) : Bool:=match nsIn K mainGlobals x with
  | some (some (.ref f))=>match dz K f with
    | some P=>match h.get? P with
      | some ⟨.none,none,.fields ps,sl⟩=>ps.size == 0 && sl.size == 0
      | _=>false
    | none=>false
  | _=>false
theorem sj {K : Frag} {h : Heap} {x : Str} (e : qF K h x = true) : ∃ f,nsIn K mainGlobals x = some (some (.ref f))∧dz K f = some (aJ K x)∧h.get? (aJ K x) = some (tabObj #[]):=by
  unfold qF at e
  split at e
  · rename_i f hf
    split at e
    · rename_i P hP
      split at e
      · rename_i ps sl hg
        have ea : aJ K x = P:=by unfold aJ; rw [hf]; show (dz K f).getD 0 = P; rw [hP]; rfl
        rw [Bool.and_eq_true,beq_iff_eq,beq_iff_eq] at e
        have e1 : ps = #[]:=Array.eq_empty_of_size_eq_zero e.1
        have e2 : sl = #[]:=Array.eq_empty_of_size_eq_zero e.2
        subst e1 e2
        exact ⟨f,hf,by rw [ea]; exact hP,by rw [ea]; exact hg⟩
      · cases e
    · cases e
  · cases e
def TabsIn (xs : List Str) (K : Frag) (h : Heap) : Prop:=∀ x ∈ xs,∃ f,nsIn K mainGlobals x = some (some (.ref f))∧dz K f = some (aJ K x)∧h.get? (aJ K x) = some (tabObj #[])
theorem TabsIn.of {xs : List Str} {K : Frag} {h : Heap} (e : (xs.all fun x=>qF K h x) = true) : TabsIn xs K h:=fun x hx=>sj (List.all_eq_true.mp e x hx)
def my (xs : List Str) (K : Frag) (H : Hp) : Prop:=∀ x ∈ xs,H (aJ K x) = some (.tbl #[])
theorem nE {P : Program} {w : World} {K : Frag} {mg mb : Str→Option Value} {k : Nat} {fa a : Addr} {fd : FuncData} {x : Str} {sp : Sp} {s₁ : Shared} {vs : List Value} {ns : List Int} {xs : List Str}
    (KX : K.In s₁.heap) (hns : s₁.heap.Ns mainGlobals mg) (hb : s₁.heap.Ns builtinsNs mb) (hbb : ∀ x : Str,x ≠ "__name__"→mb x = bootBuiltins x) (hlim : s₁.heap.NoLimit) (hg : s₁.gens = #[]) (TI : TabsIn xs K s₁.heap)
    (ha : s₁.heap.get? a = some { cls:=.type "list",data:=.seq vs.toArray }) (hi : IntsAre vs ns) (hl : ns.length ≤ sizeLine) (hr : Room k callerA)
    (F : ∀ base : Heap,K.In base→base.Ns mainGlobals mg→FnOk P w K mg base CX0 k fa fd [x] sp) (hbind : ∀ (s : Shared) (u : Value),BindsTo s fd ⟨[u],[]⟩ [(x,u)])
    (hsp : ∀ H : Hp,my xs K H→SqL K H a (ns.map V.int)→sp [.ref a] H (fun v _=>v = .bl true) fun _ _ _=>False) :
    codeAny (model P w) callerA (.call (.ref fa) ⟨[.ref a],[]⟩) (fun r s'=>r = .ok (.ret (.bool true))∧OldK s₁.heap s'.heap∧s'.os = s₁.os∧AllBare s'.gens) s₁:=by
  have rv:=jb hi
  have lenV:=hi.length
  let isT : Addr→Prop:=fun b=>∃ y ∈ xs,aJ K y = b
  have tK : ∀ b,isT b→K.lookup b = none∧s₁.heap.get? b = some (tabObj #[])∧isCodeTable s₁.heap b:=fun b ⟨y,hy,e⟩=>by
    obtain ⟨f,h1,h2,h3⟩:=TI y hy
    obtain ⟨_,_,_,_,c,_,_,_,_,_,_,h4,h5⟩:=jq h2
    rw [e] at h3 h4 h5
    obtain ⟨o,cvs,_,_,_,_,_,_,_,g1,g2,g3,g4,_⟩:=h5 _ KX
    exact ⟨h4,h3,c,o,cvs,g1,g2,g3,g4⟩
  have naT : ¬ isT a:=fun z=>by
    have:=(tK a z).2.1
    rw [ha] at this; cases this
  have core : ∀ H : Hp,SqL K H a (ns.map V.int)→HOk P w H s₁.heap→(∀ b,isT b→H b = some (.tbl #[]))→(∀ b,H b ≠ none→isT b ∨ (b = a∧K.lookup a = none∧∃ o zs,H b = some (.frz o (.lst zs)))) →
      codeAny (model P w) callerA (.call (.ref fa) ⟨[.ref a],[]⟩) (fun r s'=>r = .ok (.ret (.bool true))∧OldK s₁.heap s'.heap∧s'.os = s₁.os∧AllBare s'.gens) s₁:=by
    intro H hS hok hT hA
    have base_of : ∀ {b : Addr} {o : Obj},s₁.heap.get? b = some o→H b = none→(jF s₁.heap H).get? b = some o:=fun e n=>qT e n
    have noA : ∀ {b : Addr} {o : Obj} {es : Array DictEntry} {ep : Nat},s₁.heap.get? b = some o→o.data = .dict es ep→H b = none:=fun {b o es ep} e d=>by
      cases q : H b with
      | none=>rfl
      | some u =>
        rcases hA b (by rw [q]; simp) with z | ⟨e',_⟩
        · rw [(tK b z).2.1] at e; cases e
          cases d
        · subst e'
          rw [ha] at e; cases e
          have d' : Data.seq vs.toArray _ = Data.dict es ep:=d
          cases d'
    have nsK : ∀ {b : Addr} {m : Str→Option Value},s₁.heap.Ns b m→(jF s₁.heap H).Ns b m:=fun {b m} ⟨o,es,ep,e,d,r⟩=>⟨o,es,ep,base_of e (noA e d),d,r⟩
    have hKb : K.In (jF s₁.heap H):=fun b o e=>base_of (KX b o e) (by
      cases q : H b with
      | none=>rfl
      | some u =>
        rcases hA b (by rw [q]; simp) with z | ⟨e',hK,_⟩
        · rw [(tK b z).1] at e; cases e
        · subst e'
          rw [hK] at e; cases e)
    have hM : Mod K mg (jF s₁.heap H):=⟨hKb,nsK hns,⟨mb,nsK hb,hbb⟩,let ⟨mc,h1,h2⟩:=hlim; ⟨mc,nsK h1,h2⟩⟩
    have e0 : Env0 P w K mg (jF s₁.heap H) callerA [] s₁ H:=⟨rfl,hM,fun b o e=>sJ e,Nat.le_of_eq (nL _ _),trivial,fun b hb=>absurd (show b ∈ ([] : List Addr) from hb) (by simp),hok,.of_eq hg⟩
    refine codeAny_mono ((F _ hKb (nsK hns)).run callerA [] s₁ H ⟨[.ref a],[]⟩ [.ref a] [.ref a] _ _ hr e0 (hbind s₁ (.ref a)) (.cons rfl .nil) (hsp H (fun y hy=>hT _ ⟨y,hy,rfl⟩) hS)) fun r s' h=>?_
    cases r with
    | error e=>exact h.elim
    | ok fl =>
      cases fl with
      | next=>exact False.elim h
      | brk=>exact False.elim h
      | cont=>exact False.elim h
      | ret u =>
        obtain ⟨v,H',os,bare,un,hok',r',q⟩:=h
        have q' : v = .bl true:=q
        subst q'
        obtain rfl : u = Value.bool true:=r'
        refine ⟨rfl,⟨fun b o e=>?_,fun b o e=>un.there b o e (by simp)⟩,os,bare⟩
        cases q : H b with
        | none=>exact .inl (un.keep b o e q (by intro z; exact absurd (show b ∈ ([] : List Addr) from z) (by simp)) (by simp))
        | some u =>
          rcases hA b (by rw [q]; simp) with z | ⟨e',_,ob,zs,z⟩
          · obtain ⟨_,t2,t3⟩:=tK b z
            rw [t2] at e
            cases e
            obtain ⟨more,e2⟩:=un.tbls b _ (hT b z)
            exact .inr (.inl ⟨t3,rfl,#[],more,rfl,hok' b _ e2⟩)
          · have z2:=un.frzs b ob _ z
            obtain ⟨e1,_⟩:=hok b _ z
            obtain ⟨e2,_⟩:=hok' b _ z2
            rw [e] at e1; cases e1
            exact .inl e2
  have hTok : ∀ (H : Hp) (b : Addr),isT b→H b = some (.tbl #[])→∀ u,H b = some u→ObjOk P w H s₁.heap b u:=fun H b z e u hu=>by
    rw [e] at hu; cases hu
    exact (tK b z).2.1
  cases hk : K.lookup a with
  | some o =>
    have e:=KX a o hk
    rw [ha] at e
    cases e
    refine core (fun b=>open Classical in if isT b then some (.tbl #[]) else none) (.inr ⟨_,vs.toArray,_,hk,rfl,rfl,rfl,by rw [List.size_toArray,lenV]; exact hl,by simpa using rv⟩) (fun b u z=>?_) (fun b z=>if_pos z) fun b z=>?_
    · by_cases c : isT b
      · exact hTok _ b c (if_pos c) u z
      · have z':=(if_neg c).symm.trans z
        cases z'
    · by_cases c : isT b
      · exact .inl c
      · exact absurd (if_neg c) z
  | none =>
    refine core (fun b=>open Classical in if isT b then some (.tbl #[]) else if b = a then some (.frz { cls:=.type "list",data:=.seq vs.toArray } (.lst (ns.map V.int))) else none) (.inl (.inr ⟨{ cls:=.type "list",data:=.seq vs.toArray },(if_neg naT).trans (if_pos rfl)⟩)) (fun b u z=>?_) (fun b z=>if_pos z) fun b z=>?_
    · by_cases c : isT b
      · exact hTok _ b c (if_pos c) u z
      · by_cases hb : b = a
        · have z':=((if_neg c).trans (if_pos hb)).symm.trans z
          cases z'
          subst hb
          exact ⟨ha,by rw [List.length_map]; exact hl,vs,_,rv,ha⟩
        · have z':=((if_neg c).trans (if_neg hb)).symm.trans z
          cases z'
    · by_cases c : isT b
      · exact .inl c
      · by_cases hb : b = a
        · exact .inr ⟨hb,hk,_,_,(if_neg c).trans (if_pos hb)⟩
        · exact absurd ((if_neg c).trans (if_neg hb)) z
theorem walk_exT {l : OpenLaw} {n k : Nat} {q : Program} {loose : List Str} {XP : (Str→Option Value)→Heap→Prop} {d : DefRec} {Fc : World→Frag→Prop} {sp : Frag→Sp} {x nm : Str} {xs : List Str}
    (hn : l.most = some n) (hn2 : n ≤ sizeLine) (hdf : d.params.defaults = []) (hr : Room k callerA) (hnm : d.name = nm)
    (F : ∀ (w : World) (K : Frag) (mg : Str→Option Value) (fa : Addr) (h : Heap),Fc w K→K.In h→TabsIn xs K h→h.Ns mainGlobals mg→mg nm = some (.ref fa) →
      ∃ fd : FuncData,(∀ (s : Shared) (u : Value),BindsTo s fd ⟨[u],[]⟩ [(x,u)])∧∀ base : Heap,K.In base→base.Ns mainGlobals mg→FnOk l.prog w K mg base CX0 k fa fd [x] (sp K))
    (hsp : ∀ (K : Frag) (H : Hp) (a : Addr) (ns : List Int),ns.length ≤ n→my xs K H→SqL K H a (ns.map V.int)→sp K [.ref a] H (fun v _=>v = .bl true) fun _ _ _=>False) :
    WalkO q loose XP (fun w h=>∃ K : Frag,K.In h∧Fc w K∧TabsIn xs K h) l.row.toRowW d [] (fun f vs=>PySem.call f vs):=by
  refine Att.attach_call hn hdf fun w s₀ s₁ mg mb fa o pm cd doc a vs ns G Y ho hd hcd hmg hobj hints hlen hg=>?_
  obtain ⟨K,KX,fc,ti⟩:=Y
  rw [hnm] at hmg
  obtain ⟨fd,hb,hF⟩:=F w K mg fa _ fc KX ti G.T.g hmg
  exact nE KX G.T.g G.T.b G.T.builtins G.T.nolimit hg ti hobj hints (Nat.le_trans hlen hn2) hr hF hb (fun H hT hS=>hsp K H a ns hlen hT hS)
theorem kS {xs : List Str} {K : Frag} {h : Heap} {mg : Str→Option Value} {x : Str} (X : K.In h) (G : h.Ns mainGlobals mg) (t : TabsIn xs K h) (hx : x ∈ xs) : gf K mg x:=by
  obtain ⟨f,h1,h2,_⟩:=t x hx
  exact ⟨f,mg_of X G h1,h2⟩
theorem TabsIn.keeps {xs : List Str} {K : Frag} {h h' : Heap} (t : TabsIn xs K h) (k : ∀ b o,h.get? b = some o→h'.get? b = some o) : TabsIn xs K h':=fun x hx=>by
  obtain ⟨f,h1,h2,h3⟩:=t x hx
  exact ⟨f,h1,h2,k _ _ h3⟩
theorem DefAt.okL {P : Program} {w : World} {K : Frag} {mg : Str→Option Value} {base : Heap} {x : Str} {st : Stmt} {N ps : List Str} {k : Nat} {sp : Sp} (D : DefAt K mg x st ps) (L : gf K mg x) (S : FnScope N ps (ai st)) (len : ∀ vs H Q E,sp vs H Q E→vs.length = ps.length)
    (hbody : ∀ (f : Addr) (cdv : Value) (A : Around) (outer : List Env) (s : Shared) (H : Hp) (vs : List V) (Q : VK) (E : XK),(Mod K mg base→LamDef (fN CX0 P w K mg base N x (ai st) f cdv A outer s H E).nox (aJ K x))→Room k (A.deeper (envOfC x (ai st) s.heap.objs.size f cdv))→sp vs H Q E →
      ∃ t,(Mod K mg base→PSs (fN CX0 P w K mg base N x (ai st) f cdv A outer s H E).nox (bu st) t)∧t { nx:=fun _ H'=>Q .non H',rt:=Q } (start N vs) H) : Dn P w K mg base x (k + 1) ps sp:=by
  obtain ⟨f,fd,F,hm,hb⟩:=D
  obtain ⟨f',hm',hl⟩:=L
  rw [hm] at hm'
  cases hm'
  exact ⟨f,fd,F.okL hl S len (hbody f),hm,F.kp,hb⟩
end L2
namespace L2
open PySem PySem.Spec PyProof.Rows
abbrev bM (h : Heap) (T : Addr) (a b c : Value) : Prop:=h.get? T = some { cls:=.type "tuple",data:=.seq #[a,b,c] }
def gy (c z TO i1 i2 i3 : Addr) : Prop:=c ≠ z∧c ≠ TO∧c ≠ i1∧c ≠ i2∧c ≠ i3
structure Ap3 (z TI TO i1 i2 i3 l1 l2 l3 : Addr) : Prop where
  TOz : TO ≠ z
  i1z : i1 ≠ z
  i2z : i2 ≠ z
  i3z : i3 ≠ z
  TO1 : TO ≠ i1
  TO2 : TO ≠ i2
  TO3 : TO ≠ i3
  i12 : i1 ≠ i2
  i13 : i1 ≠ i3
  i23 : i2 ≠ i3
  TI : gy TI z TO i1 i2 i3
  l1 : gy l1 z TO i1 i2 i3
  l2 : gy l2 z TO i1 i2 i3
  l3 : gy l3 z TO i1 i2 i3
section
variable {P : Program} {w : World} {A : Around} {E : Value→Shared→Prop} {s : Shared}
theorem e7 {T : Addr} {a b c x : Value} {k : Nat} {Q : Unit→Shared→Prop} (hT : bM s.heap T a b c)
    (h : ∀ h',h'.get? T = some { cls:=.type "tuple",data:=.seq ((#[a,b,c] : Array Value).setIfInBounds k x) }→Heap.SameBut T s.heap h'→Q () { s with heap:=h' }) :
    wpAny (model P w) A (updateSeq T (·.setIfInBounds k x)) Q E s:=by
  refine wpAny_updateSeq hT rfl (h _ ?_ (Heap.SameBut.update ..))
  rw [Heap.get?_update_self _ hT rfl]
  simp [Obj.mapSeq]
theorem nO {z TI TO i1 i2 i3 l1 l2 l3 : Addr} {k : Nat} {xs ys zs : Array Value} {x y u a b c : Value} {Q : Value→Shared→Prop} (D : Ap3 z TI TO i1 i2 i3 l1 l2 l3)
    (hz : IsZip s.heap z TI TO .none) (hTI : bM s.heap TI (.ref i1) (.ref i2) (.ref i3)) (hTO : bM s.heap TO a b c)
    (h1 : s.heap.IsListIter i1 l1 k) (h2 : s.heap.IsListIter i2 l2 k) (h3 : s.heap.IsListIter i3 l3 k) (hl1 : s.heap.IsList l1 xs) (hl2 : s.heap.IsList l2 ys) (hl3 : s.heap.IsList l3 zs) (hx : xs[k]? = some x) (hy : ys[k]? = some y) (hu : zs[k]? = some u)
    (hQ : ∀ h',IsZip h' z TI TO (rawInt s.heap.objs.size)→bM h' TO x y u→h'.IsListIter i1 l1 (k + 1)→h'.IsListIter i2 l2 (k + 1)→h'.IsListIter i3 l3 (k + 1)→bM h' s.heap.objs.size x y u→h'.objs.size = s.heap.objs.size + 1 →
      (∀ c o,gy c z TO i1 i2 i3→s.heap.get? c = some o→h'.get? c = some o)→Q (.ref s.heap.objs.size) { s with heap:=h' }) :
    wpAny (model P w) A (Builtin.«zip.__next__» ⟨[.ref z],[]⟩) (fun fin s'=>∃ v,fin = .done (.ret v)∧Q v s') E s:=by
  show wpAny _ _ (field (.ref z) 2 >>= _) _ _ _
  refine wpAny_bind (wpAny_field hz rfl (x:=.bool false) rfl ?_)
  show wpAny _ _ (field (.ref z) 3 >>= _) _ _ _
  refine wpAny_bind (wpAny_field hz rfl (x:=.ref TI) rfl ?_)
  refine wpAny_bind (wpAny_seqItems hTI rfl ?_)
  show wpAny _ _ (Builtin.SmallTypes.ownedTupleIsFree (.ref z) >>= _) _ _ _
  refine wpAny_bind ?_
  unfold Builtin.SmallTypes.ownedTupleIsFree
  refine wpAny_bind (wpAny_field hz rfl (x:=.none) rfl (wpAny_pure ?_))
  simp only [if_true]
  refine wpAny_bind (wpAny_rule ?_)
  refine wpAny_bind (wpAny_field hz rfl (x:=.ref TO) rfl ?_)
  refine wpAny_bind (wpAny_setField_rec hz (by simp) fun g1 hz1 s1=>?_)
  replace hz1 : IsZip g1 z TI TO .ellipsis:=hz1
  refine wpAny_bind ?_
  simp only [List.zipIdx_cons,List.zipIdx_nil,List.forIn_cons,List.forIn_nil]
  have c1 : ∀ c o,gy c z TO i1 i2 i3→s.heap.get? c = some o→g1.get? c = some o:=fun c o cc e=>s1.extBut _ _ cc.1 e
  refine wpAny_bind (wpAny_bind (wpAny_onRaise ?_))
  show wpAny _ _ (Builtin.SmallTypes.nextOf (.ref i1) >>= _) _ _ _
  refine wpAny_bind (wpAny_nextOf_list_item (h1.extBut s1.extBut D.i1z) (hl1.extBut s1.extBut D.l1.1) hx fun g2 i1g2 s2=>wpAny_pure ?_)
  have to2 : bM g2 TO a b c:=s2.extBut _ _ D.TO1 (s1.extBut _ _ D.TOz hTO)
  refine wpAny_bind (wpAny_seqItems to2 rfl ?_)
  refine wpAny_bind (e7 to2 fun g3 to3 s3=>?_)
  replace to3 : bM g3 TO x b c:=to3
  refine wpAny_bind (wpAny_letGo (wpAny_pure ?_))
  have c3 : ∀ c o,gy c z TO i1 i2 i3→s.heap.get? c = some o→g3.get? c = some o:=fun c o cc e=>s3.extBut _ _ cc.2.1 (s2.extBut _ _ cc.2.2.1 (c1 c o cc e))
  have i2g3 : g3.IsListIter i2 l2 k:=((h2.extBut s1.extBut D.i2z).extBut s2.extBut D.i12.symm).extBut s3.extBut D.TO2.symm
  have i3g3 : g3.IsListIter i3 l3 k:=((h3.extBut s1.extBut D.i3z).extBut s2.extBut D.i13.symm).extBut s3.extBut D.TO3.symm
  have i1g3 : g3.IsListIter i1 l1 (k + 1):=i1g2.extBut s3.extBut D.TO1.symm
  have z3 : IsZip g3 z TI TO .ellipsis:=s3.extBut _ _ D.TOz.symm (s2.extBut _ _ D.i1z.symm hz1)
  refine wpAny_bind (wpAny_bind (wpAny_onRaise ?_))
  show wpAny _ _ (Builtin.SmallTypes.nextOf (.ref i2) >>= _) _ _ _
  refine wpAny_bind (wpAny_nextOf_list_item i2g3 (hl2.at fun o e=>c3 _ o D.l2 e) hy fun g4 i2g4 s4=>wpAny_pure ?_)
  have to4 : bM g4 TO x b c:=s4.extBut _ _ D.TO2 to3
  refine wpAny_bind (wpAny_seqItems to4 rfl ?_)
  refine wpAny_bind (e7 to4 fun g5 to5 s5=>?_)
  replace to5 : bM g5 TO x y c:=to5
  refine wpAny_bind (wpAny_letGo (wpAny_pure ?_))
  have c5 : ∀ c o,gy c z TO i1 i2 i3→s.heap.get? c = some o→g5.get? c = some o:=fun c o cc e=>s5.extBut _ _ cc.2.1 (s4.extBut _ _ cc.2.2.2.1 (c3 c o cc e))
  have i3g5 : g5.IsListIter i3 l3 k:=(i3g3.extBut s4.extBut D.i23.symm).extBut s5.extBut D.TO3.symm
  have i1g5 : g5.IsListIter i1 l1 (k + 1):=(i1g3.extBut s4.extBut D.i12).extBut s5.extBut D.TO1.symm
  have i2g5 : g5.IsListIter i2 l2 (k + 1):=i2g4.extBut s5.extBut D.TO2.symm
  have z5 : IsZip g5 z TI TO .ellipsis:=s5.extBut _ _ D.TOz.symm (s4.extBut _ _ D.i2z.symm z3)
  refine wpAny_bind (wpAny_bind (wpAny_onRaise ?_))
  show wpAny _ _ (Builtin.SmallTypes.nextOf (.ref i3) >>= _) _ _ _
  refine wpAny_bind (wpAny_nextOf_list_item i3g5 (hl3.at fun o e=>c5 _ o D.l3 e) hu fun g6 i3g6 s6=>wpAny_pure ?_)
  have to6 : bM g6 TO x y c:=s6.extBut _ _ D.TO3 to5
  refine wpAny_bind (wpAny_seqItems to6 rfl ?_)
  refine wpAny_bind (e7 to6 fun g7 to7 s7=>?_)
  replace to7 : bM g7 TO x y u:=to7
  refine wpAny_bind (wpAny_letGo (wpAny_pure (wpAny_pure ?_)))
  have c7 : ∀ c o,gy c z TO i1 i2 i3→s.heap.get? c = some o→g7.get? c = some o:=fun c o cc e=>s7.extBut _ _ cc.2.1 (s6.extBut _ _ cc.2.2.2.2 (c5 c o cc e))
  have i1g7 : g7.IsListIter i1 l1 (k + 1):=(i1g5.extBut s6.extBut D.i13).extBut s7.extBut D.TO1.symm
  have i2g7 : g7.IsListIter i2 l2 (k + 1):=(i2g5.extBut s6.extBut D.i23).extBut s7.extBut D.TO2.symm
  have i3g7 : g7.IsListIter i3 l3 (k + 1):=i3g6.extBut s7.extBut D.TO3.symm
  have z7 : IsZip g7 z TI TO .ellipsis:=s7.extBut _ _ D.TOz.symm (s6.extBut _ _ D.i3z.symm z5)
  refine wpAny_bind (wpAny_seqItems to7 rfl ?_)
  refine wpAny_bind (wpAny_newTuple ?_)
  have hsz : g7.objs.size = s.heap.objs.size:=by rw [s7.1,s6.1,s5.1,s4.1,s3.1,s2.1,s1.1]
  have hzlt : z < g7.objs.size:=Heap.lt_size z7
  show wpAny _ _ (Builtin.SmallTypes.ownedTupleHandOut (.ref z) (.ref g7.objs.size) >>= _) _ _ _
  refine wpAny_bind ?_
  unfold Builtin.SmallTypes.ownedTupleHandOut
  have z8 : IsZip (g7.push { cls:=.type "tuple",data:=.seq #[x,y,u] }) z TI TO .ellipsis:=Heap.get?_push_of_some _ z7
  refine wpAny_bind (wpAny_setField_rec z8 (by simp) fun g9 z9 s9=>?_)
  replace z9 : IsZip g9 z TI TO (rawInt g7.objs.size):=z9
  refine wpAny_setField_rec z9 (by simp) fun g10 z10 s10=>?_
  replace z10 : IsZip g10 z TI TO (rawInt g7.objs.size):=z10
  have up : ∀ c o,c ≠ z→g7.get? c = some o→g10.get? c = some o:=fun c o c1 e=>s10.extBut _ _ c1 (s9.extBut _ _ c1 (Heap.get?_push_of_some _ e))
  have t10 : bM g10 g7.objs.size x y u:=s10.extBut _ _ (Nat.ne_of_gt hzlt) (s9.extBut _ _ (Nat.ne_of_gt hzlt) (Heap.get?_push_size _ rfl))
  have sz10 : g10.objs.size = g7.objs.size + 1:=by rw [s10.1,s9.1,Heap.size_push]
  rw [hsz] at z10 t10 sz10
  refine wpAny_pure ⟨_,rfl,?_⟩
  show Q (.ref g7.objs.size) _
  rw [hsz]
  exact hQ g10 z10 (up _ _ D.TOz to7) (i1g7.at fun o e=>up _ o D.i1z e) (i2g7.at fun o e=>up _ o D.i2z e) (i3g7.at fun o e=>up _ o D.i3z e) t10 sz10 fun c o cc e=>up c o cc.1 (c7 c o cc e)
theorem nS {z TI TO i1 i2 i3 l1 l2 l3 : Addr} {k : Nat} {xs ys zs : Array Value} {x y u a b c : Value} {Q : Option Value→Shared→Prop} (D : Ap3 z TI TO i1 i2 i3 l1 l2 l3)
    (hz : IsZip s.heap z TI TO .none) (hTI : bM s.heap TI (.ref i1) (.ref i2) (.ref i3)) (hTO : bM s.heap TO a b c)
    (h1 : s.heap.IsListIter i1 l1 k) (h2 : s.heap.IsListIter i2 l2 k) (h3 : s.heap.IsListIter i3 l3 k) (hl1 : s.heap.IsList l1 xs) (hl2 : s.heap.IsList l2 ys) (hl3 : s.heap.IsList l3 zs) (hx : xs[k]? = some x) (hy : ys[k]? = some y) (hu : zs[k]? = some u)
    (hQ : ∀ h',IsZip h' z TI TO (rawInt s.heap.objs.size)→bM h' TO x y u→h'.IsListIter i1 l1 (k + 1)→h'.IsListIter i2 l2 (k + 1)→h'.IsListIter i3 l3 (k + 1)→bM h' s.heap.objs.size x y u→h'.objs.size = s.heap.objs.size + 1 →
      (∀ c o,gy c z TO i1 i2 i3→s.heap.get? c = some o→h'.get? c = some o)→Q (some (.ref s.heap.objs.size)) { s with heap:=h' }) :
    wpAny (model P w) A (pyNext (.ref z)) Q E s:=by
  have hT : s.TypeIs (.ref z) "zip":=⟨_,hz,rfl⟩
  unfold pyNext
  exact wpAny_bind (wpAny_attempt (wpAny_callSpecial?_slot (name:=Str.ofString "__next__") hT F.slot_zip_next
    (wpAny_call_entry F.slot_zip_next hT F.entry_zip_next
      (nO D hz hTI hTO h1 h2 h3 hl1 hl2 hl3 hx hy hu fun h' a1 a2 a3 a4 a5 a6 a7 a8=>wpAny_pure (hQ h' a1 a2 a3 a4 a5 a6 a7 a8)) (F.args_zip_next_1 _))))
theorem nQ {z TI TO i1 i2 i3 l1 l2 l3 : Addr} {k : Nat} {xs : Array Value} {Q : Fin→Shared→Prop} (hh : A.handled = none) (D : Ap3 z TI TO i1 i2 i3 l1 l2 l3)
    (hz : IsZip s.heap z TI TO .none) (hTI : bM s.heap TI (.ref i1) (.ref i2) (.ref i3)) (h1 : s.heap.IsListIter i1 l1 k) (hl1 : s.heap.IsList l1 xs) (hx : xs[k]? = none)
    (hE : ∀ h' e,(∀ c o,gy c z TO i1 i2 i3→s.heap.get? c = some o→h'.get? c = some o)→(∃ o,h'.get? e = some o∧o.cls = .type "StopIteration")→E (.ref e) { s with heap:=h' }) :
    wpAny (model P w) A (Builtin.«zip.__next__» ⟨[.ref z],[]⟩) Q E s:=by
  show wpAny _ _ (field (.ref z) 2 >>= _) _ _ _
  refine wpAny_bind (wpAny_field hz rfl (x:=.bool false) rfl ?_)
  show wpAny _ _ (field (.ref z) 3 >>= _) _ _ _
  refine wpAny_bind (wpAny_field hz rfl (x:=.ref TI) rfl ?_)
  refine wpAny_bind (wpAny_seqItems hTI rfl ?_)
  show wpAny _ _ (Builtin.SmallTypes.ownedTupleIsFree (.ref z) >>= _) _ _ _
  refine wpAny_bind ?_
  unfold Builtin.SmallTypes.ownedTupleIsFree
  refine wpAny_bind (wpAny_field hz rfl (x:=.none) rfl (wpAny_pure ?_))
  simp only [if_true]
  refine wpAny_bind (wpAny_rule ?_)
  refine wpAny_bind (wpAny_field hz rfl (x:=.ref TO) rfl ?_)
  refine wpAny_bind (wpAny_setField_rec hz (by simp) fun g1 hz1 s1=>?_)
  replace hz1 : IsZip g1 z TI TO .ellipsis:=hz1
  refine wpAny_bind ?_
  simp only [List.zipIdx_cons,List.zipIdx_nil,List.forIn_cons,List.forIn_nil]
  refine wpAny_bind (wpAny_bind (wpAny_onRaise ?_))
  show wpAny _ _ (Builtin.SmallTypes.nextOf (.ref i1) >>= _) _ _ _
  refine wpAny_bind (wpAny_nextOf_list_end hh (h1.extBut s1.extBut D.i1z) (hl1.extBut s1.extBut D.l1.1) hx fun g2 e s2 he=>?_)
  obtain ⟨oe,hoe,hce⟩:=he
  have z2 : IsZip g2 z TI TO .ellipsis:=s2 _ _ D.i1z.symm hz1
  have hez : e ≠ z:=fun x=>by subst x; rw [z2] at hoe; cases hoe; simp at hce
  refine wpAny_setField_rec z2 (by simp) fun g3 _ s3=>hE g3 e (fun c o cc x=>s3.extBut _ _ cc.1 (s2 _ _ cc.2.2.1 (s1.extBut _ _ cc.1 x))) ⟨oe,s3.extBut _ _ hez hoe,hce⟩
theorem qB {z TI TO i1 i2 i3 l1 l2 l3 : Addr} {k : Nat} {xs : Array Value} {Q : Option Value→Shared→Prop} (hh : A.handled = none) (D : Ap3 z TI TO i1 i2 i3 l1 l2 l3)
    (hz : IsZip s.heap z TI TO .none) (hTI : bM s.heap TI (.ref i1) (.ref i2) (.ref i3)) (h1 : s.heap.IsListIter i1 l1 k) (hl1 : s.heap.IsList l1 xs) (hx : xs[k]? = none)
    (hQ : ∀ h',(∀ c o,gy c z TO i1 i2 i3→s.heap.get? c = some o→h'.get? c = some o)→Q none { s with heap:=h' }) : wpAny (model P w) A (pyNext (.ref z)) Q E s:=by
  have hT : s.TypeIs (.ref z) "zip":=⟨_,hz,rfl⟩
  unfold pyNext
  refine wpAny_bind (wpAny_attempt (wpAny_callSpecial?_slot (name:=Str.ofString "__next__") hT F.slot_zip_next
    (wpAny_call_entry F.slot_zip_next hT F.entry_zip_next (nQ hh D hz hTI h1 hl1 hx fun h' e hk he=>?_) (F.args_zip_next_1 _))))
  obtain ⟨o,ho,hc⟩:=he
  refine wpAny_bind (wpAny_isInstance (T := "StopIteration") (b:=true) ⟨o,ho,hc⟩ qz ?_)
  exact wpAny_pure (hQ _ hk)
end
theorem iV (a b c : Value) : checkTypeCall "zip" ⟨[a,b,c],[]⟩ = pure ():=by kernel_rfl
theorem jO (a b c : Value) : checkBuiltinCall "zip.__new__" ⟨[.type "zip",a,b,c],[]⟩ = pure ():=by kernel_rfl
theorem lh (a b c d : Value) : argsOk "object.__init__" ⟨[a,b,c,d],[]⟩:=by
  unfold argsOk; rw [signature?_of (id := "object.__init__") (n:=['_','_','t','i','n','i','_','_']) (o:=['t','c','e','j','b','o']) (by kernel_rfl) F.owner_object]; kernel_rfl
abbrev qx (h : Heap) (l1 : Addr) : Heap:=h.push { cls:=.type "list_iterator",data:=.fields #[.ref l1,.int 0 0] }
abbrev pi (h : Heap) (l1 l2 : Addr) : Heap:=(qx h l1).push { cls:=.type "list_iterator",data:=.fields #[.ref l2,.int 0 0] }
abbrev qD (h : Heap) (l1 l2 l3 : Addr) : Heap:=(pi h l1 l2).push { cls:=.type "list_iterator",data:=.fields #[.ref l3,.int 0 0] }
abbrev oN (h : Heap) (l1 l2 l3 : Addr) : Heap:=(qD h l1 l2 l3).push { cls:=.type "tuple",data:=.seq #[.ref h.objs.size,.ref (qx h l1).objs.size,.ref (pi h l1 l2).objs.size] }
abbrev pH (h : Heap) (l1 l2 l3 : Addr) : Heap:=(oN h l1 l2 l3).push { cls:=.type "tuple",data:=.seq #[.none,.none,.none] }
abbrev fF (h : Heap) (l1 l2 l3 : Addr) : Heap:=(pH h l1 l2 l3).push { cls:=.type "zip",data:=.fields #[.none,.bool false,.bool false,.ref (qD h l1 l2 l3).objs.size,.ref (oN h l1 l2 l3).objs.size] }
theorem lQ (l1 l2 l3 : Addr) (xs ys zs : Array Value) :
    Meets (Builtin.«zip.__new__» ⟨[.type "zip",.ref l1,.ref l2,.ref l3],[]⟩) (fun _ R s=>s.heap.IsList l1 xs∧s.heap.IsList l2 ys∧s.heap.IsList l3 zs ∧
      R (.ok (.ret (.ref (pH s.heap l1 l2 l3).objs.size))) { s with heap:=fF s.heap l1 l2 l3 }) :=
  .of_wp fun prog w A R s h=>by
    obtain ⟨hp,g,d,tk,os⟩:=s; obtain ⟨hl1,hl2,hl3,h⟩:=h
    have hsub:=so
    have hL1 : Heap.IsList (Shared.heap ⟨hp,g,d,tk,os⟩) l1 xs:=hl1
    have hL2 : Heap.IsList (Shared.heap ⟨hp.push { cls:=.type "list_iterator",data:=.fields #[.ref l1,.int 0 0] },g,d,tk,os⟩) l2 ys:=Heap.IsList.push hl2 _
    have hL3 : Heap.IsList (Shared.heap ⟨(hp.push { cls:=.type "list_iterator",data:=.fields #[.ref l1,.int 0 0] }).push { cls:=.type "list_iterator",data:=.fields #[.ref l2,.int 0 0] },g,d,tk,os⟩) l3 zs:=Heap.IsList.push (Heap.IsList.push hl3 _) _
    wp_walk using wpAny_pyIter_list hL1,wpAny_pyIter_list hL2,wpAny_pyIter_list hL3
    exact ⟨_,rfl,h⟩
section
variable {P : Program} {w : World} {A : Around} {E : Value→Shared→Prop} {s : Shared}
theorem nz {l1 l2 l3 : Addr} {xs ys zs : Array Value} {Q : Value→Shared→Prop} (hl1 : s.heap.IsList l1 xs) (hl2 : s.heap.IsList l2 ys) (hl3 : s.heap.IsList l3 zs)
    (h : ∀ h',IsZip h' (s.heap.objs.size + 5) (s.heap.objs.size + 3) (s.heap.objs.size + 4) .none→bM h' (s.heap.objs.size + 3) (.ref s.heap.objs.size) (.ref (s.heap.objs.size + 1)) (.ref (s.heap.objs.size + 2)) →
      bM h' (s.heap.objs.size + 4) .none .none .none→h'.IsListIter s.heap.objs.size l1 0→h'.IsListIter (s.heap.objs.size + 1) l2 0→h'.IsListIter (s.heap.objs.size + 2) l3 0→h'.objs.size = s.heap.objs.size + 6 →
      (∀ c o,s.heap.get? c = some o→h'.get? c = some o)→Q (.ref (s.heap.objs.size + 5)) { s with heap:=h' }) :
    wpAny (model P w) A (call (.type "zip") [.ref l1,.ref l2,.ref l3]) Q E s:=by
  refine callType_new F.called_zip (by decide) (iV _ _ _) (jO _ _ _) (fun obj=>lh obj _ _ _) F.entry_zip_new
    (lQ l1 l2 l3 xs ys zs) ⟨hl1,hl2,hl3,?_⟩
  have z1 : (qx s.heap l1).objs.size = s.heap.objs.size + 1:=Heap.size_push ..
  have z2 : (pi s.heap l1 l2).objs.size = s.heap.objs.size + 2:=by rw [Heap.size_push,z1]
  have z3 : (qD s.heap l1 l2 l3).objs.size = s.heap.objs.size + 3:=by rw [Heap.size_push,z2]
  have z4 : (oN s.heap l1 l2 l3).objs.size = s.heap.objs.size + 4:=by rw [Heap.size_push,z3]
  have z5 : (pH s.heap l1 l2 l3).objs.size = s.heap.objs.size + 5:=by rw [Heap.size_push,z4]
  have z6 : (fF s.heap l1 l2 l3).objs.size = s.heap.objs.size + 6:=by rw [Heap.size_push,z5]
  have p6 : ∀ c o,(pH s.heap l1 l2 l3).get? c = some o→(fF s.heap l1 l2 l3).get? c = some o:=fun c o e=>Heap.get?_push_of_some _ e
  have p5 : ∀ c o,(oN s.heap l1 l2 l3).get? c = some o→(fF s.heap l1 l2 l3).get? c = some o:=fun c o e=>p6 _ _ (Heap.get?_push_of_some _ e)
  have p4 : ∀ c o,(qD s.heap l1 l2 l3).get? c = some o→(fF s.heap l1 l2 l3).get? c = some o:=fun c o e=>p5 _ _ (Heap.get?_push_of_some _ e)
  have p3 : ∀ c o,(pi s.heap l1 l2).get? c = some o→(fF s.heap l1 l2 l3).get? c = some o:=fun c o e=>p4 _ _ (Heap.get?_push_of_some _ e)
  have p2 : ∀ c o,(qx s.heap l1).get? c = some o→(fF s.heap l1 l2 l3).get? c = some o:=fun c o e=>p3 _ _ (Heap.get?_push_of_some _ e)
  have p1 : ∀ c o,s.heap.get? c = some o→(fF s.heap l1 l2 l3).get? c = some o:=fun c o e=>p2 _ _ (Heap.get?_push_of_some _ e)
  have g6 : (fF s.heap l1 l2 l3).get? (pH s.heap l1 l2 l3).objs.size = some _:=Heap.get?_push_size _ rfl
  have g5 : (fF s.heap l1 l2 l3).get? (oN s.heap l1 l2 l3).objs.size = some _:=p6 _ _ (Heap.get?_push_size _ rfl)
  have g4 : (fF s.heap l1 l2 l3).get? (qD s.heap l1 l2 l3).objs.size = some _:=p5 _ _ (Heap.get?_push_size _ rfl)
  have g3 : (fF s.heap l1 l2 l3).get? (pi s.heap l1 l2).objs.size = some _:=p4 _ _ (Heap.get?_push_size _ rfl)
  have g2 : (fF s.heap l1 l2 l3).get? (qx s.heap l1).objs.size = some _:=p3 _ _ (Heap.get?_push_size _ rfl)
  have g1 : (fF s.heap l1 l2 l3).get? s.heap.objs.size = some _:=p2 _ _ (Heap.get?_push_size _ rfl)
  show _∧_
  rw [z3,z4,z5] at g6
  rw [z4] at g5
  rw [z1,z2,z3] at g4
  rw [z2] at g3
  rw [z1] at g2
  rw [z5]
  exact ⟨⟨_,g6,rfl⟩,h _ g6 g4 g5 ⟨_,g1,rfl,rfl⟩ ⟨_,g2,rfl,rfl⟩ ⟨_,g3,rfl,rfl⟩ z6 p1⟩
end
def oz (K : PySem.W.Frag) (a b d : Addr) : It :=
  ⟨fun i H=>∃ xs ys zs x y u,SqL K H a xs∧SqL K H b ys∧SqL K H d zs∧xs[i]? = some x∧ys[i]? = some y∧zs[i]? = some u,
   fun i H v H'=>∃ T x y u,v = .ref T∧H T = none∧(∀ xs,SqL K H a xs→xs[i]? = some x)∧(∀ ys,SqL K H b ys→ys[i]? = some y)∧(∀ zs,SqL K H d zs→zs[i]? = some u)∧H' = upd H T (.tup [x,y,u]),
   fun i H=>∃ xs,SqL K H a xs∧xs.length ≤ i⟩
structure ZTurn3 (a b d z TI TO i1 i2 i3 : Addr) (i : Nat) (h : Heap) : Prop where
  zz : IsZip h z TI TO .none
  ti : bM h TI (.ref i1) (.ref i2) (.ref i3)
  to : ∃ p q r,bM h TO p q r
  s1 : h.IsListIter i1 a i
  s2 : h.IsListIter i2 b i
  s3 : h.IsListIter i3 d i
theorem n8 {P : Program} {w : World} {K : PySem.W.Frag} {elts : List Expr} {k : Nat} {pos : Pos} (a b d z TI TO i1 i2 i3 : Addr) (ap : Ap3 z TI TO i1 i2 i3 a b d) : Turn P w K (.Tuple elts k pos) (oz K a b d) [z,TI,TO,i1,i2,i3] z (ZTurn3 a b d z TI TO i1 i2 i3) where
  mem:=by simp
  obj:=fun i h st c hc=>by
    obtain ⟨zz,ti,⟨p,q,r,to⟩,⟨o1,e1,c1,d1⟩,⟨o2,e2,c2,d2⟩,⟨o3,e3,c3,d3⟩⟩:=st
    simp only [List.mem_cons,List.not_mem_nil,or_false] at hc
    rcases hc with rfl | rfl | rfl | rfl | rfl | rfl
    · exact ⟨_,zz,fun v z=>by cases z⟩
    · exact ⟨_,ti,fun v z=>by cases z⟩
    · exact ⟨_,to,fun v z=>by cases z⟩
    · exact ⟨o1,e1,fun v z=>by rw [d1] at z; cases z⟩
    · exact ⟨o2,e2,fun v z=>by rw [d2] at z; cases z⟩
    · exact ⟨o3,e3,fun v z=>by rw [d3] at z; cases z⟩
  keep:=fun i h h' st k=>by
    obtain ⟨zz,ti,⟨p,q,r,to⟩,s1,s2,s3⟩:=st
    exact ⟨k z (by simp) _ zz,k TI (by simp) _ ti,⟨p,q,r,k TO (by simp) _ to⟩,s1.at fun o q=>k i1 (by simp) o q,s2.at fun o q=>k i2 (by simp) o q,s3.at fun o q=>k i3 (by simp) o q⟩
  item:=by
    intro X hP hw hK hc i pins s σ H E I hf st hg
    subst hP hw hK
    obtain ⟨xs,ys,zs,x,y,u,hq,hq2,hq3,hx,hy,hu⟩:=hg
    obtain ⟨its,rv,p,hz⟩:=I.list hq
    obtain ⟨its2,rv2,p2,hz2⟩:=I.list hq2
    obtain ⟨its3,rv3,p3,hz3⟩:=I.list hq3
    obtain ⟨u1,hu1,ru1⟩:=rv.get hx
    obtain ⟨u2,hu2,ru2⟩:=rv2.get hy
    obtain ⟨u3,hu3,ru3⟩:=rv3.get hu
    obtain ⟨zz,ti,⟨pp,qq,rr,to⟩,s1,s2,s3⟩:=st
    have lz : z < s.heap.objs.size:=Heap.lt_size zz
    refine nS ap zz ti to s1 s2 s3 p.isList p2.isList p3.isList (x:=u1) (y:=u2) (u:=u3) (by simpa using hu1) (by simpa using hu2) (by simpa using hu3) fun h' zo to' s1' s2' s3' ht hsz kp=>?_
    refine ⟨_,rfl,wpAny_letOwnedTupleGo_zip zo fun h2 zz2 sb=>?_⟩
    have I1 : Inv X pins σ H { s with heap:=h2 }:=I.turnedL (t':=s.toks) (ch:=[z,TI,TO,i1,i2,i3]) hf fun c o hc q=>by
      simp only [List.mem_cons,List.not_mem_nil,or_false,not_or] at hc
      exact (sb.2 c hc.1).trans (kp c o ⟨hc.1,hc.2.2.1,hc.2.2.2.1,hc.2.2.2.2.1,hc.2.2.2.2.2⟩ q)
    have hT : h2.get? s.heap.objs.size = some { cls:=.type "tuple",data:=.seq #[u1,u2,u3] }:=(sb.2 _ (Nat.ne_of_gt lz)).trans ht
    have hfr : H s.heap.objs.size = none:=I.hok.fresh (Nat.le_refl _)
    have I2:=I1.adopt (o:=.tup [x,y,u]) (I.fpOk (Nat.le_refl _) hfr) ⟨(by show 3 ≤ sizeLine; decide),[u1,u2,u3],.cons ru1 (.cons ru2 (.cons ru3 .nil)),⟨_,hT,rfl,_,rfl⟩⟩
    have hti : bM h2 TI (.ref i1) (.ref i2) (.ref i3):=(sb.2 TI ap.TI.1).trans (kp TI _ ap.TI ti)
    refine ⟨.ref s.heap.objs.size,_,I2,rfl,⟨_,x,y,u,rfl,hfr,(fun zs hzs=>by rw [I.list_inj hzs hq]; exact hx),(fun zs hzs=>by rw [I.list_inj hzs hq2]; exact hy),(fun zs hzs=>by rw [I.list_inj hzs hq3]; exact hu),rfl⟩,
      ⟨zz2,hti,⟨u1,u2,u3,(sb.2 TO ap.TOz).trans to'⟩,s1'.at fun o q=>(sb.2 i1 ap.i1z).trans q,s2'.at fun o q=>(sb.2 i2 ap.i2z).trans q,s3'.at fun o q=>(sb.2 i3 ap.i3z).trans q⟩,fun c hc=>?_⟩
    rw [ar (fun e=>?_)]
    · exact (hf c hc).1
    · subst e
      obtain ⟨o1,e1,_⟩:=s1
      obtain ⟨o2,e2,_⟩:=s2
      obtain ⟨o3,e3,_⟩:=s3
      simp only [List.mem_cons,List.not_mem_nil,or_false] at hc
      rcases hc with h | h | h | h | h | h
      · exact absurd h (Nat.ne_of_gt lz)
      · exact absurd h (Nat.ne_of_gt (Heap.lt_size ti))
      · exact absurd h (Nat.ne_of_gt (Heap.lt_size to))
      · exact absurd h (Nat.ne_of_gt (Heap.lt_size e1))
      · exact absurd h (Nat.ne_of_gt (Heap.lt_size e2))
      · exact absurd h (Nat.ne_of_gt (Heap.lt_size e3))
  done:=by
    intro X hP hw hK hc i pins s σ H E I hf st hg
    subst hP hw hK
    obtain ⟨xs,hq,hx⟩:=hg
    obtain ⟨its,rv,p,hz⟩:=I.list hq
    have hl:=rv.length
    obtain ⟨zz,ti,⟨pp,qq,rr,to⟩,s1,s2,s3⟩:=st
    refine qB (I.ok.hd hc) ap zz ti s1 p.isList ?_ fun h' kp=>⟨rfl,?_⟩
    · simp; (clear hc hf hz; omega)
    · exact I.turnedL (t':=s.toks) (ch:=[z,TI,TO,i1,i2,i3]) hf fun c o hc q=>by
        simp only [List.mem_cons,List.not_mem_nil,or_false,not_or] at hc
        exact kp c o ⟨hc.1,hc.2.2.1,hc.2.2.2.1,hc.2.2.2.2.1,hc.2.2.2.2.2⟩ q
  self:=fun _ _ _ _ _ st h=>wpAny_pyIter_zip st.zz h
theorem sN (n a b d : Nat) (la : a < n) (lb : b < n) (ld : d < n) : Ap3 (n + 5) (n + 3) (n + 4) n (n + 1) (n + 2) a b d:=by
  have ne : ∀ p q : Nat,p < q ∨ q < p→(p : Addr) ≠ q:=fun p q h e=>by have e : p = q:=e; omega
  constructor
  case TI=>exact ⟨ne _ _ (by omega),ne _ _ (by omega),ne _ _ (by omega),ne _ _ (by omega),ne _ _ (by omega)⟩
  case l1=>exact ⟨ne _ _ (by omega),ne _ _ (by omega),ne _ _ (by omega),ne _ _ (by omega),ne _ _ (by omega)⟩
  case l2=>exact ⟨ne _ _ (by omega),ne _ _ (by omega),ne _ _ (by omega),ne _ _ (by omega),ne _ _ (by omega)⟩
  case l3=>exact ⟨ne _ _ (by omega),ne _ _ (by omega),ne _ _ (by omega),ne _ _ (by omega),ne _ _ (by omega)⟩
  all_goals exact ne _ _ (by omega)
def uK (K : PySem.W.Frag) (ta : TA) : TI:=fun σ H R=>ta σ H fun vs H1=>∃ a b d,vs = [.ref a,.ref b,.ref d]∧(∃ xs,SqL K H1 a xs)∧(∃ ys,SqL K H1 b ys)∧(∃ zs,SqL K H1 d zs)∧R (oz K a b d) H1
theorem na {X : Cx} {K : PySem.W.Frag} {elts : List Expr} {k : Nat} {tpos : Pos} {l l2 l3 : Expr} {ta : TA} {p pos : Pos} (hK : X.K = K) (hg : Gl X "zip") (hm : X.mg "zip" = none) (ha : PA X [l,l2,l3] ta) (hs : starEach [l,l2,l3] X.env = (false,eval l X.env) :: starEach [l2,l3] X.env:=by rfl)
    (hs2 : (backTo pos (starEach [l2,l3] X.env)).any (·.1) = false:=by rfl) :
    PI X (.Tuple elts k tpos) (.Call (.Name "zip" p) [l,l2,l3] [] pos) (uK K ta):=by
  subst hK
  intro pins s σ H R I h
  refine Call_ (c6 I hg hm PyProof.Rows.boot_zip (PyProof.Rows.callWith_type1 (thn (ha pos pins s σ H _ I h) fun us s1 hm0=>?_) hs hs2))
  obtain ⟨vs,H1,I1,r1,q1⟩:=hm0
  obtain ⟨a,b,d,rfl,⟨xs,hq⟩,⟨ys,hq2⟩,⟨zs,hq3⟩,q⟩:=q1
  cases r1 with
  | cons ra rr =>
    cases ra
    cases rr with
    | cons rb rr =>
      cases rb
      obtain ⟨u,rfl,ru⟩:=de rr
      cases ru
      obtain ⟨its,rv,p,hz⟩:=I1.list hq
      obtain ⟨its2,rv2,p2,hz2⟩:=I1.list hq2
      obtain ⟨its3,rv3,p3,hz3⟩:=I1.list hq3
      have la : a < s1.heap.objs.size:=by obtain ⟨o,e,_⟩:=p.isList; exact Heap.lt_size e
      have lb : b < s1.heap.objs.size:=by obtain ⟨o,e,_⟩:=p2.isList; exact Heap.lt_size e
      have ld : d < s1.heap.objs.size:=by obtain ⟨o,e,_⟩:=p3.isList; exact Heap.lt_size e
      refine nz p.isList p2.isList p3.isList fun h' zz ti to i1 i2 i3 hsz kp=>?_
      refine wpAny_pyIter_zip zz ?_
      refine ⟨s1.heap.objs.size + 5,[s1.heap.objs.size + 5,s1.heap.objs.size + 3,s1.heap.objs.size + 4,s1.heap.objs.size,s1.heap.objs.size + 1,s1.heap.objs.size + 2],_,_,H1,rfl,I1.kept (t':=s1.toks) kp,n8 a b d _ _ _ _ _ _ (sN _ a b d la lb ld),⟨zz,ti,⟨_,_,_,to⟩,i1,i2,i3⟩,fun c hc=>?_,q⟩
      have hc' : s1.heap.objs.size ≤ c:=by
        simp only [List.mem_cons,List.not_mem_nil,or_false] at hc
        rcases hc with rfl | rfl | rfl | rfl | rfl | rfl
        · exact Nat.le_add_right _ _
        · exact Nat.le_add_right _ _
        · exact Nat.le_add_right _ _
        · exact Nat.le_refl _
        · exact Nat.le_add_right _ _
        · exact Nat.le_add_right _ _
      exact I1.fpOk hc' (I1.hok.fresh hc')
theorem li {K : PySem.W.Frag} {a b d : Addr} {xs ys zs : List V} {g : TG} {tb : TS} {D : Ends} {σ : St} {H : Hp} (hlen : xs.length = ys.length) (hlen2 : xs.length = zs.length) (Pv : Nat→St→Hp→Prop) (h0 : Pv 0 σ H) (hl : ∀ i σ H,i ≤ xs.length→Pv i σ H→SqL K H a xs∧SqL K H b ys∧SqL K H d zs)
    (hs : ∀ i x y z σ H T,xs[i]? = some x→ys[i]? = some y→zs[i]? = some z→Pv i σ H→H T = none→g (.ref T) σ (upd H T (.tup [x,y,z])) fun σ2 H2=>tb { D with nx:=Pv (i + 1),ct:=Pv (i + 1),bk:=D.nx } σ2 H2) (hd : ∀ σ H,Pv xs.length σ H→D.nx σ H) :
    ∃ W : Nat→Nat→St→Hp→Prop,(∃ m,W 0 m σ H)∧∀ i m σ H,W i m σ H →
      ((oz K a b d).stop i H∧D.nx σ H) ∨ ((oz K a b d).go i H∧∃ N : St→Hp→Prop,(∀ σ' H',N σ' H'→∃ m',m' < m∧W (i + 1) m' σ' H')∧∀ x H',(oz K a b d).yld i H x H'→g x σ H' fun σ2 H2=>tb { D with nx:=N,ct:=N,bk:=D.nx } σ2 H2):=by
  refine ⟨fun i m σ H=>m = xs.length - i∧i ≤ xs.length∧Pv i σ H,⟨xs.length,by simp,Nat.zero_le _,h0⟩,?_⟩
  rintro i m σ H ⟨rfl,hi,p⟩
  obtain ⟨q,q2,q3⟩:=hl i σ H hi p
  by_cases hlt : i < xs.length
  · refine .inr ⟨⟨xs,ys,zs,xs[i],ys[i]'(by omega),zs[i]'(by omega),q,q2,q3,by simp [hlt],by simp,by simp⟩,Pv (i + 1),fun σ' H' p'=>⟨xs.length - (i + 1),by (clear hlen hlen2 hl hs hd hi; omega),rfl,hlt,p'⟩,fun x H' y=>?_⟩
    obtain ⟨T,u,v,t,rfl,hT,e1,e2,e3,rfl⟩:=y
    exact hs i u v t σ _ T (e1 xs q) (e2 ys q2) (e3 zs q3) p hT
  · have e : i = xs.length:=by (clear hlen hlen2 hl hs hd; omega)
    subst e
    exact .inl ⟨⟨xs,q,Nat.le_refl _⟩,hd σ H p⟩
end L2
namespace Law
open PySem L2
def top (i : Nat) : Stmt:=PySem.Challenge.pw_rankgarth_k39_whole_ways_by_purses.main.body.getD i (.Pass ⟨0,0,0,0⟩)
abbrev cX : Stmt:=top 8
abbrev cU : Stmt:=top 9
abbrev ck : Stmt:=top 10
abbrev cg : Stmt:=top 11
abbrev aQ : Stmt:=top 14
abbrev bA : Stmt:=top 15
abbrev aY : Stmt:=top 16
abbrev bS : Stmt:=top 17
abbrev dF : Stmt:=top 18
abbrev ca : Stmt:=top 19
abbrev dN : Stmt:=top 20
abbrev bB : Stmt:=top 21
abbrev bO : Stmt:=top 22
abbrev bc : Stmt:=top 23
abbrev cn : Stmt:=top 25
abbrev a9 : Stmt:=top 27
abbrev cD : Stmt:=top 28
abbrev cE : Stmt:=top 29
abbrev bN : Stmt:=top 30
abbrev bT : Stmt:=top 31
abbrev ff : Stmt:=top 32
abbrev cW : Stmt:=top 33
abbrev bQ : Stmt:=top 34
abbrev bx : Stmt:=top 35
abbrev cC : Stmt:=top 37
abbrev bP : Stmt:=top 38
abbrev bH : Stmt:=top 39
abbrev aI : Stmt:=top 40
abbrev eE : Stmt:=top 42
abbrev cH : Stmt:=top 43
abbrev cT : Stmt:=top 44
abbrev da : Stmt:=top 45
abbrev dc : Stmt:=top 46
abbrev bU : Stmt:=top 47
abbrev bV : Stmt:=top 48
abbrev cY : Stmt:=top 49
abbrev bn : Stmt:=top 50
abbrev cG : Stmt:=top 51
abbrev fZ : Stmt:=top 52
structure Txt (mg : Str→Option Value) : Prop where
  b_abs : mg "abs" = none
  b_bool : mg "bool" = none
  b_dict : mg "dict" = none
  b_enumerate : mg "enumerate" = none
  b_int : mg "int" = none
  b_isinstance : mg "isinstance" = none
  b_len : mg "len" = none
  b_list : mg "list" = none
  b_max : mg "max" = none
  b_min : mg "min" = none
  b_range : mg "range" = none
  b_set : mg "set" = none
  b_sorted : mg "sorted" = none
  b_tuple : mg "tuple" = none
  b_zip : mg "zip" = none
  g_MOST_PURSE_PLACES : ∃ t,mg "MOST_PURSE_PLACES" = some (.int 16 t)
abbrev xRs : List Str:=["NoHand","NoWay","NoAmount","TooMany"]
abbrev xNs : List Str:=["NoAmount","NoHand","NoRule","NoWay","TooMany"]
theorem kR : FnScope ["value"] ["value"] (ai cX):=⟨rfl,rfl,rfl,by decide +kernel,rfl,by decide +kernel,by decide +kernel⟩
theorem kN : FnScope ["value","count"] ["value","count"] (ai cU):=⟨rfl,rfl,rfl,by decide +kernel,rfl,by decide +kernel,by decide +kernel⟩
theorem iH : FnScope ["hand"] ["hand"] (ai ck):=⟨rfl,rfl,rfl,by decide +kernel,rfl,by decide +kernel,by decide +kernel⟩
theorem iD : FnScope ["ways","count","way"] ["ways","count"] (ai cg):=⟨rfl,rfl,rfl,by decide +kernel,rfl,by decide +kernel,by decide +kernel⟩
theorem eW : FnScope ["ways","count","places"] ["ways","count"] (ai aQ):=⟨rfl,rfl,rfl,by decide +kernel,rfl,by decide +kernel,by decide +kernel⟩
theorem fL : FnScope ["ways","way"] ["ways"] (ai bA):=⟨rfl,rfl,rfl,by decide +kernel,rfl,by decide +kernel,by decide +kernel⟩
theorem eV : FnScope ["rows","row"] ["rows"] (ai aY):=⟨rfl,rfl,rfl,by decide +kernel,rfl,by decide +kernel,by decide +kernel⟩
theorem iQ : FnScope ["rows"] ["rows"] (ai bS):=⟨rfl,rfl,rfl,by decide +kernel,rfl,by decide +kernel,by decide +kernel⟩
theorem lx : FnScope ["purses","place","amount"] ["purses","place","amount"] (ai dF):=⟨rfl,rfl,rfl,by decide +kernel,rfl,by decide +kernel,by decide +kernel⟩
theorem iK : FnScope ["need"] ["need"] (ai ca):=⟨rfl,rfl,rfl,by decide +kernel,rfl,by decide +kernel,by decide +kernel⟩
theorem lL : FnScope ["need","other"] ["need","other"] (ai dN):=⟨rfl,rfl,rfl,by decide +kernel,rfl,by decide +kernel,by decide +kernel⟩
theorem gZ : FnScope ["ways","purses"] ["ways","purses"] (ai bB):=⟨rfl,rfl,rfl,by decide +kernel,rfl,by decide +kernel,by decide +kernel⟩
theorem iF : FnScope ["ways","purses"] ["ways","purses"] (ai bO):=⟨rfl,rfl,rfl,by decide +kernel,rfl,by decide +kernel,by decide +kernel⟩
theorem fH : FnScope ["game","count"] ["game"] (ai bc):=⟨rfl,rfl,rfl,by decide +kernel,rfl,by decide +kernel,by decide +kernel⟩
theorem iP : FnScope ["game","hand","rule","row","way"] ["game","hand","rule"] (ai cn):=⟨rfl,rfl,rfl,by decide +kernel,rfl,by decide +kernel,by decide +kernel⟩
theorem fW : FnScope ["game","rule","row","way"] ["game","rule"] (ai a9):=⟨rfl,rfl,rfl,by decide +kernel,rfl,by decide +kernel,by decide +kernel⟩
theorem jP : FnScope ["game","rule","left","row","way"] ["game","rule"] (ai cD):=⟨rfl,rfl,rfl,by decide +kernel,rfl,by decide +kernel,by decide +kernel⟩
theorem j4 : FnScope ["gains","ways","place","way","amount","purse"] ["gains","ways","place"] (ai cE):=⟨rfl,rfl,rfl,by decide +kernel,rfl,by decide +kernel,by decide +kernel⟩
theorem iL : FnScope ["left","start","gains","turn","place"] ["left","start"] (ai bN):=⟨rfl,rfl,rfl,by decide +kernel,rfl,by decide +kernel,by decide +kernel⟩
theorem iO : FnScope ["left","table","turn","place","ways","way","need"] ["left"] (ai bT):=⟨rfl,rfl,rfl,by decide +kernel,rfl,by decide +kernel,by decide +kernel⟩
theorem o6 : FnScope ["game","rule"] ["game","rule"] (ai ff):=⟨rfl,rfl,rfl,by decide +kernel,rfl,by decide +kernel,by decide +kernel⟩
theorem kz : FnScope ["game","rule","table","ways","row","way","most","own"] ["game","rule","table"] (ai cW):=⟨rfl,rfl,rfl,by decide +kernel,rfl,by decide +kernel,by decide +kernel⟩
theorem iI : FnScope ["game","rule","table","told","better"] ["game"] (ai bQ):=⟨rfl,rfl,rfl,by decide +kernel,rfl,by decide +kernel,by decide +kernel⟩
theorem fK : FnScope ["game","last","rule","table","ways","row","way","purse"] ["game"] (ai bx):=⟨rfl,rfl,rfl,by decide +kernel,rfl,by decide +kernel,by decide +kernel⟩
theorem jX : FnScope ["count","rank","amount","turn"] ["count","rank"] (ai cC):=⟨rfl,rfl,rfl,by decide +kernel,rfl,by decide +kernel,by decide +kernel⟩
theorem iM : FnScope ["game","count"] ["game"] (ai bP):=⟨rfl,rfl,rfl,by decide +kernel,rfl,by decide +kernel,by decide +kernel⟩
theorem gu : FnScope ["game","hand","amounts"] ["game","hand"] (ai bH):=⟨rfl,rfl,rfl,by decide +kernel,rfl,by decide +kernel,by decide +kernel⟩
theorem eU : FnScope ["game","by_hand","hands","ways","place","winner","own"] ["game"] (ai aI):=⟨rfl,rfl,rfl,by decide +kernel,rfl,by decide +kernel,by decide +kernel⟩
theorem nW : FnScope ["_law_script","_law_k","_law_mixed"] ["_law_script","_law_k"] (ai eE):=⟨rfl,rfl,rfl,by decide +kernel,rfl,by decide +kernel,by decide +kernel⟩
theorem jR : FnScope ["_law_found"] ["_law_found"] (ai cH):=⟨rfl,rfl,rfl,by decide +kernel,rfl,by decide +kernel,by decide +kernel⟩
theorem j9 : FnScope ["_law_script","_law_k","_law_many","_law_block","_law_most","_law_cell","_law_low","_law_size","_law_goals","_law_j","_law_by","_law_goal"] ["_law_script","_law_k","_law_many","_law_block","_law_most"] (ai cT):=⟨rfl,rfl,rfl,by decide +kernel,rfl,by decide +kernel,by decide +kernel⟩
theorem kC : FnScope ["_law_script","_law_k","_law_many","_law_cell"] ["_law_script","_law_k","_law_many"] (ai da):=⟨rfl,rfl,rfl,by decide +kernel,rfl,by decide +kernel,by decide +kernel⟩
theorem ke : FnScope ["_law_script","_law_top","_law_head","_law_many","_law_most","_law_block","_law_game_here","_law_k","_law_ways_here"] ["_law_script","_law_top"] (ai dc):=⟨rfl,rfl,rfl,by decide +kernel,rfl,by decide +kernel,by decide +kernel⟩
theorem iN : FnScope ["_law_game_here"] ["_law_game_here"] (ai bU):=⟨rfl,rfl,rfl,by decide +kernel,rfl,by decide +kernel,by decide +kernel⟩
theorem gO : FnScope ["_law_found","_law_game_here","_law_hand","_law_place","_law_row"] ["_law_found","_law_game_here"] (ai bV):=⟨rfl,rfl,rfl,by decide +kernel,rfl,by decide +kernel,by decide +kernel⟩
theorem lf : FnScope ["_law_game_here","_law_places","_law_left_here","_law_row","_law_place"] ["_law_game_here","_law_places"] (ai cY):=⟨rfl,rfl,rfl,by decide +kernel,rfl,by decide +kernel,by decide +kernel⟩
theorem fg : FnScope ["_law_game_here","_law_left_here","_law_start","_law_most","_law_seen","_law_waiting","_law_place"] ["_law_game_here","_law_left_here","_law_start"] (ai bn):=⟨rfl,rfl,rfl,by decide +kernel,rfl,by decide +kernel,by decide +kernel⟩
theorem jA : FnScope ["_law_found","_law_game_here","_law_won","_law_left_here","_law_start","_law_place"] ["_law_found","_law_game_here"] (ai cG):=⟨rfl,rfl,rfl,by decide +kernel,rfl,by decide +kernel,by decide +kernel⟩
theorem tT : FnScope ["_law_script","_law_game_here","_law_handed","_law_found","_law_won","_law_again"] ["_law_script"] (ai fZ):=⟨rfl,rfl,rfl,by decide +kernel,rfl,by decide +kernel,by decide +kernel⟩
section
variable {P : Program} {w : World} {K : PySem.W.Frag} {mg : Str→Option Value} {base : Heap}
def dY : Sp:=fun vs H Q _=>∃ z : Int,vs = [.int z]∧Q (.bl true) H
theorem pK (F : DefAt K mg "_law_whole" cH ["_law_found"]) (T : Txt mg) : Dn P w K mg base "_law_whole" 1 ["_law_found"] dY:=by
  have sc:=jR
  refine F.ok sc (fun vs H Q E h=>?_) (fun f cdv A outer s H vs Q E hr h=>?_)
  · obtain ⟨z,rfl,_⟩:=h; rfl
  obtain ⟨z,rfl,q⟩:=h
  refine ⟨_,(ah (aA (gI (au (fX (K:=K) rfl (T := "int")) rfl T.b_isinstance PyProof.Rows.boot_isinstance (aa (pv 0) (aa (dj (v:=.ty "int") rfl T.b_int PyProof.Rows.boot_int rfl) ac))) (jD (pD (au (fX (K:=K) rfl (T := "bool")) rfl T.b_isinstance PyProof.Rows.boot_isinstance (aa (pv 0) (aa (dj (v:=.ty "bool") rfl T.b_bool PyProof.Rows.boot_bool rfl) ac)))))))),?_⟩
  refine ⟨_,rfl,_,"int",_,rfl,rfl,dQ _,true,rfl,?_⟩
  refine dy ?_
  exact ⟨_,rfl,_,"int",_,rfl,rfl,fB,false,rfl,q⟩
theorem j7 (F : DefAt K mg "is_whole" cX ["value"]) (T : Txt mg) : Dn P w K mg base "is_whole" 1 ["value"] dY:=by
  have sc:=kR
  refine F.ok sc (fun vs H Q E h=>?_) (fun f cdv A outer s H vs Q E hr h=>?_)
  · obtain ⟨z,rfl,_⟩:=h; rfl
  obtain ⟨z,rfl,q⟩:=h
  refine ⟨_,(ah (aA (gI (au (fX (K:=K) rfl (T := "int")) rfl T.b_isinstance PyProof.Rows.boot_isinstance (aa (pv 0) (aa (dj (v:=.ty "int") rfl T.b_int PyProof.Rows.boot_int rfl) ac))) (jD (pD (au (fX (K:=K) rfl (T := "bool")) rfl T.b_isinstance PyProof.Rows.boot_isinstance (aa (pv 0) (aa (dj (v:=.ty "bool") rfl T.b_bool PyProof.Rows.boot_bool rfl) ac)))))))),?_⟩
  refine ⟨_,rfl,_,"int",_,rfl,rfl,dQ _,true,rfl,?_⟩
  refine dy ?_
  exact ⟨_,rfl,_,"int",_,rfl,rfl,fB,false,rfl,q⟩
def mU : Sp:=fun vs H Q _=>∃ z n : Int,vs = [.int z,.int n]∧Q (.bl (decide (0 ≤ z∧z < n))) H
theorem k6 (F : DefAt K mg "is_place" cU ["value","count"]) (T : Txt mg) (D_is_whole : Dn P w K mg base "is_whole" 1 ["value"] dY) : Dn P w K mg base "is_place" 2 ["value","count"] mU:=by
  have sc:=kN
  refine F.ok sc (fun vs H Q E h=>?_) (fun f cdv A outer s H vs Q E hr h=>?_)
  · obtain ⟨_,_,rfl,_⟩:=h; rfl
  obtain ⟨z,n,rfl,q⟩:=h
  refine ⟨_,(ah (aA (gI (aE D_is_whole hr (aa (pv 0) ac)) (jD (qI mz qP ad (pv 0) (pv 1)))))),?_⟩
  refine ⟨_,rfl,z,rfl,true,rfl,?_⟩
  refine dy ?_
  refine ⟨_,rfl,_,_,rfl,rfl,decide (0 ≤ z),rfl,?_⟩
  refine bf (fun c=>?_) (fun c=>?_)
  · have h0 : 0 ≤ z:=of_decide_eq_true c
    refine ⟨_,rfl,_,_,rfl,rfl,?_⟩
    show Q (V.bl (decide (z < n))) H
    have e : decide (z < n) = decide (0 ≤ z∧z < n):=by
      by_cases h : z < n
      · rw [decide_eq_true h,decide_eq_true ⟨h0,h⟩]
      · rw [decide_eq_false h,decide_eq_false fun k=>h k.2]
    rw [e]; exact q
  · have e : decide (0 ≤ z∧z < n) = false:=decide_eq_false fun k=>c (decide_eq_true k.1)
    rw [e] at q; exact q
def l9 (z : Int) : Prop:=z = 0 ∨ z = 1
def WG (n : Int) (ws : List Int) : Prop:=ws ≠ []∧∀ x ∈ ws,0 ≤ x∧x < n
def qm (K : PySem.W.Frag) : Sp:=fun vs H Q E=>∃ z : Int,vs = [.int z]∧(l9 z→∀ H',Same H H'→Q .non H')∧(¬ l9 z→∀ H',Same H H'→E (.ref (clK K "NoHand")) none H')
theorem iG (F : DefAt K mg "check_hand" ck ["hand"]) (T : Txt mg) (XC : XT K mg "GarthError" xRs xNs) (D_is_whole : Dn P w K mg base "is_whole" 1 ["value"] dY) : DnX P w K mg base "check_hand" 2 ["hand"] (qm K):=by
  have sc:=iH
  refine F.okX sc (fun vs H Q E h=>?_) (fun f cdv A outer s H vs Q E hr h=>?_)
  · obtain ⟨z,rfl,_⟩:=h; rfl
  obtain ⟨z,rfl,q1,q2⟩:=h
  refine ⟨_,(ah (aL (PW.pt (eH (cz (bJ (aE D_is_whole hr (aa (pv 0) ac)))) (cZ (ay (gM (K:=K) rfl) (pv 0) (br (aa ad (aa ad ac))) rfl))))
      (ah (dO eQ (XC.m "NoHand" (by decide)) (XC.exc "NoHand" (by decide)) (aa gQ ac)))
      az)),?_⟩
  refine ⟨_,rfl,z,rfl,_,rfl,?_⟩
  refine bp ?_
  refine ⟨_,rfl,(by show 2 ≤ sizeLine; decide),fun t ht=>?_⟩
  refine ⟨t,_,rfl,.inr (SqT.of ae),rfl,rfl,_,rfl,?_⟩
  show if (!inV (.int z) (([0,1] : List Int).map V.int)) = true then _ else _
  rw [er]
  refine bf (fun c=>?_) (fun c=>?_)
  · exact ⟨(by show 1 ≤ sizeLine; decide),q2 (fun k=>by simp at c; rcases k with k | k <;> omega) _ (ag ht _)⟩
  · refine q1 ?_ _ (ag ht _)
    have h : ¬ z = 0→z = 1:=by simpa using c
    by_cases e : z = 0
    · exact .inl e
    · exact .inr (h e)
def fY (K : PySem.W.Frag) : Sp:=fun vs H Q E=>∃ (wa : Addr) (ws : List Int) (n : Int),vs = [.ref wa,.int n]∧H wa = some (.lst (ws.map V.int))∧(WG n ws→Q .non H)∧(¬ WG n ws→E (.ref (clK K "NoWay")) none H)
theorem iR (F : DefAt K mg "check_ways" cg ["ways","count"]) (T : Txt mg) (XC : XT K mg "GarthError" xRs xNs) (D_is_place : Dn P w K mg base "is_place" 2 ["value","count"] mU) : DnX P w K mg base "check_ways" 3 ["ways","count"] (fY K):=by
  have sc:=iD
  refine F.okX sc (fun vs H Q E h=>?_) (fun f cdv A outer s H vs Q E hr h=>?_)
  · obtain ⟨_,_,_,rfl,_⟩:=h; rfl
  obtain ⟨wa,ws,n,rfl,hw,q1,q2⟩:=h
  refine ⟨_,(af (aL (ay cN (au (bI (K:=K) rfl) rfl T.b_len PySem.boot_len (aa (pv 0) ac)) ad (aD _))
      (ah (dO eQ (XC.m "NoWay" (by decide)) (XC.exc "NoWay" (by decide)) (aa gQ ac)))
      az)
      (ah (aZ PassesOwn.leaving rfl (bj (pv 0)) (av (i:=2) sc.nd rfl (Or.inl rfl))
      (ah (aL (cz (bJ (aE D_is_place hr (aa (pv 2) (aa (pv 1) ac)))))
      (ah (dO eQ (XC.m "NoWay" (by decide)) (XC.exc "NoWay" (by decide)) (aa gQ ac)))
      az))))),?_⟩
  have hl : (ws.map V.int).length = ws.length:=List.length_map _
  refine ⟨_,rfl,wa,_,rfl,.inl (SqL.of hw),rfl,_,rfl,?_⟩
  refine bf (fun c=>?_) (fun c=>?_)
  · have c':=of_decide_eq_true c
    have c2 : (((ws.map V.int).length : Nat) : Int) = 0:=by injection c'
    refine ⟨(by show 1 ≤ sizeLine; decide),q2 fun k=>k.1 (List.length_eq_zero_iff.mp (by omega))⟩
  have hne : ws ≠ []:=fun z=>c (by rw [z]; rfl)
  refine ⟨_,rfl,wa,rfl,⟨_,SqL.of hw⟩,dJ (K:=K) (a:=wa) (xs:=ws.map V.int) (fun i σ H2=>H2 = H∧(∃ y : Option V,σ = [some (.ref wa),some (.int n),y])∧∀ x ∈ ws.take i,0 ≤ x∧x < n) ⟨rfl,⟨_,rfl⟩,fun _ z=>by cases z⟩ (fun i σ H2 _ h=>?_) (fun i x σ H2 hi h=>?_) (fun σ H2 h=>?_)⟩
  · obtain ⟨rfl,_⟩:=h; exact SqL.of hw
  · obtain ⟨rfl,⟨y,rfl⟩,hk⟩:=h
    obtain ⟨z,hz,rfl⟩:=eP hi
    refine ⟨_,rfl,_,rfl,z,n,rfl,_,rfl,?_⟩
    refine bf (fun c=>?_) (fun c=>?_)
    · exact ⟨(by show 1 ≤ sizeLine; decide),q2 fun k=>by have:=k.2 z (List.mem_of_getElem? hz); simp [this] at c⟩
    · refine ⟨rfl,⟨_,rfl⟩,fun x hx=>?_⟩
      rcases (iU hz).mp hx with h | h
      · exact hk x h
      · rw [h]; simpa using c
  · obtain ⟨rfl,_,hk⟩:=h
    rw [List.length_map,List.take_length] at hk
    exact q1 ⟨hne,hk⟩
def uh (n : Nat) (w : Int × Int) : Prop:=0 ≤ w.1∧w.1 < n∧-(10 ^ 60) < w.2∧w.2 < 10 ^ 60
def jG (n : Nat) (r : eT) : Prop:=l9 r.1∧r.2 ≠ []∧(∀ w ∈ r.2,uh n w)∧r.2.Pairwise (fun a b=>a.1 < b.1)∧r.2.length ≤ 60
def ij (G : List eT) : Prop:=G.length ≤ 16∧∀ r ∈ G,jG G.length r
theorem jC {ts : List (Addr × Int × Int)} {i : Nat} {x : V} (h : (ts.map fun t=>V.ref t.1)[i]? = some x) : ∃ t,ts[i]? = some t∧x = .ref t.1:=by
  rw [List.getElem?_map] at h
  cases e : ts[i]? with
  | none=>rw [e] at h; cases h
  | some t=>rw [e] at h; cases h; exact ⟨t,rfl,rfl⟩
def tz (K : PySem.W.Frag) : Sp:=fun vs H Q _=>∃ (wa : Addr) (ts : List (Addr × Int × Int)) (n : Nat),vs = [.ref wa,.int ((n : Nat) : Int)]∧WaysAt H wa ts∧jG n (0,ts.map fun t=>t.2)∧∀ H',Same H H'→Q .non H'
theorem tF (F : DefAt K mg "check_purse_ways" aQ ["ways","count"]) (T : Txt mg) (XC : XT K mg "GarthError" xRs xNs) (D_check_ways : DnX P w K mg base "check_ways" 3 ["ways","count"] (fY K)) : DnX P w K mg base "check_purse_ways" 4 ["ways","count"] (tz K):=by
  have sc:=eW
  refine F.okX sc (fun vs H Q E h=>?_) (fun f cdv A outer s H vs Q E hr h=>?_)
  · obtain ⟨_,_,_,rfl,_⟩:=h; rfl
  obtain ⟨wa,ts,n,rfl,hw,hok,q⟩:=h
  obtain ⟨_,hne,hin,hpw,h60⟩:=hok
  have hl : (ts.map fun t=>V.ref t.1).length = ts.length:=List.length_map _
  have h60' : ts.length ≤ 60:=by simpa using h60
  have hin' : ∀ x : Int,x ∈ ts.map (fun t=>t.2.1)→0 ≤ x∧x < n:=fun x hx=>by
    obtain ⟨t,ht,rfl⟩:=List.mem_map.mp hx
    have:=hin t.2 (List.mem_map.mpr ⟨t,ht,rfl⟩)
    exact ⟨this.1,this.2.1⟩
  have hnd : (ts.map fun t=>t.2.1).Nodup:=by
    have : (ts.map fun t=>t.2.1).Pairwise (· < ·):=by
      rw [List.pairwise_map]
      have h2 : (ts.map fun t=>t.2).Pairwise (fun a b=>a.1 < b.1):=hpw
      rwa [List.pairwise_map] at h2
    exact this.imp fun h=>by omega
  refine ⟨_,(af (mt (i:=2) (ai aQ) ["ways","count","places"] ["way"] 1 [] sc.nd rfl rfl (bj (pv 0)) (fun _ _ _ _ _ _=>(db (show List.Nodup (["way"] : List Str) by decide +kernel) rfl rfl)) (fun _ _ _ _ _ _=>bE) (fun _ _ _ _ _ _=>(al (ixT (K:=K) rfl) (pv 0) ad (fun _ _=>rfl))))
      (af (aM (cr fw D_check_ways hr (aa (pv 2) (aa (pv 1) ac))))
      (ah (aL (ay qP (lq (K:=K) rfl rfl rfl T.b_len rfl T.b_set (aa (pv 2) ac)) (au (bI (K:=K) rfl) rfl T.b_len PySem.boot_len (aa (pv 2) ac)) (aD _))
      (ah (dO eQ (XC.m "NoWay" (by decide)) (XC.exc "NoWay" (by decide)) (aa gQ ac)))
      az)))),?_⟩
  refine ⟨_,rfl,wa,rfl,⟨_,SqL.of hw.1⟩,aP (K:=K) (a:=wa) (xs:=ts.map fun t=>V.ref t.1) (fun i ys H3=>H3 = H∧ys = ((ts.take i).map fun t=>t.2.1).map V.int) ⟨rfl,rfl⟩ (bW (m:=1000) (by omega)) (fun i ys H3 hi h=>?_) (fun i x ys H3 hi h=>?_) (fun ys H3 h p hp=>?_)⟩
  · obtain ⟨rfl,rfl⟩:=h
    exact ⟨SqL.of hw.1,by simp; omega⟩
  · obtain ⟨rfl,rfl⟩:=h
    obtain ⟨t,ht,rfl⟩:=jC hi
    refine cV ?_
    refine ⟨_,rfl,t.1,_,_,_,rfl,rfl,SqT.of (hw.2 t (List.mem_of_getElem? ht)),aj (j:=0) rfl,rfl,?_⟩
    rw [List.take_add_one,ht,List.map_append,List.map_append]; rfl
  obtain ⟨rfl,rfl⟩:=h
  rw [hl,List.take_length]
  have sp:=ag hp (.lst ((ts.map fun t=>t.2.1).map V.int))
  refine ⟨_,rfl,_,rfl,p,_,n,rfl,ae,fun _=>?_,fun z=>absurd ⟨fun z2=>hne (by simpa using z2),hin'⟩ z⟩
  refine ⟨_,rfl,p,_,rfl,SqL.of ae,by simp; omega,fun ns hn hmem=>?_⟩
  refine ⟨_,rfl,p,_,rfl,.inl (SqL.of ae),_,_,rfl,rfl,_,rfl,?_⟩
  refine bf (fun c=>?_) (fun c=>?_)
  · exfalso
    have c':=of_decide_eq_true c
    have:=dG (ts.map fun t=>t.2.1) ns hnd fun k hk=>(hmem k).mpr hk
    rw [List.length_map] at c'
    omega
  · exact q _ sp
def ve (K : PySem.W.Frag) : Sp:=fun vs H Q _=>∃ (wa : Addr) (ts : List (Addr × Int × Int)) (n : Nat),vs = [.ref wa]∧WaysAt H wa ts∧jG n (0,ts.map fun t=>t.2)∧Q .non H
theorem uR (F : DefAt K mg "check_amounts" bA ["ways"]) (T : Txt mg) (XC : XT K mg "GarthError" xRs xNs) (D_is_whole : Dn P w K mg base "is_whole" 1 ["value"] dY) : DnX P w K mg base "check_amounts" 2 ["ways"] (ve K):=by
  have sc:=fL
  refine F.okX sc (fun vs H Q E h=>?_) (fun f cdv A outer s H vs Q E hr h=>?_)
  · obtain ⟨_,_,_,rfl,_⟩:=h; rfl
  obtain ⟨wa,ts,n,rfl,hw,hok,q⟩:=h
  obtain ⟨_,hne,hin,hpw,h60⟩:=hok
  refine ⟨_,(ah (aZ PassesOwn.leaving rfl (bj (pv 0)) (av (i:=1) sc.nd rfl (Or.inl rfl))
      (ah (aL (PW.pt (eH (cz (bJ (aE D_is_whole hr (aa (al (ixT (K:=K) rfl) (pv 1) ad (fun _ _=>rfl)) ac)))) (cZ (ay oB (au nK rfl T.b_abs PyProof.Rows.boot_abs (aa (al (ixT (K:=K) rfl) (pv 1) ad (fun _ _=>rfl)) ac)) (ao tS ad ad) (aD _)))))
      (ah (dO eQ (XC.m "NoAmount" (by decide)) (XC.exc "NoAmount" (by decide)) (aa gQ ac)))
      az)))),?_⟩
  refine ⟨_,rfl,wa,rfl,⟨_,SqL.of hw.1⟩,dJ (K:=K) (a:=wa) (xs:=ts.map fun t=>V.ref t.1) (fun i σ H2=>H2 = H∧∃ y : Option V,σ = [some (.ref wa),y]) ⟨rfl,_,rfl⟩ (fun i σ H2 _ h=>?_) (fun i x σ H2 hi h=>?_) (fun σ H2 h=>?_)⟩
  · obtain ⟨rfl,_⟩:=h; exact SqL.of hw.1
  · obtain ⟨rfl,y,rfl⟩:=h
    obtain ⟨t,ht,rfl⟩:=jC hi
    have htm:=List.mem_of_getElem? ht
    have hb:=hin t.2 (List.mem_map.mpr ⟨t,htm,rfl⟩)
    obtain ⟨_,_,b1,b2⟩:=hb
    refine ⟨_,rfl,t.1,_,_,_,rfl,rfl,SqT.of (hw.2 t htm),aj (j:=1) rfl,_,rfl,_,rfl,?_⟩
    refine bp ?_
    refine ⟨_,rfl,t.1,_,_,_,rfl,rfl,SqT.of (hw.2 t htm),aj (j:=1) rfl,_,rfl,_,_,rfl,rfl,⟨by decide,by decide,by decide⟩,_,_,rfl,rfl,_,rfl,?_⟩
    refine bf (fun c=>?_) (fun c=>?_)
    · exfalso
      have c' : (10 : Int) ^ (60 : Int).toNat ≤ (if t.2.2 < 0 then -t.2.2 else t.2.2):=of_decide_eq_true c
      have e : (10 : Int) ^ (60 : Int).toNat = 10 ^ 60:=rfl
      rw [e] at c'
      split at c' <;> omega
    · exact ⟨rfl,_,rfl⟩
  · obtain ⟨rfl,_⟩:=h
    exact q
def sW (K : PySem.W.Frag) : Sp:=fun vs H Q E=>∃ (v : V) (G : List eT),vs = [v]∧rPG H G v∧G.length ≤ 1000∧((16 < G.length∧∀ H',Same H H'→E (.ref (clK K "TooMany")) none H') ∨ (ij G∧∀ H',Same H H'→Q .non H'))
theorem ue (F : DefAt K mg "check_purse_rows" aY ["rows"]) (T : Txt mg) (XC : XT K mg "GarthError" xRs xNs) (D_check_hand : DnX P w K mg base "check_hand" 2 ["hand"] (qm K)) (D_check_purse_ways : DnX P w K mg base "check_purse_ways" 4 ["ways","count"] (tz K)) (D_check_amounts : DnX P w K mg base "check_amounts" 2 ["ways"] (ve K)) : DnX P w K mg base "check_purse_rows" 5 ["rows"] (sW K):=by
  have sc:=eV
  refine F.okX sc (fun vs H Q E h=>?_) (fun f cdv A outer s H vs Q E hr h=>?_)
  · obtain ⟨_,_,rfl,_⟩:=h; rfl
  obtain ⟨v,G,rfl,hG,h1000,q⟩:=h
  obtain ⟨g0,gv,rfl,hg0,hgl,hrow⟩:=kh hG
  refine ⟨_,(af (aL (ay ml (au (bI (K:=K) rfl) rfl T.b_len PySem.boot_len (aa (pv 0) ac)) (rp T.g_MOST_PURSE_PLACES) (aD _))
      (ah (dO eQ (XC.m "TooMany" (by decide)) (XC.exc "TooMany" (by decide)) (aa (sB (pG (tI T.g_MOST_PURSE_PLACES (pG tH)))) ac)))
      az)
      (ah (aZ PassesOwn.leaving rfl (bj (pv 0)) (av (i:=1) sc.nd rfl (Or.inl rfl))
      (af (aM (cr fw D_check_hand hr (aa (al (ixT (K:=K) rfl) (pv 1) ad (fun _ _=>rfl)) ac)))
      (af (aM (cr fw D_check_purse_ways hr (aa (al (ixT (K:=K) rfl) (pv 1) ad (fun _ _=>rfl)) (aa (au (bI (K:=K) rfl) rfl T.b_len PySem.boot_len (aa (pv 0) ac)) ac))))
      (ah (aM (cr fw D_check_amounts hr (aa (al (ixT (K:=K) rfl) (pv 1) ad (fun _ _=>rfl)) ac))))))))),?_⟩
  refine ⟨_,rfl,g0,_,rfl,.inl (SqL.of hg0),_,_,rfl,rfl,_,rfl,?_⟩
  refine bf (fun c=>?_) (fun c=>?_)
  · have : (16 : Int) < (gv.length : Nat):=of_decide_eq_true c
    rcases q with ⟨_,q⟩ | ⟨hg,_⟩
    · exact fun x=>⟨(by show 1 ≤ sizeLine; decide),q _ (Same.refl _)⟩
    · have:=hg.1; omega
  have h16 : ¬ (16 : Int) < (gv.length : Nat):=fun k=>c (decide_eq_true k)
  rcases q with ⟨h,_⟩ | ⟨hg,q⟩
  · omega
  refine ⟨_,rfl,g0,rfl,⟨_,SqL.of hg0⟩,dJ (K:=K) (a:=g0) (xs:=gv) (fun i σ H2=>Same H H2∧∃ y : Option V,σ = [some (.ref g0),y]) ⟨Same.refl _,_,rfl⟩ (fun i σ H2 _ h=>?_) (fun i x σ H2 hi h=>?_) (fun σ H2 h=>?_)⟩
  · exact SqL.of (h.1 _ _ hg0)
  · obtain ⟨s2,y,rfl⟩:=h
    have hil : i < G.length:=by have:=(List.getElem?_eq_some_iff.mp hi).1; omega
    obtain ⟨row,hrw⟩ : ∃ row,G[i]? = some row:=⟨G[i],by simp⟩
    obtain ⟨t,wa,ts,p1,p2,p3,p4⟩:=hrow i row hrw
    rw [hi] at p1; cases p1
    have hok:=hg.2 row (List.mem_of_getElem? hrw)
    have hok' : jG G.length (0,ts.map fun t=>t.2):=by rw [p4]; exact ⟨.inl rfl,hok.2⟩
    refine ⟨_,rfl,t,_,_,_,rfl,rfl,SqT.of (s2 _ _ p2),aj (j:=0) rfl,row.1,rfl,fun _ H3 s3=>?_,fun z=>absurd hok.1 z⟩
    have s23:=s2.trans s3
    refine ⟨_,rfl,t,_,_,_,rfl,rfl,SqT.of (s23 _ _ p2),aj (j:=1) rfl,_,rfl,g0,_,rfl,.inl (SqL.of (s23 _ _ hg0)),wa,ts,G.length,congrArg (fun z : Nat=>[V.ref wa,V.int (z : Int)]) hgl,p3.up s23,hok',fun H4 s4=>?_⟩
    have s24:=s23.trans s4
    refine ⟨_,rfl,t,_,_,_,rfl,rfl,SqT.of (s24 _ _ p2),aj (j:=1) rfl,wa,ts,G.length,rfl,p3.up s24,hok',?_⟩
    exact ⟨s24,_,rfl⟩
  · exact q _ h.1
def jH (K : PySem.W.Frag) : Sp:=fun vs H Q E=>∃ (v : V) (G : List eT),vs = [v]∧rPG H G v∧G.length ≤ 1000∧((16 < G.length∧∀ H',Same H H'→E (.ref (clK K "TooMany")) none H') ∨ (ij G∧∀ (g : Addr) (gv : List V) (H1 : Hp),Same H H1→H1 g = none→Paired (rPR (cQ H H1)) G gv→Q (.ref g) (upd H1 g (.lst gv))))
theorem qy (F : DefAt K mg "purse_game" bS ["rows"]) (T : Txt mg) (XC : XT K mg "GarthError" xRs xNs) (D_check_purse_rows : DnX P w K mg base "check_purse_rows" 5 ["rows"] (sW K)) : DnX P w K mg base "purse_game" 6 ["rows"] (jH K):=by
  have sc:=iQ
  refine F.okX sc (fun vs H Q E h=>?_) (fun f cdv A outer s H vs Q E hr h=>?_)
  · obtain ⟨_,_,rfl,_⟩:=h; rfl
  obtain ⟨v,G,rfl,hG,h1000,q⟩:=h
  obtain ⟨g0,gv,rfl,hg0,hgl,hrow⟩:=kh hG
  refine ⟨_,(af (aM (cr fw D_check_purse_rows hr (aa (pv 0) ac)))
      (ah (aA (kx (ai bS) ["rows"] ["row"] 1 [] (bj (pv 0)) (fun _ _ _ _ _ _=>(db (show List.Nodup (["row"] : List Str) by decide +kernel) rfl rfl)) (fun _ _ _ _ _ _=>bE) (fun _ _ _ _ _ _=>(br (aa (al (ixT (K:=K) rfl) (pv 0) ad (fun _ _=>rfl)) (aa (au (jY (K:=K) rfl) rfl T.b_sorted PyProof.Rows.boot_sorted (aa (by exact (gD  ["row"] ["way"] 1 [] (fD (al (ixT (K:=K) rfl) (pv 0) ad (fun _ _=>rfl))) (fun _ _ _ _ _ _=>(db (show List.Nodup (["way"] : List Str) by decide +kernel) rfl rfl)) (fun _ _ _ _ _ _=>bE) (fun _ _ _ _ _ _=>(br (aa (al (ixT (K:=K) rfl) (pv 0) ad (fun _ _=>rfl)) (aa (al (ixT (K:=K) rfl) (pv 0) ad (fun _ _=>rfl)) ac)))))) ac)) ac)))))))),?_⟩
  rcases q with ⟨h16,q⟩ | ⟨hg,q⟩
  · exact ⟨_,rfl,_,G,rfl,hG,h1000,.inl ⟨h16,q⟩⟩
  refine ⟨_,rfl,_,G,rfl,hG,h1000,.inr ⟨hg,fun H1 s1=>?_⟩⟩
  have h16:=hg.1
  refine ⟨_,rfl,g0,rfl,⟨_,SqL.of (s1 _ _ hg0)⟩,aP (K:=K) (a:=g0) (xs:=gv) (fun i ys H2=>Same H H2∧Paired (rPR (cQ H H2)) (G.take i) ys) ⟨s1,.nil⟩ (bW (m:=1000) (by omega)) (fun i ys H2 hi h=>?_) (fun i x ys H2 hi h=>?_) (fun ys H2 h p hp=>?_)⟩
  · exact ⟨SqL.of (h.1 _ _ hg0),by have:=h.2.length; rw [List.length_take] at this; omega⟩
  · obtain ⟨s2,pr⟩:=h
    have hil : i < G.length:=by have:=(List.getElem?_eq_some_iff.mp hi).1; omega
    obtain ⟨row,hrw⟩ : ∃ row,G[i]? = some row:=⟨G[i],by simp⟩
    obtain ⟨t,wa,ts,p1,p2,p3,p4⟩:=hrow i row hrw
    rw [hi] at p1; cases p1
    obtain ⟨_,hne,hin,hpw,h60⟩:=hg.2 row (List.mem_of_getElem? hrw)
    have htl : ts.length ≤ 60:=by rw [← p4,List.length_map] at h60; exact h60
    refine cV ?_
    refine ⟨_,rfl,t,_,_,_,rfl,rfl,SqT.of (s2 _ _ p2),aj (j:=0) rfl,_,rfl,t,_,_,_,rfl,rfl,SqT.of (s2 _ _ p2),aj (j:=1) rfl,wa,rfl,⟨_,SqL.of ((p3.up s2).1)⟩,aP (K:=K0) (a:=wa) (xs:=ts.map fun t=>V.ref t.1) (fun j zs H3=>∃ us : List (Addr × Int × Int),Same H2 H3∧zs = us.map (fun u=>V.ref u.1)∧us.map (fun u=>u.2) = (ts.take j).map (fun u=>u.2)∧∀ u ∈ us,cQ H2 H3 u.1 = some (.tup [.int u.2.1,.int u.2.2])) ⟨[],Same.refl _,rfl,rfl,fun _ z=>by cases z⟩ (bW (m:=1000) (by rw [List.length_map]; omega)) (fun j zs H3 hj h=>?_) (fun j x zs H3 hj h=>?_) (fun zs H3 h p hp=>?_)⟩
    · obtain ⟨us,s3,rfl,e2,_⟩:=h
      refine ⟨SqL.of ((p3.up (s2.trans s3)).1),?_⟩
      have:=congrArg List.length e2
      rw [List.length_map,List.length_map,List.length_take] at this
      rw [List.length_map]; omega
    · obtain ⟨us,s3,rfl,e2,e3⟩:=h
      obtain ⟨u,hu,rfl⟩:=jC hj
      have hut:=(p3.up (s2.trans s3)).2 u (List.mem_of_getElem? hu)
      refine cV ?_
      refine ⟨_,rfl,u.1,_,_,_,rfl,rfl,SqT.of hut,aj (j:=0) rfl,_,rfl,u.1,_,_,_,rfl,rfl,SqT.of hut,aj (j:=1) rfl,(by show 2 ≤ sizeLine; decide),fun t2 ht2=>?_⟩
      refine ⟨us ++ [(t2,u.2)],s3.trans (ag ht2 _),by simp,by rw [List.map_append,e2,List.take_add_one,hu,List.map_append]; rfl,fun z hz=>?_⟩
      rcases List.mem_append.mp hz with h | h
      · exact gG (ag ht2 _) _ _ (e3 z h)
      · rw [List.mem_singleton.mp h]
        rw [ce (s3.free ht2),ae]
    obtain ⟨us,s3,rfl,e2,e3⟩:=h
    rw [List.length_map,List.take_length,p4] at e2
    have hul : us.length ≤ 60:=by have:=congrArg List.length e2; rw [List.length_map] at this; omega
    have s4:=ag hp (.lst (us.map fun u=>V.ref u.1))
    have hnd : (us.map fun u=>u.2.1).Nodup:=by
      have h2 : (us.map fun u=>u.2).Pairwise (fun a b=>a.1 < b.1):=by rw [e2]; exact hpw
      rw [List.pairwise_map] at h2
      have : (us.map fun u=>u.2.1).Pairwise (· < ·):=by rw [List.pairwise_map]; exact h2
      exact this.imp fun h=>by omega
    refine ⟨p,us,rfl,SqL.of ae,by omega,fun u hu=>SqT.of (s4 _ _ (dE _ _ _ _ (e3 u hu))),hnd,fun l us' hl pm pw=>?_⟩
    have e4 : us'.map (fun u=>u.2) = row.2:=by
      rw [← e2]
      exact mT (pm.map _) (by rw [List.pairwise_map]; exact pw) (by rw [e2]; exact hpw)
    refine ⟨(by show 2 ≤ sizeLine; decide),fun t2 ht2=>?_⟩
    have s5:=s4.trans (ag hl (.lst (us'.map fun u=>V.ref u.1)))
    have s6:=s5.trans (ag ht2 (.tup [.int row.1,.ref l]))
    have s26:=s3.trans s6
    refine ⟨s2.trans s26,?_⟩
    rw [List.take_add_one,hrw]
    refine Paired.app (aH dq (gG s26) pr) (.cons ?_ .nil)
    have hl2 : H2 l = none:=(s3.trans s4).free hl
    have hlt : l ≠ t2:=fun z=>by rw [z] at hl; rw [← z,ae] at ht2; cases ht2
    have W : WaysAt (cQ H (upd (upd (upd H3 p (.lst (us.map fun u=>V.ref u.1))) l (.lst (us'.map fun u=>V.ref u.1))) t2 (.tup [.int row.1,.ref l]))) l us':=by
      refine ⟨by rw [ce (s2.free hl2),ar hlt,ae],fun u hu=>?_⟩
      have:=e3 u (pm.mem_iff.mp hu)
      exact dA s2 s6 _ _ this
    have:=W.rel
    rw [e4] at this
    exact ⟨t2,_,_,rfl,by rw [ce (s2.free ((s3.trans s5).free ht2)),ae],rfl,this⟩
  · obtain ⟨s2,pr⟩:=h
    rw [hgl,List.take_length] at pr
    exact q p ys H2 s2 hp pr
def tj : Sp:=fun vs H Q _=>∃ c r : Int,vs = [.int c,.int r]∧0 ≤ c∧c ≤ 1000∧0 ≤ r∧r ≤ 1000∧Q (.int (amt c r)) H
theorem j2 (F : DefAt K mg "amount_of" cC ["count","rank"]) (T : Txt mg) : Dn P w K mg base "amount_of" 1 ["count","rank"] tj:=by
  have sc:=jX
  refine F.ok sc (fun vs H Q E h=>?_) (fun f cdv A outer s H vs Q E hr h=>?_)
  · obtain ⟨_,_,rfl,_⟩:=h; rfl
  obtain ⟨c,r,rfl,c0,c1,r0,r1,q⟩:=h
  refine ⟨_,(af (aq (i:=2) sc.nd rfl (Or.inl rfl) ad)
      (af (aZ PassesOwn.never rfl (b6 rfl T.b_range (aa (pv 1) ac)) (av (i:=3) sc.nd rfl (Or.inl rfl))
      (ah (uk (i:=2) sc.nd rfl (Or.inl rfl) (pv 0) ui)))
      (ah (aA (b9 (ay cN (ao aV (pv 1) ad) ad (aD _)) (p8 lp (pv 2)) (pv 2)))))),?_⟩
  refine ⟨_,rfl,r,rfl,by omega,by omega,cx (lo:=0) (n:=r.toNat) (fun i σ H2=>H2 = H∧∃ y : Option V,σ = [some (.int c),some (.int r),some (.int (c ^ i)),y])
    ⟨rfl,none,by rw [Int.pow_zero]; rfl⟩ (fun i σ H2 hi h=>?_) (fun σ H2 h=>?_)⟩
  · obtain ⟨rfl,y,rfl⟩:=h
    refine ⟨_,rfl,_,rfl,_,_,rfl,rfl,.inr ⟨by omega,by omega⟩,?_⟩
    exact ⟨rfl,_,by rw [Int.pow_succ]; rfl⟩
  · obtain ⟨rfl,y,rfl⟩:=h
    unfold amt at q
    refine ⟨_,rfl,_,_,rfl,rfl,(show (0 : Int) < 2 by decide),rfl,_,rfl,?_⟩
    refine bf (fun c=>?_) (fun c=>?_)
    · have e : r % 2 = 1:=by have:=of_decide_eq_true c; injection this
      rw [if_pos e] at q
      exact ⟨_,rfl,_,rfl,q⟩
    · have e : ¬ r % 2 = 1:=fun e=>c (decide_eq_true (by rw [← e]))
      rw [if_neg e] at q
      exact ⟨_,rfl,q⟩
def dv (G : List Row) : List eT:=G.map fun r=>(r.1,r.2.2.map fun w=>(w,amt G.length r.2.1))
theorem cf (G : List Row) : (dv G).length = G.length:=List.length_map _
def qW (K : PySem.W.Frag) : Sp:=fun vs H Q E=>∃ (v : V) (G : List Row),vs = [v]∧cL H G v∧G.length ≤ 1000∧(∀ r ∈ G,0 ≤ r.2.1∧r.2.1 ≤ 1000∧r.2.2.length ≤ 60)∧((16 < G.length∧∀ H',Same H H'→E (.ref (clK K "TooMany")) none H') ∨ (ij (dv G)∧∀ (g : Addr) (gv : List V) (H1 : Hp),Same H H1→H1 g = none→Paired (rPR (cQ H H1)) (dv G) gv→Q (.ref g) (upd H1 g (.lst gv))))
theorem iB (F : DefAt K mg "amounts_of" bP ["game"]) (T : Txt mg) (XC : XT K mg "GarthError" xRs xNs) (D_purse_game : DnX P w K mg base "purse_game" 6 ["rows"] (jH K)) (D_amount_of : Dn P w K mg base "amount_of" 1 ["count","rank"] tj) : DnX P w K mg base "amounts_of" 7 ["game"] (qW K):=by
  have sc:=iM
  refine F.okX sc (fun vs H Q E h=>?_) (fun f cdv A outer s H vs Q E hr h=>?_)
  · obtain ⟨_,_,rfl,_⟩:=h; rfl
  obtain ⟨v,G,rfl,hG,h1000,hrk,q⟩:=h
  obtain ⟨g0,gv,rfl,hg0,hgl,hrow⟩:=bY hG
  refine ⟨_,(af (aq (i:=1) sc.nd rfl (Or.inr rfl) (au (bI (K:=K) rfl) rfl T.b_len PySem.boot_len (aa (pv 0) ac)))
      (ah (aA (cr fw D_purse_game hr (aa (tG "rank" 2 (ai bP) ["game","count"] ["hand","rank","ways","count"] 3 [1] (bj (pv 0)) (fun _ _ _ _ _ _=>(uH (K:=K) rfl rfl (show List.Nodup (["hand","rank","ways","count"] : List Str) by decide +kernel) rfl rfl rfl rfl rfl rfl rfl)) (fun _ _ _ _ _ _=>bE) (fun _ _ _ _ _ _=>(br (aa (pv 0) (aa (by exact (gD  ["hand","rank","ways","count"] ["way","rank","count"] 1 [1,3] (fD (pv 2)) (fun _ _ _ _ _ _=>(db (show List.Nodup (["way","rank","count"] : List Str) by decide +kernel) rfl rfl)) (fun _ _ _ _ _ _=>bE) (fun _ _ _ _ _ _=>(br (aa (pv 0) (aa (aE D_amount_of hr (aa (pv 2) (aa (pv 1) ac))) ac)))))) ac))))) ac))))),?_⟩
  refine ⟨_,rfl,g0,_,rfl,.inl (SqL.of hg0),?_⟩
  refine ⟨_,rfl,g0,rfl,⟨_,SqL.of hg0⟩,aP (K:=K) (a:=g0) (xs:=gv) (fun i ys H2=>Same H H2∧Paired (rPR H2) ((dv G).take i) ys) ⟨Same.refl _,.nil⟩ (bW (m:=1000) (by omega)) (fun i ys H2 hi h=>?_) (fun i x ys H2 hi h=>?_) (fun ys H2 h p hp=>?_)⟩
  · exact ⟨SqL.of (h.1 _ _ hg0),by have:=h.2.length; rw [List.length_take] at this; omega⟩
  · obtain ⟨s2,pr⟩:=h
    have hil : i < G.length:=by have:=(List.getElem?_eq_some_iff.mp hi).1; omega
    obtain ⟨row,hrw⟩ : ∃ row,G[i]? = some row:=⟨G[i],by simp⟩
    obtain ⟨t,wa,p1,p2,p3⟩:=hrow i row hrw
    rw [hi] at p1; cases p1
    obtain ⟨k0,k1,k60⟩:=hrk row (List.mem_of_getElem? hrw)
    refine cq (SqT.of (s2 _ _ p2)) rfl ?_
    refine ⟨_,rfl,_,rfl,wa,rfl,⟨_,SqL.of (s2 _ _ p3)⟩,aP (K:=K0) (a:=wa) (xs:=row.2.2.map V.int) (fun j zs H3=>∃ us : List (Addr × Int × Int),Same H2 H3∧zs = us.map (fun u=>V.ref u.1)∧us.map (fun u=>u.2) = (row.2.2.take j).map (fun w=>(w,amt G.length row.2.1))∧∀ u ∈ us,H3 u.1 = some (.tup [.int u.2.1,.int u.2.2])) ⟨[],Same.refl _,rfl,rfl,fun _ z=>by cases z⟩ (bW (m:=1000) (by rw [List.length_map]; omega)) (fun j zs H3 hj h=>?_) (fun j x zs H3 hj h=>?_) (fun zs H3 h p hp=>?_)⟩
    · obtain ⟨us,s3,rfl,e2,_⟩:=h
      refine ⟨SqL.of ((s2.trans s3) _ _ p3),?_⟩
      have:=congrArg List.length e2
      rw [List.length_map,List.length_map,List.length_take] at this
      rw [List.length_map]; omega
    · obtain ⟨us,s3,rfl,e2,e3⟩:=h
      obtain ⟨z,hz,rfl⟩:=eP hj
      refine cV ?_
      refine ⟨_,rfl,_,rfl,_,rfl,_,_,rfl,by omega,by omega,k0,k1,(by show 2 ≤ sizeLine; decide),fun u hu=>?_⟩
      refine ⟨us ++ [(u,z,amt G.length row.2.1)],s3.trans (ag hu _),by rw [List.map_append]; rfl,?_,fun v hv=>?_⟩
      · rw [List.map_append,e2,List.take_add_one,hz,List.map_append]; rfl
      · rcases List.mem_append.mp hv with h | h
        · exact ag hu _ _ _ (e3 v h)
        · rw [List.mem_singleton.mp h,ae,hgl]
    obtain ⟨us,s3,rfl,e2,e3⟩:=h
    rw [List.length_map,List.take_length] at e2
    refine ⟨(by show 2 ≤ sizeLine; decide),fun t3 ht3=>?_⟩
    have sA:=(ag hp (.lst (us.map fun u=>V.ref u.1))).trans (ag ht3 (.tup [.int row.1,.ref p]))
    refine ⟨(s2.trans s3).trans sA,?_⟩
    rw [List.take_add_one,show (dv G)[i]? = some (row.1,row.2.2.map fun w=>(w,amt G.length row.2.1)) by unfold dv; rw [List.getElem?_map,hrw]; rfl]
    refine Paired.app (aH dq (s3.trans sA) pr) (.cons ?_ .nil)
    refine ⟨t3,_,_,rfl,ae,rfl,?_⟩
    have hw : WaysAt (upd (upd H3 p (.lst (us.map fun u=>V.ref u.1))) t3 (.tup [.int row.1,.ref p])) p us:=⟨ag ht3 _ _ _ ae,fun u hu=>sA _ _ (e3 u hu)⟩
    have:=hw.rel
    rw [e2] at this; exact this
  obtain ⟨s2,pr⟩:=h
  rw [hgl,← cf G,List.take_length] at pr
  have s3:=s2.trans (ag hp (.lst ys))
  refine ⟨_,dv G,rfl,⟨p,ys,rfl,ae,aH dq (ag hp _) pr⟩,by rw [cf]; omega,?_⟩
  rcases q with ⟨h16,q⟩ | ⟨hgood,q⟩
  · exact .inl ⟨by rw [cf]; exact h16,fun H' s'=>q H' (s3.trans s')⟩
  · exact .inr ⟨hgood,fun g gv' H1 s1 hg pr1=>q g gv' H1 (s3.trans s1) hg (aH dq (sK s3) pr1)⟩
def q9 (K : PySem.W.Frag) : Sp:=fun vs H Q _=>∃ (a : Addr) (ns : List Int) (k : Int),vs = [.ref a,.int k]∧SqL K H a (ns.map V.int)∧0 ≤ k∧k ≤ 1000∧∀ m : Int,Q (.int m) H
theorem uF (F : DefAt K mg "_law_at" eE ["_law_script","_law_k"]) (T : Txt mg) : Dn P w K mg base "_law_at" 1 ["_law_script","_law_k"] (q9 K):=by
  have sc:=nW
  refine F.ok sc (fun vs H Q E h=>?_) (fun f cdv A outer s H vs Q E hr h=>?_)
  · obtain ⟨a,ns,k,rfl,_⟩:=h; rfl
  obtain ⟨a,ns,k,rfl,hS,h0,h1,q⟩:=h
  have hl : (ns.map V.int).length = ns.length:=List.length_map _
  refine ⟨_,(af (aL (ay qP (pv 1) (au (bI (K:=K) rfl) rfl T.b_len PySem.boot_len (aa (pv 0) ac)) (aD _))
      (ah (aA (al (ixL (K:=K) rfl) (pv 0) (pv 1) (fun _ _=>rfl))))
      az)
      (af (aq (i:=2) sc.nd rfl (Or.inl rfl) (ao bq (ao dt ad (pv 1)) ad))
      (fo (aL (ay ml (au (bI (K:=K) rfl) rfl T.b_len PySem.boot_len (aa (pv 0) ac)) ad (aD _))
      (ah (aq (i:=2) sc.nd rfl (Or.inl rfl) (ao bq (pv 2) (ao dt (ao aV (al (ixL (K:=K) rfl) (pv 0) (ao aV (pv 1) (au (bI (K:=K) rfl) rfl T.b_len PySem.boot_len (aa (pv 0) ac))) (fun _ _=>rfl)) ad) (ao bq (pv 1) ad)))))
      az)
      (ah (aA (ao bq (ao aV (ao dt (pv 2) (pv 2)) ad) (ao aV (pv 2) ad))))))),?_⟩
  refine ⟨_,rfl,_,rfl,a,_,rfl,.inl hS,_,_,rfl,rfl,_,rfl,?_⟩
  refine bf (fun c=>?_) (fun c=>?_)
  · have c':=of_decide_eq_true c
    rw [hl] at c'
    obtain ⟨m,hm⟩ : ∃ m,ns[k.toNat]? = some m:=⟨ns[k.toNat]'(by omega),by simp⟩
    exact ⟨_,rfl,_,rfl,a,_,_,_,rfl,rfl,hS,sU h0 (by rw [List.getElem?_map,hm]; rfl),q m⟩
  refine ⟨_,rfl,_,_,rfl,rfl,.inl ⟨by decide,by decide⟩,_,_,rfl,rfl,?_⟩
  refine ⟨fun σ' H1=>∃ m : Int,σ' = [some (.ref a),some (.int k),some (.int m)]∧H1 = H∧0 ≤ m∧m ≤ 10 ^ 15,?_,?_⟩
  · refine ⟨_,rfl,a,_,rfl,.inl hS,_,_,rfl,rfl,_,rfl,?_⟩
    refine bf (fun c=>?_) (fun c=>?_)
    · have c':=of_decide_eq_true c
      rw [hl] at c'
      have i0:=Int.emod_nonneg k (show ((ns.map V.int).length : Int) ≠ 0 by omega)
      have i1 : k % ((ns.map V.int).length : Int) < (ns.length : Int):=by have:=Int.emod_lt_of_pos k (show 0 < ((ns.map V.int).length : Int) by omega); omega
      obtain ⟨m,hm⟩ : ∃ m,ns[(k % ((ns.map V.int).length : Int)).toNat]? = some m:=⟨ns[(k % ((ns.map V.int).length : Int)).toNat]'(by omega),by simp⟩
      have m0:=Int.emod_nonneg m (show (1000003 : Int) ≠ 0 by decide)
      have m1:=Int.emod_lt_of_pos m (show (0 : Int) < 1000003 by decide)
      refine ⟨_,rfl,_,rfl,_,rfl,_,rfl,a,_,rfl,.inl hS,_,_,rfl,rfl,(by omega),a,_,_,_,rfl,rfl,hS,sU i0 (by rw [List.getElem?_map,hm]; rfl),_,_,rfl,rfl,(show (0 : Int) < 1000003 by decide),_,rfl,_,_,rfl,rfl,_,_,rfl,rfl,.inl ⟨by omega,by omega⟩,_,_,rfl,rfl,?_⟩
      have b0 : 0 ≤ m % 1000003 * (k + 1):=Int.mul_nonneg m0 (by omega)
      have b1 : m % 1000003 * (k + 1) ≤ 1000003 * 1001:=Int.mul_le_mul (by omega) (by omega) (by omega) (by omega)
      exact ⟨_,rfl,rfl,by omega,by omega⟩
    · exact ⟨_,rfl,rfl,by omega,by omega⟩
  rintro σ' H1 ⟨m,rfl,rfl,m0,m1⟩
  exact ⟨_,rfl,_,rfl,_,_,rfl,rfl,.inl ⟨by omega,by omega⟩,_,_,rfl,rfl,(show (0 : Int) < 999979 by decide),_,rfl,_,_,rfl,rfl,(show (0 : Int) < 101 by decide),_,_,rfl,rfl,q _⟩
def vg (K : PySem.W.Frag) : Sp:=fun vs H Q _=>∃ (a : Addr) (ns : List Int) (k n : Int),vs = [.ref a,.int k,.int n]∧SqL K H a (ns.map V.int)∧0 ≤ k∧k ≤ 100∧∀ (m : Int) (H' : Hp),Same H H'→0 ≤ m→m < 41→Q (.int m) H'
theorem uD (F : DefAt K mg "_law_rank" da ["_law_script","_law_k","_law_many"]) (T : Txt mg) (D_law_at : Dn P w K mg base "_law_at" 1 ["_law_script","_law_k"] (q9 K)) : Dn P w K mg base "_law_rank" 2 ["_law_script","_law_k","_law_many"] (vg K):=by
  have sc:=kC
  refine F.ok sc (fun vs H Q E h=>?_) (fun f cdv A outer s H vs Q E hr h=>?_)
  · obtain ⟨_,_,_,_,rfl,_⟩:=h; rfl
  obtain ⟨a,ns,k,n,rfl,hS,h0,h1,q⟩:=h
  refine ⟨_,(af (aq (i:=3) sc.nd rfl (Or.inl rfl) (ao bv (aE D_law_at hr (aa (pv 0) (aa (ao bq ad (ao dt ad (pv 1))) ac))) ad))
      (af (aL (ay cN (ao aV (ao bv (aE D_law_at hr (aa (pv 0) (aa ad ac))) ad) ad) ad (aD _))
      (ah (aA (ao aV (ao bq (ao dt ad (ao fQ (pv 2) (pv 1))) (ao aV (pv 3) ad)) ad)))
      az)
      (ah (aA (ao aV (pv 3) (al (ixL (K:=K) rfl) (bC (aa ad (aa ad (aa ad ac)))) (ao aV (aE D_law_at hr (aa (pv 0) (aa ad ac))) ad) (fun _ _=>rfl))))))),?_⟩
  refine ⟨_,rfl,_,rfl,_,_,rfl,rfl,.inl ⟨by decide,by decide⟩,_,_,rfl,rfl,a,ns,_,rfl,hS,by omega,by omega,fun m1=>?_⟩
  refine ⟨_,_,rfl,rfl,⟨by decide,by decide⟩,?_⟩
  refine ⟨_,rfl,a,ns,1,rfl,hS,by decide,by decide,fun m2=>?_⟩
  refine ⟨_,_,rfl,rfl,⟨by decide,by decide⟩,_,_,rfl,rfl,(show (0 : Int) < 3 by decide),rfl,_,rfl,?_⟩
  refine bf (fun c=>?_) (fun c=>?_)
  · refine ⟨_,rfl,_,rfl,_,_,rfl,rfl,_,_,rfl,rfl,.inl ⟨by decide,by decide⟩,_,rfl,_,_,rfl,rfl,(show (0 : Int) < 2 by decide),_,_,rfl,rfl,_,_,rfl,rfl,(show (0 : Int) < 41 by decide),?_⟩
    exact q _ _ (Same.refl _) (Int.emod_nonneg _ (by decide)) (Int.emod_lt_of_pos _ (by decide))
  refine ⟨_,rfl,(by show 3 ≤ sizeLine; decide),fun p0 hp0=>?_⟩
  refine ⟨_,rfl,a,ns,1,rfl,(ag hp0 _).seq hS,by decide,by decide,fun m3=>?_⟩
  obtain ⟨tp,htp,ht1,ht2⟩ : ∃ t : Int,atI [V.int 41,V.int 6,V.int 3] (m3 % 3) = some (.int t)∧1 ≤ t∧t ≤ 41:=by
    have : m3 % 3 = 0 ∨ m3 % 3 = 1 ∨ m3 % 3 = 2:=by omega
    rcases this with e | e | e <;> rw [e]
    · exact ⟨41,rfl,by decide,by decide⟩
    · exact ⟨6,rfl,by decide,by decide⟩
    · exact ⟨3,rfl,by decide,by decide⟩
  refine ⟨_,_,rfl,rfl,(show (0 : Int) < 3 by decide),p0,_,_,_,rfl,rfl,SqL.of ae,htp,_,_,rfl,rfl,(show 0 < tp by omega),?_⟩
  have e1:=Int.emod_lt_of_pos (m1 / 2) (show 0 < tp by omega)
  exact q _ _ (ag hp0 _) (Int.emod_nonneg _ (by omega)) (by show m1 / 2 % tp < 41; omega)
def WD (n m : Int) (ws : List Int) : Prop:=ws ≠ []∧ws.Pairwise (· < ·)∧(∀ x ∈ ws,0 ≤ x∧x < n)∧(ws.length : Int) ≤ m + 1
def mL (K : PySem.W.Frag) : Sp:=fun vs H Q _=>∃ (a : Addr) (ns : List Int) (k n b m : Int),vs = [.ref a,.int k,.int n,.int b,.int m]∧SqL K H a (ns.map V.int)∧0 ≤ k∧k < n∧n ≤ 16∧1 ≤ b∧b ≤ 16∧1 ≤ m∧m ≤ 3 ∧
  ∀ (p : Addr) (ws : List Int) (H' : Hp),Same H H'→H p = none→H' p = some (.lst (ws.map V.int))→WD n m ws→Q (.ref p) H'
theorem pY (F : DefAt K mg "_law_ways" cT ["_law_script","_law_k","_law_many","_law_block","_law_most"]) (T : Txt mg) (D_law_at : Dn P w K mg base "_law_at" 1 ["_law_script","_law_k"] (q9 K)) : Dn P w K mg base "_law_ways" 2 ["_law_script","_law_k","_law_many","_law_block","_law_most"] (mL K):=by
  have sc:=j9
  refine F.ok sc (fun vs H Q E h=>?_) (fun f cdv A outer s H vs Q E hr h=>?_)
  · obtain ⟨_,_,_,_,_,_,rfl,_⟩:=h; rfl
  obtain ⟨a,ns,k,n,b,m,rfl,hS,h0,h1,h16,b1,b2,m1,m2,q⟩:=h
  have d0 : 0 ≤ k / b:=Int.ediv_nonneg h0 (by omega)
  have d1 : k / b * b ≤ k:=Int.ediv_mul_le k (by omega)
  have d2 : 0 ≤ k / b * b:=Int.mul_nonneg d0 (by omega)
  have d3 : k / b ≤ k:=Int.ediv_le_self _ h0
  refine ⟨_,(af (aq (i:=5) sc.nd rfl (Or.inl rfl) (aE D_law_at hr (aa (pv 0) (aa (ao bq ad (ao dt ad (pv 1))) ac))))
      (af (aq (i:=6) sc.nd rfl (Or.inl rfl) (ao dt (ao bv (pv 1) (pv 3)) (pv 3)))
      (af (aq (i:=7) sc.nd rfl (Or.inl rfl) (au (oa rfl) rfl T.b_min PyProof.Rows.boot_min (aa (pv 3) (aa (ao fQ (pv 2) (pv 6)) ac))))
      (af (aq (i:=8) sc.nd rfl (Or.inl rfl) (bC ac))
      (fo (aL (ay cN (ao aV (ao bv (aE D_law_at hr (aa (pv 0) (aa ad ac))) ad) ad) ad (aD _))
      (ah (aq (i:=8) sc.nd rfl (Or.inl rfl) (bC (aa (ao aV (ao bq (pv 1) ad) (pv 2)) ac))))
      az)
      (af (aZ PassesOwn.never rfl (b6 rfl T.b_range (aa (ao bq ad (ao aV (ao bv (pv 5) ad) (pv 4))) ac)) (av (i:=9) sc.nd rfl (Or.inl rfl))
      (af (aq (i:=10) sc.nd rfl (Or.inl rfl) (aE D_law_at hr (aa (pv 0) (aa (ao bq (ao bq ad (ao dt ad (pv 1))) (pv 9)) ac))))
      (af (aq (i:=11) sc.nd rfl (Or.inl rfl) (ao bq (pv 6) (ao aV (pv 10) (pv 7))))
      (fo (aL (ay cN (ao aV (ao bv (pv 10) (pv 7)) ad) ad (aD _))
      (ah (aq (i:=11) sc.nd rfl (Or.inl rfl) (ao aV (ao bv (ao bv (pv 10) (pv 7)) ad) (pv 2))))
      az)
      (ah (aL (ay (gM (K:=K) rfl) (pv 11) (pv 8) rfl)
      (ah (aM (di PySem.F.plainAttrs_list PySem.F.slot_list_append PySem.F.type_list_append aU (pv 8) (aa (pv 11) ac))))
      az))))))
      (ah (aA (au (jV) rfl T.b_sorted PyProof.Rows.boot_sorted (aa (pv 8) ac)))))))))),?_⟩
  refine ⟨_,rfl,_,rfl,_,_,rfl,rfl,.inl ⟨by decide,by decide⟩,_,_,rfl,rfl,a,ns,_,rfl,hS,by omega,by omega,fun c=>?_⟩
  refine ⟨_,rfl,_,rfl,_,_,rfl,rfl,⟨by omega,by omega⟩,_,rfl,_,_,rfl,rfl,.inl ⟨by omega,by omega⟩,?_⟩
  refine ⟨_,rfl,_,rfl,_,rfl,_,_,rfl,rfl,_,_,rfl,?_⟩
  refine ⟨Nat.zero_le _,fun g hg=>?_⟩
  refine ⟨fun σ' H1=>∃ (lo sz : Int) (ga : Addr) (gs : List Int),σ' = [some (.ref a),some (.int k),some (.int n),some (.int b),some (.int m),some (.int c),some (.int lo),some (.int sz),some (.ref ga),none,none,none]∧Same H H1∧H ga = none∧H1 ga = some (.lst (gs.map V.int))∧gs.Nodup∧gs.length ≤ 1∧(∀ x ∈ gs,0 ≤ x∧x < n)∧0 ≤ lo∧1 ≤ sz∧lo + sz ≤ n,?_,?_⟩
  · have sg:=ag hg (.lst [])
    refine ⟨_,rfl,a,ns,1,rfl,sg.seq hS,by decide,by decide,fun m2=>?_⟩
    refine ⟨_,_,rfl,rfl,⟨by decide,by decide⟩,_,_,rfl,rfl,(show (0 : Int) < 3 by decide),rfl,_,rfl,?_⟩
    refine bf (fun c=>?_) (fun c=>?_)
    · refine ⟨_,rfl,_,_,rfl,rfl,_,rfl,_,_,rfl,rfl,(show 0 < n by omega),(by show 1 ≤ sizeLine; decide),fun g2 hg2=>?_⟩
      refine ⟨_,_,g2,[(k + 1) % n],rfl,sg.trans (ag hg2 _),sg.free hg2,ae,by simp,Nat.le_refl _,(fun x hx=>by rw [List.mem_singleton.mp hx]; exact ⟨Int.emod_nonneg _ (by omega),Int.emod_lt_of_pos _ (by omega)⟩),d2,?_,?_⟩ <;> split <;> omega
    · refine ⟨_,_,g,[],rfl,sg,hg,ae,by simp,Nat.zero_le _,(fun x hx=>by cases hx),d2,?_,?_⟩ <;> split <;> omega
  rintro σ' H1 ⟨lo,sz,ga,gs,rfl,s1,hga,hg1,hnd,hgl,hgr,lo0,sz1,los⟩
  have e0:=Int.emod_nonneg (c / 82) (show m ≠ 0 by omega)
  have e1:=Int.emod_lt_of_pos (c / 82) (show 0 < m by omega)
  refine ⟨_,rfl,_,_,rfl,rfl,⟨by decide,by decide⟩,_,rfl,_,_,rfl,rfl,(show 0 < m by omega),_,_,rfl,rfl,_,rfl,by omega,by omega,cx (lo:=0) (n:=(1 + c / 82 % m).toNat) (fun i σ Hy=>∃ (gs : List Int) (y1 y2 y3 : Option V),σ = [some (.ref a),some (.int k),some (.int n),some (.int b),some (.int m),some (.int c),some (.int lo),some (.int sz),some (.ref ga),y1,y2,y3]∧Same H Hy∧Hy ga = some (.lst (gs.map V.int))∧gs.Nodup∧gs.length ≤ 1 + i∧(∀ x ∈ gs,0 ≤ x∧x < n)∧(1 ≤ i→gs ≠ []))
    ⟨gs,_,_,_,rfl,s1,hg1,hnd,hgl,hgr,fun z=>by omega⟩ (fun i σ Hy hi h=>?_) (fun σ Hy h=>?_)⟩
  · obtain ⟨gs,y1,y2,y3,rfl,sy,hy,hnd,hgl,hgr,hne⟩:=h
    have hi3 : i ≤ 3:=by omega
    refine ⟨_,rfl,_,rfl,_,_,rfl,rfl,.inl ⟨by decide,by decide⟩,_,_,rfl,rfl,_,rfl,_,_,rfl,rfl,a,ns,_,rfl,sy.seq hS,by omega,by omega,fun y=>?_⟩
    have z0:=Int.emod_nonneg y (show sz ≠ 0 by omega)
    have z1:=Int.emod_lt_of_pos y (show 0 < sz by omega)
    refine ⟨_,rfl,_,rfl,_,rfl,_,_,rfl,rfl,(show 0 < sz by omega),_,_,rfl,rfl,?_⟩
    refine ⟨fun σ' H2=>∃ gl : Int,σ' = [some (.ref a),some (.int k),some (.int n),some (.int b),some (.int m),some (.int c),some (.int lo),some (.int sz),some (.ref ga),some (.int (0 + ((i : Nat) : Int))),some (.int y),some (.int gl)]∧H2 = Hy∧0 ≤ gl∧gl < n,?_,?_⟩
    · refine ⟨_,rfl,_,rfl,_,_,rfl,rfl,⟨by omega,by omega⟩,_,_,rfl,rfl,(show (0 : Int) < 7 by decide),rfl,_,rfl,?_⟩
      refine bf (fun c=>?_) (fun c=>?_)
      · refine ⟨_,rfl,_,rfl,_,_,rfl,rfl,⟨by omega,by omega⟩,_,_,rfl,rfl,⟨by decide,by decide⟩,_,rfl,_,_,rfl,rfl,(show 0 < n by omega),?_⟩
        exact ⟨_,rfl,rfl,Int.emod_nonneg _ (by omega),Int.emod_lt_of_pos _ (by omega)⟩
      · exact ⟨_,rfl,rfl,by omega,by omega⟩
    rintro σ' H2 ⟨gl,rfl,rfl,g0,g1⟩
    refine ⟨_,rfl,_,rfl,ga,_,rfl,.inl (SqL.of hy),rfl,eO _,?_⟩
    rw [er]
    refine ⟨_,rfl,?_⟩
    refine bf (fun c=>?_) (fun c=>?_)
    · have hnm : gl ∉ gs:=by
        intro z
        rw [if_pos rfl,decide_eq_true z] at c; cases c
      refine ⟨_,rfl,.inl ⟨rfl,_,SqL.of hy⟩,_,rfl,ga,_,_,rfl,rfl,hy,d8 (m:=1000) (by rw [List.length_map]; omega),?_⟩
      refine ⟨gs ++ [gl],_,_,_,rfl,sy.put hga _,by rw [ae,List.map_append]; rfl,?_,by rw [List.length_append,List.length_singleton]; omega,fun x hx=>?_,fun _ z=>by simp at z⟩
      · rw [List.nodup_append]
        refine ⟨hnd,by simp,fun x hx y hy=>?_⟩
        rw [List.mem_singleton.mp hy]
        exact fun z=>hnm (z ▸ hx)
      · rcases List.mem_append.mp hx with h | h
        · exact hgr x h
        · rw [List.mem_singleton.mp h]; exact ⟨g0,g1⟩
    · have hm : gl ∈ gs:=Classical.byContradiction fun z=>c (by rw [if_pos rfl,decide_eq_false z]; rfl)
      exact ⟨gs,_,_,_,rfl,sy,hy,hnd,by omega,hgr,fun _ z=>by rw [z] at hm; cases hm⟩
  · obtain ⟨gs,y1,y2,y3,rfl,sy,hy,hnd,hgl,hgr,hne⟩:=h
    refine ⟨_,rfl,ga,gs,rfl,SqL.of hy,by omega,fun p ws hp hpm hpw=>?_⟩
    have hl : ws.length = gs.length:=hpm.length_eq
    refine q p ws _ (sy.trans (ag hp _)) (sy.free hp) ae ⟨fun z=>?_,?_,fun x hx=>hgr x (hpm.mem_iff.mp hx),by omega⟩
    · rw [z] at hl
      exact hne (by omega) (List.eq_nil_of_length_eq_zero hl.symm)
    · have hnd' : ws.Nodup:=hpm.nodup_iff.mpr hnd
      exact (hpw.and hnd').imp fun h=>by
        obtain ⟨h1,h2⟩:=h
        omega
def LG (G : List Row) : Prop:=G ≠ []∧G.length ≤ 12∧∃ m : Int,m ≤ 3∧(8 < G.length→m ≤ 2)∧∀ r ∈ G,(r.1 = 0 ∨ r.1 = 1)∧(0 ≤ r.2.1∧r.2.1 < 41)∧WD G.length m r.2.2
def qg (K : PySem.W.Frag) : Sp:=fun vs H Q _=>∃ (a : Addr) (ns : List Int),vs = [.ref a,.int 12]∧SqL K H a (ns.map V.int)∧∀ (v : V) (H' : Hp) (G : List Row),Same H H'→cL H' G v→LG G→Q v H'
theorem rE (F : DefAt K mg "_law_game" dc ["_law_script","_law_top"]) (T : Txt mg) (D_law_at : Dn P w K mg base "_law_at" 1 ["_law_script","_law_k"] (q9 K)) (D_law_ways : Dn P w K mg base "_law_ways" 2 ["_law_script","_law_k","_law_many","_law_block","_law_most"] (mL K)) (D_law_rank : Dn P w K mg base "_law_rank" 2 ["_law_script","_law_k","_law_many"] (vg K)) : Dn P w K mg base "_law_game" 3 ["_law_script","_law_top"] (qg K):=by
  have sc:=ke
  refine F.ok sc (fun vs H Q E h=>?_) (fun f cdv A outer s H vs Q E hr h=>?_)
  · obtain ⟨_,_,rfl,_⟩:=h; rfl
  obtain ⟨a,ns,rfl,hS,q⟩:=h
  refine ⟨_,(af (aq (i:=2) sc.nd rfl (Or.inl rfl) (aE D_law_at hr (aa (pv 0) (aa ad ac))))
      (af (aq (i:=3) sc.nd rfl (Or.inl rfl) (ao bq ad (ao aV (pv 2) ad)))
      (af (aq (i:=4) sc.nd rfl (Or.inl rfl) ad)
      (fo (aL (ay cN (ao aV (ao bv (pv 2) ad) ad) ad (aD _))
      (af (aq (i:=3) sc.nd rfl (Or.inl rfl) (ao bq ad (ao aV (ao bv (pv 2) ad) ad)))
      (ah (aL (ay cN (ao aV (ao bv (pv 2) ad) ad) ad (aD _))
      (af (aq (i:=3) sc.nd rfl (Or.inl rfl) (ao bq ad (ao aV (ao bv (pv 2) ad) (ao fQ (pv 1) ad))))
      (ah (aq (i:=4) sc.nd rfl (Or.inl rfl) (ao bq ad (ao aV (ao bv (pv 2) ad) ad)))))
      az)))
      az)
      (af (aq (i:=5) sc.nd rfl (Or.inl rfl) (pv 3))
      (fo (aL (ay cN (ao aV (ao bv (aE D_law_at hr (aa (pv 0) (aa ad ac))) ad) ad) ad (aD _))
      (ah (aq (i:=5) sc.nd rfl (Or.inl rfl) (ao bv (ao bq (pv 3) ad) ad)))
      az)
      (af (aq (i:=6) sc.nd rfl (Or.inl rfl) (bC ac))
      (af (aZ PassesOwn.never rfl (b6 rfl T.b_range (aa (pv 3) ac)) (av (i:=7) sc.nd rfl (Or.inl rfl))
      (af (aq (i:=8) sc.nd rfl (Or.inl rfl) (aE D_law_ways hr (aa (pv 0) (aa (pv 7) (aa (pv 3) (aa (pv 5) (aa (pv 4) ac)))))))
      (ah (aM (di PySem.F.plainAttrs_list PySem.F.slot_list_append PySem.F.type_list_append aU (pv 6) (aa (br (aa (ao aV (aE D_law_at hr (aa (pv 0) (aa (ao bq ad (ao dt ad (pv 7))) ac))) ad) (aa (aE D_law_rank hr (aa (pv 0) (aa (pv 7) (aa (pv 3) ac)))) (aa (pv 8) ac)))) ac))))))
      (ah (aA (pv 6))))))))))),?_⟩
  refine ⟨_,rfl,a,ns,0,rfl,hS,by decide,by decide,fun hd0=>?_⟩
  refine ⟨_,rfl,_,_,rfl,rfl,(show (0 : Int) < 5 by decide),_,_,rfl,rfl,?_⟩
  refine ⟨fun σ' H1=>∃ n m : Int,σ' = [some (.ref a),some (.int 12),some (.int hd0),some (.int n),some (.int m),none,none,none,none]∧H1 = H∧1 ≤ n∧n ≤ 12∧1 ≤ m∧m ≤ 3∧(8 < n→m ≤ 2),?_,?_⟩
  · refine ⟨_,rfl,_,_,rfl,rfl,⟨by decide,by decide⟩,_,_,rfl,rfl,(show (0 : Int) < 6 by decide),rfl,_,rfl,?_⟩
    refine bf (fun c=>?_) (fun c=>?_)
    · refine ⟨_,rfl,_,_,rfl,rfl,⟨by decide,by decide⟩,_,_,rfl,rfl,(show (0 : Int) < 8 by decide),_,_,rfl,rfl,?_⟩
      refine ⟨_,rfl,_,_,rfl,rfl,⟨by decide,by decide⟩,_,_,rfl,rfl,(show (0 : Int) < 6 by decide),rfl,_,rfl,?_⟩
      refine bf (fun c=>?_) (fun c=>?_)
      · refine ⟨_,rfl,_,_,rfl,rfl,⟨by decide,by decide⟩,_,rfl,_,_,rfl,rfl,_,_,rfl,rfl,(show (0 : Int) < 12 - 8 by decide),_,_,rfl,rfl,?_⟩
        refine ⟨_,rfl,_,_,rfl,rfl,⟨by decide,by decide⟩,_,_,rfl,rfl,(show (0 : Int) < 2 by decide),_,_,rfl,rfl,?_⟩
        have e0:=Int.emod_nonneg (hd0 / 1440) (show (12 - 8 : Int) ≠ 0 by decide)
        have e1:=Int.emod_lt_of_pos (hd0 / 1440) (show (0 : Int) < 12 - 8 by decide)
        exact ⟨_,_,rfl,rfl,by omega,by omega,by omega,by omega,by omega⟩
      · exact ⟨_,_,rfl,rfl,by omega,by omega,by decide,by decide,by omega⟩
    · exact ⟨_,_,rfl,rfl,by omega,by omega,by decide,by decide,by omega⟩
  rintro σ' H1 ⟨n,m,rfl,rfl,n1,n16,m1,m3,m8⟩
  refine ⟨_,rfl,?_⟩
  refine ⟨fun σ' H2=>∃ b : Int,σ' = [some (.ref a),some (.int 12),some (.int hd0),some (.int n),some (.int m),some (.int b),none,none,none]∧H2 = H1∧1 ≤ b∧b ≤ 16,?_,?_⟩
  · refine ⟨_,rfl,a,ns,1,rfl,hS,by decide,by decide,fun y=>?_⟩
    refine ⟨_,_,rfl,rfl,⟨by decide,by decide⟩,_,_,rfl,rfl,(show (0 : Int) < 3 by decide),rfl,_,rfl,?_⟩
    refine bf (fun c=>?_) (fun c=>?_)
    · refine ⟨_,rfl,_,_,rfl,rfl,_,_,rfl,rfl,⟨by decide,by decide⟩,?_⟩
      exact ⟨_,rfl,rfl,by omega,by omega⟩
    · exact ⟨_,rfl,rfl,n1,by omega⟩
  rintro σ' H2 ⟨b,rfl,rfl,b1,b16⟩
  refine ⟨Nat.zero_le _,fun g hg=>?_⟩
  refine ⟨_,rfl,n,rfl,by omega,by omega,cx (lo:=0) (n:=n.toNat) (fun i σ Hy=>∃ (G' : List Row) (y1 y2 : Option V),σ = [some (.ref a),some (.int 12),some (.int hd0),some (.int n),some (.int m),some (.int b),some (.ref g),y1,y2]∧Bld nR H2 Hy g G'∧G'.length = i∧∀ r ∈ G',(r.1 = 0 ∨ r.1 = 1)∧(0 ≤ r.2.1∧r.2.1 < 41)∧WD n m r.2.2)
    ⟨[],_,_,rfl,Bld.start (Same.refl _) hg,rfl,fun _ z=>by cases z⟩ (fun i σ Hy hi h=>?_) (fun σ Hy h=>?_)⟩
  · obtain ⟨G',y1,y2,rfl,bl,hl,hk⟩:=h
    refine ⟨_,rfl,_,rfl,_,rfl,_,rfl,_,rfl,a,ns,_,_,_,_,rfl,bl.s.seq hS,by omega,by omega,by omega,b1,b16,m1,m3,fun p ws H3 s3 hp0 hp3 hw=>?_⟩
    obtain ⟨gvs,hgv,_⟩:=bl.sq
    refine ⟨_,rfl,.inl ⟨rfl,_,SqL.of (s3 _ _ hgv)⟩,_,rfl,_,rfl,_,_,rfl,rfl,.inl ⟨by decide,by decide⟩,_,_,rfl,rfl,a,ns,_,rfl,(bl.s.trans s3).seq hS,by omega,by omega,fun y=>?_⟩
    refine ⟨_,_,rfl,rfl,(show (0 : Int) < 2 by decide),_,rfl,_,rfl,_,rfl,a,ns,_,_,rfl,(bl.s.trans s3).seq hS,by omega,by omega,fun z H4 s4 z0 z1=>?_⟩
    refine ⟨_,rfl,(by show 3 ≤ sizeLine; decide),fun t2 ht2'=>?_⟩
    have s34:=s3.trans s4
    obtain ⟨vs4,k1,k2,b4⟩:=bl.push ek (s34.trans (ag ht2' _)) (mh (h:=y % 2) (r:=z) s34 hp0 (s4 _ _ hp3) ht2')
    refine ⟨g,vs4,_,rfl,rfl,k1,(d8 (m:=1000) (by omega)),?_⟩
    refine ⟨_,_,_,rfl,b4,by simp [hl],fun rw hrw=>?_⟩
    rcases List.mem_append.mp hrw with h | h
    · exact hk rw h
    · rw [List.mem_singleton.mp h]
      exact ⟨by show y % 2 = 0 ∨ y % 2 = 1; omega,⟨z0,z1⟩,hw⟩
  · obtain ⟨G',y1,y2,rfl,bl,hl,hk⟩:=h
    have e : (G'.length : Int) = n:=by omega
    refine ⟨_,rfl,q _ _ G' bl.s (mono_game.up (dE _ _) (bl.done ek)) ⟨fun z=>by rw [z] at e; simp at e; omega,by omega,m,m3,fun z=>m8 (by omega),fun r hr=>?_⟩⟩
    rw [e]; exact hk r hr
def qR : Sp:=fun vs H Q _=>∃ (v : V) (G : List Row),vs = [v]∧cL H G v∧G.length ≤ 100∧∀ (v' : V) (H' : Hp),Same H H'→cL (cQ H H') G v'→Q v' H'
theorem sx (F : DefAt K mg "_law_copied" bU ["_law_game_here"]) (T : Txt mg) : Dn P w K mg base "_law_copied" 1 ["_law_game_here"] qR:=by
  have sc:=iN
  refine F.ok sc (fun vs H Q E h=>?_) (fun f cdv A outer s H vs Q E hr h=>?_)
  · obtain ⟨_,_,rfl,_⟩:=h; rfl
  obtain ⟨v,G,rfl,hG,h100,q⟩:=h
  obtain ⟨g0,gv,rfl,hg0,hgl,hrow⟩:=bY hG
  refine ⟨_,(ah (aA (kx (ai bU) ["_law_game_here"] ["_law_hand","_law_rank_here","_law_ways_here"] 3 [] (bj (pv 0)) (fun _ _ _ _ _ _=>(vS (K:=K) rfl rfl (show List.Nodup (["_law_hand","_law_rank_here","_law_ways_here"] : List Str) by decide +kernel) rfl rfl rfl rfl rfl rfl)) (fun _ _ _ _ _ _=>bE) (fun _ _ _ _ _ _=>(br (aa (pv 0) (aa (pv 1) (aa (dD (lK (K:=K) rfl) rfl T.b_list PyProof.Rows.boot_list (aa (pv 2) ac)) ac)))))))),?_⟩
  refine ⟨_,rfl,g0,rfl,⟨_,SqL.of hg0⟩,aP (K:=K) (a:=g0) (xs:=gv) (fun i ys H3=>Same H H3∧Paired (nR (cQ H H3)) (G.take i) ys) ⟨Same.refl _,.nil⟩ (bW (m:=1000) (by omega)) (fun i ys H3 hi h=>?_) (fun i x ys H3 hi h=>?_) (fun ys H3 h h0 hh0=>?_)⟩
  · exact ⟨SqL.of (h.1 _ _ hg0),by have:=h.2.length; simp at this; omega⟩
  · obtain ⟨s3,pr⟩:=h
    have hil : i < G.length:=by have:=(List.getElem?_eq_some_iff.mp hi).1; omega
    obtain ⟨row,hrw⟩ : ∃ row,G[i]? = some row:=⟨G[i],by simp⟩
    obtain ⟨t,wa,p1,p2,p3⟩:=hrow i row hrw
    rw [hi] at p1; cases p1
    refine cq (SqT.of (s3 _ _ p2)) rfl ?_
    refine ⟨_,rfl,_,rfl,_,rfl,wa,_,rfl,.inl (SqL.of (s3 _ _ p3)),fun l hl=>?_⟩
    refine ⟨(by show 3 ≤ sizeLine; decide),fun t2 ht2=>?_⟩
    have s4:=s3.trans (ag hl (.lst (row.2.2.map V.int)))
    refine ⟨s4.trans (ag ht2 _),?_⟩
    rw [List.take_add_one,hrw]
    refine Paired.app (aH ek (gG ((ag hl _).trans (ag ht2 _))) pr) (.cons ?_ .nil)
    exact mh (h:=row.1) (r:=row.2.1) (ws:=row.2.2) s4 (s3.free hl) ae ht2
  obtain ⟨s3,pr⟩:=h
  rw [hgl,List.take_length] at pr
  exact q _ _ (s3.trans (ag hh0 _)) ⟨h0,ys,rfl,by rw [ce (s3.free hh0),ae],aH ek (gG (ag hh0 _)) pr⟩
theorem fR {α β : Type} {F : α→β→Prop} : ∀ {xs : List α} {ys : List β},Paired F xs ys→xs.length = ys.length
  | _,_,.nil=>rfl
  | _,_,.cons _ t=>by rw [List.length_cons,List.length_cons,fR t]
theorem gR {us : List V} {z : Int} {u : V} (h0 : 0 ≤ z) (h : us[z.toNat]? = some u) : atI us z = some u:=by
  obtain ⟨n,rfl⟩:=Int.eq_ofNat_of_zero_le h0
  exact aj (j:=n) h
def oV : Option Int→V
  | none=>.non
  | some v=>.int v
def tV (T : List (Option Int)) : List V:=T.map oV
theorem aX (T : List (Option Int)) : (tV T).length = T.length:=List.length_map _
def tbF (T : List (Option Int)) : Tb:=fun x=>if 0 ≤ x then (T[x.toNat]?).getD none else none
theorem gz (T : List (Option Int)) (i : Nat) : tbF T (i : Int) = (T[i]?).getD none:=by unfold tbF; rw [if_pos (by omega)]; rfl
theorem gb {T : List (Option Int)} {x : Int} (h0 : 0 ≤ x) (h1 : x < T.length) : atI (tV T) x = some (oV (tbF T x)):=by
  have hl : x.toNat < T.length:=by omega
  refine gR h0 ?_
  unfold tV tbF
  rw [if_pos h0,List.getElem?_map,List.getElem?_eq_getElem hl]; rfl
def ef : Sp:=fun vs H Q _=>∃ (ta : Addr) (T : List (Option Int)) (p a : Int),vs = [.ref ta,.int p,.int a]∧H ta = some (.lst (tV T))∧0 ≤ p∧p < T.length∧Q (oV (ax (tbF T) (p,a))) H
theorem nv (F : DefAt K mg "need_by" dF ["purses","place","amount"]) (T : Txt mg) : Dn P w K mg base "need_by" 1 ["purses","place","amount"] ef:=by
  have sc:=lx
  refine F.ok sc (fun vs H Q E h=>?_) (fun f cdv A outer s H vs Q E hr h=>?_)
  · obtain ⟨_,_,_,_,rfl,_⟩:=h; rfl
  obtain ⟨ta,TT,p,a,rfl,hta,p0,p1,q⟩:=h
  refine ⟨_,(af (aL (cJ (dW (al (ixL (K:=K) rfl) (pv 0) (pv 1) (fun _ _=>rfl))))
      (ah (aA fM))
      az)
      (ah (aA (au (nr rfl) rfl T.b_max PyProof.Rows.boot_max (aa (ao fQ (al (ixL (K:=K) rfl) (pv 0) (pv 1) (fun _ _=>rfl)) (pv 2)) (aa ad ac)))))),?_⟩
  have at0:=gb p0 p1
  refine ⟨_,rfl,_,rfl,ta,_,_,_,rfl,rfl,SqL.of hta,at0,_,rfl,?_⟩
  unfold ax at q
  cases e : tbF TT p with
  | none =>
    rw [e] at q
    exact dy q
  | some v =>
    rw [e] at q at0
    refine bp ?_
    refine ⟨_,rfl,_,rfl,ta,_,_,_,rfl,rfl,SqL.of hta,at0,_,rfl,_,_,rfl,rfl,?_⟩
    refine ⟨_,_,rfl,?_⟩
    have e9 : (if (0 : Int) > v - a then (0 : Int) else v - a) = max (v - a) 0:=by
      by_cases c : (0 : Int) > v - a
      · rw [if_pos c]; omega
      · rw [if_neg c]; omega
    rw [e9]; exact q
def nk : Option Int→Int × Int
  | none=>(1,0)
  | some v=>(0,v)
theorem nk_lt {a b : Option Int} : lt2 (nk b) (nk a) ↔ ¬ leO a b:=by
  cases a <;> cases b <;> simp [nk,lt2,leO]
def gF : Sp:=fun vs H Q _=>∃ (o : Option Int),vs = [oV o]∧∀ t,H t = none→Q (.ref t) (upd H t (.tup (dh (nk o))))
theorem oZ (F : DefAt K mg "need_order" ca ["need"]) (T : Txt mg) : Dn P w K mg base "need_order" 1 ["need"] gF:=by
  have sc:=iK
  refine F.ok sc (fun vs H Q E h=>?_) (fun f cdv A outer s H vs Q E hr h=>?_)
  · obtain ⟨_,rfl,_⟩:=h; rfl
  obtain ⟨o,rfl,q⟩:=h
  refine ⟨_,(ah (aA (b9 (cJ (dW (pv 0))) (br (aa ad (aa ad ac))) (br (aa ad (aa (pv 0) ac)))))),?_⟩
  refine ⟨_,rfl,_,rfl,?_⟩
  cases o with
  | none=>exact dy ⟨(by show 2 ≤ sizeLine; decide),fun t ht=>q t ht⟩
  | some v=>exact bp ⟨_,rfl,(by show 2 ≤ sizeLine; decide),fun t ht=>q t ht⟩
def ls : Sp:=fun vs H Q _=>∃ (a b : Option Int),vs = [oV a,oV b]∧∀ (r : Bool) H',Same H H'→(r = true ↔ ¬ leO a b)→Q (.bl r) H'
theorem rK (F : DefAt K mg "is_more" dN ["need","other"]) (T : Txt mg) (D_need_order : Dn P w K mg base "need_order" 1 ["need"] gF) : Dn P w K mg base "is_more" 2 ["need","other"] ls:=by
  have sc:=lL
  refine F.ok sc (fun vs H Q E h=>?_) (fun f cdv A outer s H vs Q E hr h=>?_)
  · obtain ⟨_,_,rfl,_⟩:=h; rfl
  obtain ⟨a,b,rfl,q⟩:=h
  refine ⟨_,(ah (aA (gH (tZ (K:=K) rfl (jL hr 0)) (aE D_need_order hr (aa (pv 0) ac)) (aE D_need_order hr (aa (pv 1) ac)) (aD _)))),?_⟩
  refine ⟨_,rfl,a,rfl,fun t1 h1=>⟨_,rfl,b,rfl,fun t2 h2=>?_⟩⟩
  refine ⟨t1,t2,[(nk a).1,(nk a).2],[(nk b).1,(nk b).2],rfl,rfl,SqT.of (ag h2 _ _ _ ae),SqT.of ae,?_⟩
  exact q _ _ ((ag h1 _).trans (ag h2 _)) ((qS _ _).trans nk_lt)
def nt (H : Hp) : Hp:=fun b=>match H b with
  | some (.tbl _)=>none
  | o=>o
theorem kG {H : Hp} {b : Addr} {o : HO} (h : H b = some o) (ho : ∀ ps,o ≠ .tbl ps) : nt H b = some o:=by
  unfold nt
  rw [h]
  cases o <;> first | rfl | exact absurd rfl (ho _)
theorem mv {H : Hp} {b : Addr} {o : HO} (h : nt H b = some o) : H b = some o∧∀ ps,o ≠ .tbl ps:=by
  unfold nt at h
  cases e : H b with
  | none=>rw [e] at h; cases h
  | some u =>
    rw [e] at h
    cases u <;> first | (cases h; exact ⟨rfl,fun _ z=>by cases z⟩) | cases h
theorem ak {H : Hp} : Same (nt H) H:=fun _ _ h=>(mv h).1
theorem bo {H : Hp} {b : Addr} {xs : List V} (h : H b = some (.lst xs)) : nt H b = some (.lst xs):=kG h fun _ z=>by cases z
theorem eA {H : Hp} {b : Addr} {xs : List V} (h : H b = some (.tup xs)) : nt H b = some (.tup xs):=kG h fun _ z=>by cases z
def Sm (H H' : Hp) : Prop:=Same (nt H) (nt H')
theorem Sm.of {H H' : Hp} (s : Same H H') : Sm H H':=fun b o h=>by
  obtain ⟨h1,h2⟩:=mv h
  exact kG (s _ _ h1) h2
theorem Sm.trans {H H1 H2 : Hp} (a : Sm H H1) (b : Sm H1 H2) : Sm H H2:=Same.trans a b
theorem Sm.ofT {H H' : Hp} {p : Addr} {ps : Array Value} (s : SameT p H H') (h : H p = some (.tbl ps)) : Sm H H':=fun b o e=>by
  obtain ⟨h1,h2⟩:=mv e
  exact kG (s b o (fun z=>by rw [z,h] at h1; injection h1 with h1; exact h2 _ h1.symm) h1) h2
theorem Sm.put {H H' : Hp} {a : Addr} (s : Sm H H') (h : nt H a = none) (o : HO) : Sm H (upd H' a o):=fun b u e=>by
  have nb : b ≠ a:=fun z=>by rw [z,h] at e; cases e
  obtain ⟨h1,h2⟩:=mv (s _ _ e)
  exact kG (by rw [ar nb]; exact h1) h2
theorem dZ {H : Hp} {a : Addr} (h : H a = none) : nt H a = none:=by unfold nt; rw [h]
theorem Sm.lst {H H' : Hp} {b : Addr} {xs : List V} (s : Sm H H') (h : nt H b = some (.lst xs)) : H' b = some (.lst xs):=ak _ _ (s _ _ h)
theorem Sm.tup {H H' : Hp} {b : Addr} {xs : List V} (s : Sm H H') (h : nt H b = some (.tup xs)) : H' b = some (.tup xs):=ak _ _ (s _ _ h)
def uS (st : Stmt) : Pos:=match bu st with
  | [.Return (some (.Call _ _ [⟨_,.Lambda _ _ _ p,_⟩] _)) _]=>p
  | _=>⟨0,0,0,0⟩
abbrev qL : Str := "least_needy" ++ ".<locals>." ++ "<lambda>"
abbrev qM : Str := "most_needy" ++ ".<locals>." ++ "<lambda>"
abbrev pL (K : PySem.W.Frag) : Addr:=aJ K "least_needy"
abbrev pM (K : PySem.W.Frag) : Addr:=aJ K "most_needy"
structure Tbs (K : PySem.W.Frag) (H : Hp) : Prop where
  l : TabOk H (pL K) (uS bB) qL
  m : TabOk H (pM K) (uS bO) qM
  ne : pL K ≠ pM K
theorem Tbs.up {H H' : Hp} (t : Tbs K H) (s : Same H H') : Tbs K H':=⟨t.l.up s,t.m.up s,t.ne⟩
theorem mK {H H' : Hp} {p q : Addr} {pos : Pos} {qual : Str} (t : TabOk H p pos qual) (s : SameT q H H') (ne : p ≠ q) (hq : ∃ ps,H q = some (.tbl ps)) : TabOk H' p pos qual:=by
  obtain ⟨ps,h1,h2,h3⟩:=t
  refine ⟨ps,s _ _ ne h1,h2,?_⟩
  rcases h3 with h | ⟨c,o,vs,t,h4,h5,h6⟩
  · exact .inl h
  · exact .inr ⟨c,o,vs,t,h4,s _ _ (fun z=>by obtain ⟨qs,hq⟩:=hq; rw [z,hq] at h5; cases h5) h5,h6⟩
theorem Tbs.put {H : Hp} {a : Addr} {xs : List V} {o : HO} (t : Tbs K H) (h : H a = some (.lst xs)) : Tbs K (upd H a o):=by
  have go : ∀ {p : Addr} {pos : Pos} {qual : Str},TabOk H p pos qual→TabOk (upd H a o) p pos qual:=fun {p pos qual} t=>by
    obtain ⟨ps,h1,h2,h3⟩:=t
    refine ⟨ps,by rw [ar (fun z=>by rw [z,h] at h1; cases h1)]; exact h1,h2,?_⟩
    rcases h3 with z | ⟨c,o',vs,t,h4,h5,h6⟩
    · exact .inl z
    · exact .inr ⟨c,o',vs,t,h4,by rw [ar (fun z=>by rw [z,h] at h5; cases h5)]; exact h5,h6⟩
  exact ⟨go t.l,go t.m,t.ne⟩
abbrev rWs : Rel (List Wy):=d4 (rT2 cu cu)
theorem mono_ws : MonoR rWs:=bw (gA bg bg)
theorem c8 {H : Hp} {r : List Wy} {v : V} (h : rWs H r v) : ∃ a us,v = .ref a∧H a = some (.lst us)∧us.length = r.length∧∀ (i : Nat) (p : Wy),r[i]? = some p→∃ t,us[i]? = some (.ref t)∧H t = some (.tup [.int p.1,.int p.2]):=by
  obtain ⟨a,us,rfl,ha,pr⟩:=h
  refine ⟨a,us,rfl,ha,(fR pr).symm,fun i p hp=>?_⟩
  obtain ⟨u,hu,t,x,y,rfl,ht,rfl,rfl⟩:=L2.Paired.at pr hp
  exact ⟨t,hu,ht⟩
def pe (K : PySem.W.Frag) (mx : Bool) : Sp:=fun vs H Q _=>∃ (v : V) (ta : Addr) (ws : List Wy) (T : List (Option Int)),vs = [v,.ref ta]∧rWs (nt H) ws v∧nt H ta = some (.lst (tV T))∧ws ≠ []∧(∀ w ∈ ws,0 ≤ w.1∧w.1 < T.length)∧Tbs K H ∧
  ∀ (t : Addr) (w : Wy) (H' : Hp),Sm H H'→Tbs K H'→w ∈ ws→(∀ w' ∈ ws,if mx then leO (ax (tbF T) w') (ax (tbF T) w) else leO (ax (tbF T) w) (ax (tbF T) w'))→nt H' t = some (.tup [.int w.1,.int w.2])→Q (.ref t) H'
theorem uE (F : DefAt K mg "least_needy" bB ["ways","purses"]) (T : Txt mg) (L : gf K mg "least_needy") (D_need_by : Dn P w K mg base "need_by" 1 ["purses","place","amount"] ef) (D_need_order : Dn P w K mg base "need_order" 1 ["need"] gF) : Dn P w K mg base "least_needy" 4 ["ways","purses"] (pe K false):=by
  have sc:=gZ
  refine DefAt.okL F L sc (fun vs H Q E h=>?_) (fun f cdv A outer s H vs Q E LD hr h=>?_)
  · obtain ⟨_,_,_,_,rfl,_⟩:=h; rfl
  obtain ⟨v,ta,ws,TT,rfl,hv,hta,ne,rg,tb,q⟩:=h
  obtain ⟨wl,us,rfl,hwl,ul,hat⟩:=c8 hv
  refine ⟨_,fun MD=>(ah (aA (sO (k:=1) (j:=1) (LD MD) hr rfl rfl T.b_min (aa (pv 0) ac) rfl rfl rfl (by decide +kernel) (by decide +kernel) rfl rfl (fun _ _ _ _ _=>rfl) (fun cl q cdv s H=>(aE D_need_order (Room.deeper (Room.in1 hr) _) (aa (aE D_need_by (Room.deeper (Room.in1 hr) _) (aa (pv 1) (aa (al (ixT (K:=K) rfl) (pv 0) ad (fun _ _=>rfl)) (aa (al (ixT (K:=K) rfl) (pv 0) ad (fun _ _=>rfl)) ac)))) ac)))))),?_⟩
  obtain ⟨ps,hP,_⟩:=id tb.l
  have une : us ≠ []:=fun z=>ne (List.length_eq_zero_iff.mp (by rw [← ul,z]; rfl))
  have wat : ∀ {i : Nat} {x : V},us[i]? = some x→∃ t wi,x = .ref t∧ws[i]? = some wi∧ws.getD i (0,0) = wi∧nt H t = some (.tup [.int wi.1,.int wi.2]):=fun {i x} hx=>by
    have il : i < ws.length:=by rw [← ul]; exact (List.getElem?_eq_some_iff.mp hx).1
    obtain ⟨t,h1,h2⟩:=hat i _ (List.getElem?_eq_getElem il)
    rw [hx] at h1
    injection h1 with h1
    exact ⟨t,ws[i],h1,List.getElem?_eq_getElem il,by rw [List.getD_eq_getElem?_getD,List.getElem?_eq_getElem il]; rfl,h2⟩
  refine ⟨_,rfl,tb.l,wl,us,.ref ta,fun i=>nk (ax (tbF TT) (ws.getD i (0,0))),rfl,ak _ _ hwl,une,rfl,fun i x H2 hx sT=>?_,fun i x H2 hx bst sT tab2=>?_⟩
  · obtain ⟨t,wi,rfl,h1,h2,h3⟩:=wat hx
    have sm:=Sm.ofT sT hP
    have ht:=sm.tup h3
    have rgi:=rg wi (List.mem_of_getElem? h1)
    refine ⟨_,rfl,_,rfl,t,_,_,_,rfl,rfl,SqT.of ht,aj (j:=0) rfl,_,rfl,t,_,_,_,rfl,rfl,SqT.of ht,aj (j:=1) rfl,ta,TT,wi.1,wi.2,rfl,sm.lst hta,rgi.1,rgi.2,_,rfl,fun t' ht'=>⟨ag ht' _,t',rfl,?_⟩⟩
    rw [ae]
    show some (HO.tup (dh (nk (ax (tbF TT) wi)))) = some (HO.tup (dh (nk (ax (tbF TT) (ws.getD i (0,0))))))
    rw [h2]
  · obtain ⟨t,wi,rfl,h1,h2,h3⟩:=wat hx
    have sm:=Sm.ofT sT hP
    refine q t wi H2 sm ⟨tab2,mK tb.m sT (Ne.symm tb.ne) ⟨_,hP⟩,tb.ne⟩ (List.mem_of_getElem? h1) (fun w' hw'=>?_) (sm _ _ h3)
    obtain ⟨j,hj⟩:=List.getElem?_of_mem hw'
    have jl:=(List.getElem?_eq_some_iff.mp hj).1
    have b:=(bst j (by rw [ul]; exact jl)).1
    have hj2 : ws.getD j (0,0) = w':=by rw [List.getD_eq_getElem?_getD,hj]; rfl
    have b : ¬ lt2 (nk (ax (tbF TT) (ws.getD j (0,0)))) (nk (ax (tbF TT) (ws.getD i (0,0)))):=b
    rw [h2,hj2] at b
    exact Classical.byContradiction fun z=>b (nk_lt.mpr z)
theorem vc (F : DefAt K mg "most_needy" bO ["ways","purses"]) (T : Txt mg) (L : gf K mg "most_needy") (D_need_by : Dn P w K mg base "need_by" 1 ["purses","place","amount"] ef) (D_need_order : Dn P w K mg base "need_order" 1 ["need"] gF) : Dn P w K mg base "most_needy" 4 ["ways","purses"] (pe K true):=by
  have sc:=iF
  refine DefAt.okL F L sc (fun vs H Q E h=>?_) (fun f cdv A outer s H vs Q E LD hr h=>?_)
  · obtain ⟨_,_,_,_,rfl,_⟩:=h; rfl
  obtain ⟨v,ta,ws,TT,rfl,hv,hta,ne,rg,tb,q⟩:=h
  obtain ⟨wl,us,rfl,hwl,ul,hat⟩:=c8 hv
  refine ⟨_,fun MD=>(ah (aA (rO (k:=1) (j:=1) (LD MD) hr rfl rfl T.b_max (aa (pv 0) ac) rfl rfl rfl (by decide +kernel) (by decide +kernel) rfl rfl (fun _ _ _ _ _=>rfl) (fun cl q cdv s H=>(aE D_need_order (Room.deeper (Room.in1 hr) _) (aa (aE D_need_by (Room.deeper (Room.in1 hr) _) (aa (pv 1) (aa (al (ixT (K:=K) rfl) (pv 0) ad (fun _ _=>rfl)) (aa (al (ixT (K:=K) rfl) (pv 0) ad (fun _ _=>rfl)) ac)))) ac)))))),?_⟩
  obtain ⟨ps,hP,_⟩:=id tb.m
  have une : us ≠ []:=fun z=>ne (List.length_eq_zero_iff.mp (by rw [← ul,z]; rfl))
  have wat : ∀ {i : Nat} {x : V},us[i]? = some x→∃ t wi,x = .ref t∧ws[i]? = some wi∧ws.getD i (0,0) = wi∧nt H t = some (.tup [.int wi.1,.int wi.2]):=fun {i x} hx=>by
    have il : i < ws.length:=by rw [← ul]; exact (List.getElem?_eq_some_iff.mp hx).1
    obtain ⟨t,h1,h2⟩:=hat i _ (List.getElem?_eq_getElem il)
    rw [hx] at h1
    injection h1 with h1
    exact ⟨t,ws[i],h1,List.getElem?_eq_getElem il,by rw [List.getD_eq_getElem?_getD,List.getElem?_eq_getElem il]; rfl,h2⟩
  refine ⟨_,rfl,tb.m,wl,us,.ref ta,fun i=>nk (ax (tbF TT) (ws.getD i (0,0))),rfl,ak _ _ hwl,une,rfl,fun i x H2 hx sT=>?_,fun i x H2 hx bst sT tab2=>?_⟩
  · obtain ⟨t,wi,rfl,h1,h2,h3⟩:=wat hx
    have sm:=Sm.ofT sT hP
    have ht:=sm.tup h3
    have rgi:=rg wi (List.mem_of_getElem? h1)
    refine ⟨_,rfl,_,rfl,t,_,_,_,rfl,rfl,SqT.of ht,aj (j:=0) rfl,_,rfl,t,_,_,_,rfl,rfl,SqT.of ht,aj (j:=1) rfl,ta,TT,wi.1,wi.2,rfl,sm.lst hta,rgi.1,rgi.2,_,rfl,fun t' ht'=>⟨ag ht' _,t',rfl,?_⟩⟩
    rw [ae]
    show some (HO.tup (dh (nk (ax (tbF TT) wi)))) = some (HO.tup (dh (nk (ax (tbF TT) (ws.getD i (0,0))))))
    rw [h2]
  · obtain ⟨t,wi,rfl,h1,h2,h3⟩:=wat hx
    have sm:=Sm.ofT sT hP
    refine q t wi H2 sm ⟨mK tb.l sT tb.ne ⟨_,hP⟩,tab2,tb.ne⟩ (List.mem_of_getElem? h1) (fun w' hw'=>?_) (sm _ _ h3)
    obtain ⟨j,hj⟩:=List.getElem?_of_mem hw'
    have jl:=(List.getElem?_eq_some_iff.mp hj).1
    have b:=(bst j (by rw [ul]; exact jl)).1
    have hj2 : ws.getD j (0,0) = w':=by rw [List.getD_eq_getElem?_getD,hj]; rfl
    have b : ¬ lt2 (nk (ax (tbF TT) (ws.getD i (0,0)))) (nk (ax (tbF TT) (ws.getD j (0,0)))):=fun z=>b (show lt2 (ngK (fun i=>nk (ax (tbF TT) (ws.getD i (0,0)))) j) (ngK (fun i=>nk (ax (tbF TT) (ws.getD i (0,0)))) i) from ng_lt.mpr z)
    rw [h2,hj2] at b
    exact Classical.byContradiction fun z=>b (nk_lt.mpr z)
abbrev rPu : Rel (List aF):=d4 (rT2 cu rWs)
abbrev rLf : Rel Lf:=d4 rWs
theorem mono_pu : MonoR rPu:=bw (gA bg mono_ws)
theorem mono_lf : MonoR rLf:=bw mono_ws
theorem dB {H : Hp} {G : List aF} {v : V} (h : rPu H G v) : ∃ a us,v = .ref a∧H a = some (.lst us)∧us.length = G.length∧∀ (i : Nat) (r : aF),G[i]? = some r→∃ t wl,us[i]? = some (.ref t)∧H t = some (.tup [.int r.1,.ref wl])∧rWs H r.2 (.ref wl):=by
  obtain ⟨a,us,rfl,ha,pr⟩:=h
  refine ⟨a,us,rfl,ha,(fR pr).symm,fun i r hr=>?_⟩
  obtain ⟨u,hu,t,x,y,rfl,ht,rfl,hy⟩:=L2.Paired.at pr hr
  obtain ⟨wl,ws,rfl,hw⟩:=id hy
  exact ⟨t,wl,hu,ht,hy⟩
def qp : Sp:=fun vs H Q _=>∃ (v : V) (G : List aF) (ra : Addr) (r : List (Option Int)),vs = [v,.ref ra]∧rPu H G v∧H ra = some (.lst (tV r))∧GPk G∧RlP G r∧G.length ≤ 16∧(∀ row ∈ G,row.2.length ≤ 100)∧∀ u H',Same H H'→rLf H' (aR G r) u→Q u H'
theorem iZ {G : List aF} {r : List (Option Int)} {i : Nat} {row : aF} {o : Option Int} (h1 : G[i]? = some row) (h2 : r[i]? = some o) : aR (G.take (i + 1)) (r.take (i + 1)) = aR (G.take i) (r.take i) ++ [match o with | none=>row.2 | some p=>[(p,amP row.2 p)]]:=by
  unfold aR
  have l1:=(List.getElem?_eq_some_iff.mp h1).1
  have l2:=(List.getElem?_eq_some_iff.mp h2).1
  rw [List.take_succ,List.take_succ,h1,h2,List.zipWith_append (by rw [List.length_take,List.length_take]; omega)]
  rfl
theorem fh {G : List aF} {r : List (Option Int)} (h : RlP G r) {i : Nat} {row : aF} (hr : G[i]? = some row) : (r[i]? = some none∧row.1 ≠ 1) ∨ ∃ w ∈ row.2,r[i]? = some (some w.1)∧row.1 = 1:=by
  by_cases c : row.1 = 1
  · obtain ⟨w,hw,e⟩:=(h.2 i row hr).2 c
    exact .inr ⟨w,hw,e,c⟩
  · exact .inl ⟨(h.2 i row hr).1 c,c⟩
def dcW (ws : List Wy) : List (Key × V):=ws.map fun w=>(Sum.inl w.1,V.int w.2)
theorem mY : ∀ {l c : List (Key × V)},((c ++ l).map (·.1)).Nodup→l.foldl (fun c p=>iE c p.1 p.2) c = c ++ l
  | [],c,_=>(List.append_nil c).symm
  | p :: l,c,h=>by
    have e : iE c p.1 p.2 = c ++ [p]:=by
      unfold iE
      rw [if_neg]
      intro ha
      obtain ⟨kv,hm,he⟩:=List.any_eq_true.mp ha
      rw [List.map_append,List.nodup_append] at h
      exact h.2.2 kv.1 (List.mem_map.mpr ⟨kv,hm,rfl⟩) p.1 (by simp) (of_decide_eq_true he)
    rw [List.foldl_cons,e,mY (by rw [List.append_assoc]; exact h),List.append_assoc]; rfl
theorem ot {ws : List Wy} (nd : (ws.map (·.1)).Nodup) : e8 [] (dcW ws) = dcW ws:=by
  unfold e8
  rw [mY,List.nil_append]
  rw [List.nil_append]
  unfold dcW
  rw [List.map_map]
  have : (ws.map ((fun x=>x.1) ∘ fun w=>((Sum.inl w.1 : Key),V.int w.2))) = (ws.map (·.1)).map Sum.inl:=by rw [List.map_map]; rfl
  rw [this,List.Nodup,List.pairwise_map]
  exact nd.imp fun {a b} h e=>h (by injection e)
theorem oo {ws : List Wy} (nd : (ws.map (·.1)).Nodup) {x : Wy} (hx : x ∈ ws) : gx (dcW ws) (Sum.inl x.1) = some (V.int x.2):=by
  unfold dcW gx
  induction ws with
  | nil=>cases hx
  | cons y ws ih =>
    rw [List.map_cons,List.nodup_cons] at nd
    rw [List.map_cons]
    rcases List.mem_cons.mp hx with e | e
    · rw [e,List.find?_cons_of_pos (by exact decide_eq_true rfl)]; rfl
    · rw [List.find?_cons_of_neg]
      · exact ih nd.2 e
      · intro z
        have:=of_decide_eq_true z
        injection this with this
        exact nd.1 (by rw [this]; exact List.mem_map.mpr ⟨x,e,rfl⟩)
theorem qA {H : Hp} : ∀ {ws : List Wy} {us : List V},Paired (rT2 cu cu H) ws us→∃ ts : List (Addr × Key × V),us = ts.map (fun t=>V.ref t.1)∧(∀ t ∈ ts,H t.1 = some (.tup [kV t.2.1,t.2.2]))∧ts.map (fun t=>t.2) = dcW ws
  | _,_,.nil=>⟨[],rfl,(fun _ z=>by cases z),rfl⟩
  | _,_,.cons h t=>by
    obtain ⟨ts,e1,e2,e3⟩:=qA t
    obtain ⟨c,x,y,rfl,hc,rfl,rfl⟩:=h
    rename_i p _ _
    refine ⟨(c,Sum.inl p.1,V.int p.2) :: ts,by rw [e1]; rfl,fun t ht=>?_,by rw [List.map_cons,e3]; rfl⟩
    rcases List.mem_cons.mp ht with rfl | ht
    · exact hc
    · exact e2 t ht
structure Bd {α : Type} (R : Rel α) (H H2 : Hp) (g : Addr) (xs : List α) : Prop where
  g0 : H g = none
  s : Same H H2
  ex : ∃ vs,H2 g = some (.lst vs)∧Paired (R (del H2 g)) xs vs
section
variable {α : Type} {R : Rel α} {H H1 H2 H3 : Hp} {g : Addr} {xs : List α}
theorem Bd.start (h : H g = none) : Bd R H (upd H g (.lst [])) g []:=⟨h,ag h _,[],ae,.nil⟩
theorem Bd.go (m : MonoR R) (b : Bd R H H2 g xs) (s : Same H2 H3) : Bd R H H3 g xs:=by
  obtain ⟨g0,s0,vs,h,p⟩:=b
  exact ⟨g0,s0.trans s,vs,s _ _ h,aH m (ko s g) p⟩
theorem Bd.sq (b : Bd R H H2 g xs) : ∃ vs,H2 g = some (.lst vs)∧vs.length = xs.length:=by
  obtain ⟨vs,h,p⟩:=b.ex
  exact ⟨vs,h,(fR p).symm⟩
theorem Bd.push (m : MonoR R) (b : Bd R H H2 g xs) (s : Same H2 H3) {x : α} {v : V} (r : R (del H3 g) x v) : ∃ vs,H3 g = some (.lst vs)∧vs.length = xs.length∧Bd R H (upd H3 g (.lst (vs ++ [v]))) g (xs ++ [x]):=by
  obtain ⟨g0,s0,vs,h,p⟩:=b.go m s
  refine ⟨vs,h,(fR p).symm,g0,s0.put g0 _,vs ++ [v],ae,?_⟩
  rw [ng]
  exact L2.Paired.app p (.cons r .nil)
theorem Bd.done (m : MonoR R) (b : Bd R H H2 g xs) : d4 R H2 xs (.ref g):=by
  obtain ⟨g0,s0,vs,h,p⟩:=b
  exact ⟨g,vs,rfl,h,aH m (kH _ _) p⟩
theorem Bd.old (b : Bd R H H2 g xs) : Same H (del H2 g):=fun c o e=>by
  have : c ≠ g:=fun z=>by rw [z,b.g0] at e; cases e
  rw [cw this]; exact b.s _ _ e
end
theorem r6 (F : DefAt K mg "ways_left" cD ["game","rule"]) (T : Txt mg) : Dn P w K mg base "ways_left" 1 ["game","rule"] qp:=by
  have sc:=jP
  refine F.ok sc (fun vs H Q E h=>?_) (fun f cdv A outer s H vs Q E hr h=>?_)
  · obtain ⟨_,_,_,_,rfl,_⟩:=h; rfl
  obtain ⟨v,G,ra,r,rfl,hv,hra,g,rl,few,few2,q⟩:=h
  obtain ⟨a,us,rfl,ha,ul,hat⟩:=dB hv
  refine ⟨_,(af (aq (i:=2) sc.nd rfl (Or.inl rfl) (bC ac))
      (af (aZ PassesOwn.never rfl (gY (K:=K) rfl rfl T.b_zip (aa (pv 0) (aa (pv 1) ac))) (cA rfl (aB (av (i:=3) sc.nd rfl (Or.inl rfl)) (aB (av (i:=4) sc.nd rfl (Or.inl rfl)) bR)))
      (ah (aM (di PySem.F.plainAttrs_list PySem.F.slot_list_append PySem.F.type_list_append aU (pv 2) (aa (b9 (cJ (dW (pv 4))) (dD (lK (K:=K) rfl) rfl T.b_list PyProof.Rows.boot_list (aa (al (ixT (K:=K) rfl) (pv 3) ad (fun _ _=>rfl)) ac)) (bC (aa (br (aa (pv 4) (aa (m4 (jL hr 1) (dD (d5 (K:=K) rfl rfl) rfl T.b_dict PyProof.Rows.boot_dict (aa (al (ixT (K:=K) rfl) (pv 3) ad (fun _ _=>rfl)) ac)) (pv 4) (fun _ _=>rfl)) ac))) ac))) ac)))))
      (ah (aA (pv 2))))),?_⟩
  refine ⟨Nat.zero_le _,fun gl hgl=>?_⟩
  have s1:=ag hgl (.lst [])
  refine ⟨_,rfl,_,rfl,a,ra,rfl,⟨_,SqL.of (s1 _ _ ha)⟩,⟨_,SqL.of (s1 _ _ hra)⟩,fv (K:=K) (a:=a) (b:=ra) (xs:=us) (ys:=tV r) (by rw [aX,ul,rl.1]) (fun i σ H2=>∃ y1 y2 : Option V,σ = [some (.ref a),some (.ref ra),some (.ref gl),y1,y2]∧Bd rWs H H2 gl (aR (G.take i) (r.take i))) ⟨_,_,rfl,Bd.start hgl⟩ (fun i σ H2 _ h=>?_) (fun i x y σ H2 tt hx hy h htt=>?_) (fun σ H2 h=>?_)⟩
  · obtain ⟨_,_,_,b⟩:=h
    exact ⟨SqL.of (b.s _ _ ha),SqL.of (b.s _ _ hra)⟩
  · obtain ⟨y1,y2,rfl,b⟩:=h
    have il : i < G.length:=by rw [← ul]; exact (List.getElem?_eq_some_iff.mp hx).1
    obtain ⟨t,wl,hu,ht,hw⟩:=hat i _ (List.getElem?_eq_getElem il)
    rw [hx] at hu
    injection hu with hu
    subst hu
    have gk:=g _ (List.getElem_mem il)
    have f2:=few2 _ (List.getElem_mem il)
    have s3:=ag htt (.tup [V.ref t,y])
    have b3:=b.go mono_ws s3
    have ht3:=b3.s _ _ ht
    have hw3:=mono_ws.up b3.s hw
    obtain ⟨gvs,hgv,gvl⟩:=b3.sq
    have gll : (aR (G.take i) (r.take i)).length ≤ 16:=by unfold aR; rw [List.length_zipWith,List.length_take,List.length_take]; omega
    refine ⟨tt,_,rfl,SqT.of ae,rfl,_,_,rfl,_,_,rfl,rfl,?_⟩
    refine ⟨_,rfl,.inl ⟨rfl,_,SqL.of hgv⟩,_,rfl,_,rfl,?_⟩
    unfold tV at hy
    rw [List.getElem?_map] at hy
    obtain ⟨o,ho,rfl⟩:=Option.map_eq_some_iff.mp hy
    rcases fh rl (List.getElem?_eq_getElem il) with ⟨e,_⟩ | ⟨wy,hwy,e,_⟩
    · rw [ho] at e
      injection e with e
      subst e
      refine dy ?_
      obtain ⟨_,wus,e0,hwu,pw⟩:=id hw3
      cases e0
      refine ⟨_,rfl,t,_,_,_,rfl,rfl,SqT.of ht3,aj (j:=1) rfl,wl,_,rfl,.inl (SqL.of hwu),fun lc hlc=>?_⟩
      have s4:=s3.trans (ag hlc (.lst wus))
      have b4:=b.go mono_ws s4
      have nlc : lc ≠ gl:=fun z=>by rw [z,hgv] at hlc; cases hlc
      obtain ⟨vs5,k1,k2,b5⟩:=b.push mono_ws s4 (x:=G[i].2) (v:=.ref lc) ⟨lc,wus,rfl,by rw [cw nlc]; exact ae,by
        obtain ⟨_,us0,e0,h0,p0⟩:=mono_ws.up b4.old hw
        cases e0
        have e5:=(s4.trans (Same.refl _)) _ _ (b.s _ _ (show H wl = some (.lst us0) by
          obtain ⟨_,us1,e1,h1,p1⟩:=id hw
          cases e1
          have:=b4.old _ _ h1
          rw [this] at h0; cases h0; exact h1))
        have e6:=ag hlc (.lst wus) _ _ hwu
        rw [e6] at e5
        cases e5
        exact p0⟩
      refine ⟨gl,vs5,_,rfl,rfl,k1,d8 (m:=1000) (by omega),_,_,rfl,?_⟩
      rw [iZ (List.getElem?_eq_getElem il) ho]
      exact b5
    · rw [ho] at e
      injection e with e
      subst e
      refine bp ?_
      have aw : amP G[i].2 wy.1 = wy.2:=gP gk.2.1 hwy
      obtain ⟨_,wus,e0,hwu,pw⟩:=id hw3
      cases e0
      obtain ⟨ts,rfl,t2,t3⟩:=qA pw
      refine ⟨_,rfl,_,rfl,t,_,_,_,rfl,rfl,SqT.of ht3,aj (j:=1) rfl,wl,ts,rfl,SqL.of hwu,fun z hz=>SqT.of (t2 z hz),fun dp hdp=>?_⟩
      rw [t3,ot gk.2.1]
      have s4:=s3.trans (ag hdp (.dK (dcW G[i].2)))
      refine ⟨_,rfl,dp,V.int wy.2,rfl,by rw [← oo gk.2.1 hwy]; exact DGet.k (k:=Sum.inl wy.1) ae,(by show 2 ≤ sizeLine; decide),fun tp htp=>⟨(by show 1 ≤ sizeLine; decide),fun lc hlc=>?_⟩⟩
      have s5:=s4.trans ((ag htp (.tup [V.int wy.1,V.int wy.2])).trans (ag hlc (.lst [V.ref tp])))
      have g5:=s5 _ _ (show H2 gl = some (.lst gvs) by obtain ⟨vs9,h9,_⟩:=b.ex; have:=s3 _ _ h9; rw [hgv] at this; cases this; exact h9)
      have nlc : lc ≠ gl:=fun z=>by
        have:=(s4.trans (ag htp (.tup [V.int wy.1,V.int wy.2]))) _ _ (show H2 gl = some (.lst gvs) by obtain ⟨vs9,h9,_⟩:=b.ex; have:=s3 _ _ h9; rw [hgv] at this; cases this; exact h9)
        rw [← z] at this
        have:=hlc.symm.trans this
        cases this
      have ntp : tp ≠ gl:=fun z=>by
        have:=s4 _ _ (show H2 gl = some (.lst gvs) by obtain ⟨vs9,h9,_⟩:=b.ex; have:=s3 _ _ h9; rw [hgv] at this; cases this; exact h9)
        rw [← z,htp] at this; cases this
      obtain ⟨vs5,k1,k2,b5⟩:=b.push mono_ws s5 (x:=[(wy.1,wy.2)]) (v:=.ref lc) ⟨lc,_,rfl,by rw [cw nlc]; exact ae,.cons ⟨tp,_,_,rfl,by rw [cw ntp]; exact ag hlc _ _ _ ae,rfl,rfl⟩ .nil⟩
      refine ⟨gl,vs5,_,rfl,rfl,k1,d8 (m:=1000) (by omega),_,_,rfl,?_⟩
      rw [iZ (List.getElem?_eq_getElem il) ho]
      show Bd rWs H _ gl (_ ++ [[(wy.1,amP G[i].2 wy.1)]])
      rw [aw]; exact b5
  · obtain ⟨_,_,rfl,b⟩:=h
    rw [ul,List.take_length,show G.length = r.length from rl.1.symm,List.take_length] at b
    exact ⟨_,rfl,q _ _ b.s (b.done mono_ws)⟩
abbrev rR (G : Tb) (q v : Int) : Tb:=fun p=>if p = q then some v else G p
theorem md {G : List (Option Int)} {q v : Int} (h0 : 0 ≤ q) (h1 : q < G.length) : tbF (G.set q.toNat (some v)) = rR (tbF G) q v:=by
  funext x
  unfold tbF rR
  by_cases e : x = q
  · subst e
    rw [if_pos h0,if_pos rfl,List.getElem?_set_self (by omega)]; rfl
  · rw [if_neg e]
    by_cases c : 0 ≤ x
    · rw [if_pos c,List.getElem?_set_ne (by omega)]
      show _ = if 0 ≤ x then _ else _
      rw [if_pos c]
    · rw [if_neg c]
      show _ = if 0 ≤ x then _ else _
      rw [if_neg c]
theorem mZ {n : Nat} {z : Int} (h0 : 0 ≤ z) (h : z.toNat < n) : ixN n z = some z.toNat:=by
  unfold ixN; rw [if_pos h0,if_pos (by omega)]
theorem lP {G : List (Option Int)} {k : Nat} {o : Option Int} : (tV G).set k (oV o) = tV (G.set k o):=by unfold tV; rw [List.map_set]
structure GnI (W : Lf) (z : Int) (pl : Int) (g0 : Int) (ws : List Wy) (G0 G : Tb) : Prop where
  good : GoodG W z G
  up : UpG G0 G
  at_ : geO (G pl) g0
  out : ∀ w ∈ ws,0 ≤ g0 + w.2→geO (G w.1) (g0 + w.2)
def sS : Sp:=fun vs H Q _=>∃ (ga : Addr) (v : V) (pl : Int) (G : List (Option Int)) (ws : List Wy) (W : Lf) (z g0 : Int),vs = [.ref ga,v,.int pl]∧H ga = some (.lst (tV G))∧rWs (del H ga) ws v∧0 ≤ pl∧pl < G.length∧(∀ w ∈ ws,0 ≤ w.1∧w.1 < G.length)∧(∀ w ∈ ws,w ∈ bi W pl)∧GoodG W z (tbF G)∧tbF G pl = some g0 ∧
  ∀ (G' : List (Option Int)),G'.length = G.length→GnI W z pl g0 ws (tbF G) (tbF G')→Q .non (upd H ga (.lst (tV G')))
theorem t6 (F : DefAt K mg "add_gains" cE ["gains","ways","place"]) (T : Txt mg) : Dn P w K mg base "add_gains" 1 ["gains","ways","place"] sS:=by
  have sc:=j4
  refine F.ok sc (fun vs H Q E h=>?_) (fun f cdv A outer s H vs Q E hr h=>?_)
  · obtain ⟨_,_,_,_,_,_,_,_,rfl,_⟩:=h; rfl
  obtain ⟨ga,v,pl,G,ws,W,z,g0,rfl,hga,hv,p0,p1,rg,hout,good,hg0,q⟩:=h
  obtain ⟨wl,us,rfl,hwl,ul,hat⟩:=c8 hv
  have nwl : wl ≠ ga:=fun e=>by rw [e] at hwl; unfold del at hwl; rw [if_pos rfl] at hwl; cases hwl
  have dl : ∀ {c : Addr} {o : HO},del H ga c = some o→c ≠ ga∧H c = some o:=fun {c o} e=>by
    have n : c ≠ ga:=fun z=>by rw [z] at e; unfold del at e; rw [if_pos rfl] at e; cases e
    exact ⟨n,by rw [cw n] at e; exact e⟩
  refine ⟨_,(ah (aZ PassesOwn.never rfl (bj (pv 1)) (cA rfl (aB (av (i:=3) sc.nd rfl (Or.inl rfl)) (aB (av (i:=4) sc.nd rfl (Or.inl rfl)) bR)))
      (af (aq (i:=5) sc.nd rfl (Or.inl rfl) (ao bq (al (ixL (K:=K) rfl) (pv 0) (pv 2) (fun _ _=>rfl)) (pv 4)))
      (ah (aL (PW.pt (eI (ay oB (pv 5) ad (aD _)) (dn (PW.pt (eH (cJ (dW (al (ixL (K:=K) rfl) (pv 0) (pv 3) (fun _ _=>rfl)))) (cZ (ay ml (pv 5) (al (ixL (K:=K) rfl) (pv 0) (pv 3) (fun _ _=>rfl)) (aD _))))))))
      (ah (lH (pv 5) (lO (pv 0) (pv 3) io)))
      az))))),?_⟩
  refine ⟨_,rfl,wl,rfl,⟨_,SqL.of (dl hwl).2⟩,dJ (K:=K) (a:=wl) (xs:=us) (fun i σ H2=>∃ (G' : List (Option Int)) (y1 y2 y3 : Option V),σ = [some (.ref ga),some (.ref wl),some (.int pl),y1,y2,y3]∧H2 = upd H ga (.lst (tV G'))∧G'.length = G.length∧GnI W z pl g0 (ws.take i) (tbF G) (tbF G'))
    ⟨G,_,_,_,rfl,(by funext c; by_cases e : c = ga; subst e; rw [ae,hga]; rw [ar e]),rfl,good,UpG.refl _,⟨g0,hg0,Int.le_refl _⟩,fun _ z=>by cases z⟩ (fun i σ H2 _ h=>?_) (fun i x σ H2 hi h=>?_) (fun σ H2 h=>?_)⟩
  · obtain ⟨_,_,_,_,_,rfl,_⟩:=h
    exact SqL.of (by rw [ar nwl]; exact (dl hwl).2)
  · obtain ⟨G',y1,y2,y3,rfl,rfl,gl,gn⟩:=h
    have il : i < ws.length:=by rw [← ul]; exact (List.getElem?_eq_some_iff.mp hi).1
    obtain ⟨t,hu,ht⟩:=hat i _ (List.getElem?_eq_getElem il)
    rw [hi] at hu
    injection hu with hu
    subst hu
    obtain ⟨nt1,ht1⟩:=dl ht
    have rgi:=rg _ (List.getElem_mem il)
    have oi:=hout _ (List.getElem_mem il)
    have htk : ws.take (i + 1) = ws.take i ++ [ws[i]]:=by rw [List.take_succ,List.getElem?_eq_getElem il]; rfl
    rw [htk]
    generalize ws[i] = wi at ht ht1 rgi oi
    obtain ⟨gp,hgp,hle⟩:=gn.at_
    have a1:=gb (T:=G') p0 (by omega)
    have a2:=gb (T:=G') rgi.1 (by omega)
    rw [hgp] at a1
    refine ⟨t,_,rfl,SqT.of (by rw [ar nt1]; exact ht1),rfl,_,_,rfl,_,_,rfl,rfl,?_⟩
    refine ⟨_,rfl,_,rfl,ga,_,_,_,rfl,rfl,SqL.of ae,a1,_,rfl,_,_,rfl,rfl,?_⟩
    have keep : (¬ (0 ≤ gp + wi.2) ∨ ∃ g,tbF G' wi.1 = some g∧gp + wi.2 ≤ g)→GnI W z pl g0 (ws.take i ++ [wi]) (tbF G) (tbF G'):=fun c=>⟨gn.good,gn.up,gn.at_,fun w' hw' h9=>by
      rcases List.mem_append.mp hw' with y | y
      · exact gn.out w' y h9
      · rw [List.mem_singleton.mp y] at h9 ⊢
        rcases c with c | ⟨g,e,c⟩
        · omega
        · exact ⟨g,e,by omega⟩⟩
    have putg : 0 ≤ gp + wi.2→(∀ g,tbF G' wi.1 = some g→g ≤ gp + wi.2)→GnI W z pl g0 (ws.take i ++ [wi]) (tbF G) (rR (tbF G') wi.1 (gp + wi.2)):=fun h0 hm=>by
      have u:=UpG.put (G:=tbF G') (q:=wi.1) (v:=gp + wi.2) hm
      refine ⟨gn.good.step hgp oi h0,gn.up.trans u,u _ _ gn.at_,fun w' hw' h9=>?_⟩
      rcases List.mem_append.mp hw' with y | y
      · exact u _ _ (gn.out w' y h9)
      · rw [List.mem_singleton.mp y]
        exact ⟨gp + wi.2,if_pos rfl,by omega⟩
    have fin : 0 ≤ gp + wi.2→(∀ g,tbF G' wi.1 = some g→g ≤ gp + wi.2)→∃ (G'' : List (Option Int)),upd (upd H ga (.lst (tV G'))) ga (.lst ((tV G').set wi.1.toNat (V.int (gp + wi.2)))) = upd H ga (.lst (tV G''))∧G''.length = G.length∧GnI W z pl g0 (ws.take i ++ [wi]) (tbF G) (tbF G''):=fun h0 hm=>by
      refine ⟨G'.set wi.1.toNat (some (gp + wi.2)),?_,by rw [List.length_set]; exact gl,by rw [md rgi.1 (by omega)]; exact putg h0 hm⟩
      rw [mW,← lP]; rfl
    refine ⟨_,rfl,_,_,rfl,rfl,_,rfl,?_⟩
    refine bf (fun c=>?_) (fun c=>?_)
    · have c : 0 ≤ gp + wi.2:=of_decide_eq_true c
      refine ⟨_,rfl,_,rfl,ga,_,_,_,rfl,rfl,SqL.of ae,a2,_,rfl,?_⟩
      cases e : tbF G' wi.1 with
      | none =>
        refine dy (dy ?_)
        obtain ⟨G'',e1,e2,e3⟩:=fin c (fun g h=>by rw [e] at h; cases h)
        exact ⟨_,rfl,_,rfl,_,rfl,ga,_,_,_,rfl,rfl,ae,mZ rgi.1 (by rw [aX]; omega),G'',_,_,_,rfl,e1,e2,e3⟩
      | some g =>
        rw [e] at a2
        refine bp ?_
        refine ⟨_,rfl,_,rfl,_,rfl,ga,_,_,_,rfl,rfl,SqL.of ae,a2,_,_,rfl,rfl,_,rfl,?_⟩
        refine bf (fun c2=>?_) (fun c2=>?_)
        · have c2 : g < gp + wi.2:=of_decide_eq_true c2
          obtain ⟨G'',e1,e2,e3⟩:=fin c (fun g' h=>by rw [e] at h; cases h; omega)
          exact ⟨_,rfl,_,rfl,_,rfl,ga,_,_,_,rfl,rfl,ae,mZ rgi.1 (by rw [aX]; omega),G'',_,_,_,rfl,e1,e2,e3⟩
        · have c2 : ¬ g < gp + wi.2:=fun z=>c2 (decide_eq_true z)
          exact ⟨G',_,_,_,rfl,rfl,gl,keep (.inr ⟨g,e,by omega⟩)⟩
    · have c : ¬ 0 ≤ gp + wi.2:=fun z=>c (decide_eq_true z)
      refine bp ?_
      exact ⟨G',_,_,_,rfl,rfl,gl,keep (.inl c)⟩
  · obtain ⟨G',_,_,_,rfl,rfl,gl,gn⟩:=h
    rw [ul,List.take_length] at gn
    exact q G' gl gn
theorem vk : ∀ k : Nat,(List.replicate k [V.non]).flatten = tV (List.replicate k none)
  | 0=>rfl
  | k + 1=>by rw [List.replicate_succ,List.flatten_cons,vk k,List.replicate_succ]; rfl
theorem ph {k : Nat} {x : Int} : tbF (List.replicate k none) x = none:=by
  unfold tbF
  by_cases c : 0 ≤ x
  · rw [if_pos c,List.getElem?_replicate]
    by_cases d : x.toNat < k
    · rw [if_pos d]; rfl
    · rw [if_neg d]; rfl
  · rw [if_neg c]
theorem kE {H : Hp} {W : Lf} {v : V} (h : rLf H W v) : ∃ a us,v = .ref a∧H a = some (.lst us)∧us.length = W.length∧∀ (i : Nat) (r : List Wy),W[i]? = some r→∃ u,us[i]? = some u∧rWs H r u:=by
  obtain ⟨a,us,rfl,ha,pr⟩:=h
  exact ⟨a,us,rfl,ha,(fR pr).symm,fun i r hr=>L2.Paired.at pr hr⟩
theorem kW {W : Lf} {i : Nat} {r : List Wy} (h : W[i]? = some r) : bi W (i : Int) = r:=by unfold bi; rw [show ((i : Int)).toNat = i from rfl,h]; rfl
structure LfOk (W : Lf) : Prop where
  few : W.length ≤ 16
  fw2 : ∀ r ∈ W,r.length ≤ 100
  inw : InW W W.length
def qK : Sp:=fun vs H Q _=>∃ (v : V) (W : Lf) (z : Int),vs = [v,.int z]∧rLf H W v∧LfOk W∧0 ≤ z∧z < W.length∧∀ (b : Bool) H',Same H H'→(b = true→∃ r,Rg W z r)→(b = false→∀ r,Rg W z r→¬ r.length ≤ W.length)→Q (.bl b) H'
theorem sL (F : DefAt K mg "comes_back" bN ["left","start"]) (T : Txt mg) (D_add_gains : Dn P w K mg base "add_gains" 1 ["gains","ways","place"] sS) : Dn P w K mg base "comes_back" 2 ["left","start"] qK:=by
  have sc:=iL
  refine F.ok sc (fun vs H Q E h=>?_) (fun f cdv A outer s H vs Q E hr h=>?_)
  · obtain ⟨_,_,_,rfl,_⟩:=h; rfl
  obtain ⟨v,W,z,rfl,hv,lo,z0,z1,q⟩:=h
  obtain ⟨a,us,rfl,ha,ul,hat⟩:=kE hv
  have few:=lo.few
  refine ⟨_,(af (aq (i:=2) sc.nd rfl (Or.inr rfl) (ao uq (bC (aa fM ac)) (au (bI (K:=K) rfl) rfl T.b_len PySem.boot_len (aa (pv 0) ac))))
      (af (lH ad (lO (pv 2) (pv 1) io))
      (af (aZ PassesOwn.never rfl (b6 rfl T.b_range (aa (au (bI (K:=K) rfl) rfl T.b_len PySem.boot_len (aa (pv 0) ac)) ac)) (av (i:=3) sc.nd rfl (Or.inl rfl))
      (ah (aZ PassesOwn.never rfl (b6 rfl T.b_range (aa (au (bI (K:=K) rfl) rfl T.b_len PySem.boot_len (aa (pv 0) ac)) ac)) (av (i:=4) sc.nd rfl (Or.inr rfl))
      (ah (aL (cJ (j6 (al (ixL (K:=K) rfl) (pv 2) (pv 4) (fun _ _=>rfl))))
      (af (aM (aE D_add_gains hr (aa (pv 2) (aa (al (ixL (K:=K) rfl) (pv 0) (pv 4) (fun _ _=>rfl)) (aa (pv 4) ac)))))
      (ah (aL (qk (kx (ai bN) ["left","start","gains","turn","place"] ["way","amount","start","gains","place"] 2 [1,2,4] (bj (al (ixL (K:=K) rfl) (pv 0) (pv 4) (fun _ _=>rfl))) (fun _ _ _ _ _ _=>(nB (K:=K) rfl rfl (show List.Nodup (["way","amount","start","gains","place"] : List Str) by decide +kernel) rfl rfl rfl rfl)) (fun _ _ _ _ _ _=>(rN (PW.pt (eI (ay cN (pv 0) (pv 2) (aD _)) (dn (ay oB (ao bq (al (ixL (K:=K) rfl) (pv 3) (pv 4) (fun _ _=>rfl)) (pv 1)) ad (aD _))))))) (fun _ _ _ _ _ _=>(pv 0))) (by intro _; rfl))
      (ah (aA cK))
      az)))
      az)))))
      (ah (aA cK))))),?_⟩
  refine ⟨(by show 1 ≤ sizeLine; decide),fun p1 h1=>?_⟩
  have s1:=ag h1 (.lst [V.non])
  have k1 : upd H p1 (.lst [V.non]) p1 = some (.lst [V.non]):=ae
  generalize upd H p1 (.lst [V.non]) = H1 at s1 k1 ⊢
  refine ⟨_,rfl,a,_,rfl,.inl (SqL.of (s1 _ _ ha)),p1,_,_,rfl,rfl,k1,by omega,by omega,bW (m:=1000) (by rw [List.length_singleton]; omega),fun ga hga=>?_⟩
  rw [show (((us.length : Nat) : Int)).toNat = W.length by omega,vk]
  refine ⟨_,rfl,_,rfl,ga,_,_,_,rfl,rfl,ae,mZ z0 (by rw [aX,List.length_replicate]; omega),?_⟩
  have hga0 : H ga = none:=s1.free hga
  have eh : upd (upd H1 ga (.lst (tV (List.replicate W.length none)))) ga (.lst ((tV (List.replicate W.length none)).set z.toNat (V.int 0))) = upd H1 ga (.lst (tV ((List.replicate W.length none).set z.toNat (some 0)))):=by rw [mW,← lP]; rfl
  rw [eh]
  have s2 : Same H (upd H1 ga (.lst (tV ((List.replicate W.length none).set z.toNat (some 0))))):=s1.put hga0 _
  have hg2 : upd H1 ga (.lst (tV ((List.replicate W.length none).set z.toNat (some 0)))) ga = some (.lst (tV ((List.replicate W.length none).set z.toNat (some 0)))):=ae
  generalize upd H1 ga (.lst (tV ((List.replicate W.length none).set z.toNat (some 0)))) = H2 at s2 hg2 ⊢
  have t0 : tbF ((List.replicate W.length none).set z.toNat (some 0)) = rR (tbF (List.replicate W.length none)) z 0:=md z0 (by rw [List.length_replicate]; exact z1)
  have gd0 : GoodG W z (tbF ((List.replicate W.length none).set z.toNat (some 0))):=GoodG.start fun p g e=>by
    rw [t0] at e
    have e : (if p = z then some 0 else tbF (List.replicate W.length none) p) = some g:=e
    by_cases c : p = z
    · rw [if_pos c] at e; cases e; exact ⟨c,rfl⟩
    · rw [if_neg c,ph] at e; cases e
  have cm0 : Cmp W z 0 (tbF ((List.replicate W.length none).set z.toNat (some 0))):=Cmp.start (by rw [t0]; exact if_pos rfl)
  refine ⟨_,rfl,a,_,rfl,.inl (SqL.of (s2 _ _ ha)),((us.length : Nat) : Int),rfl,by omega,by omega,cx (lo:=0) (n:=((us.length : Nat) : Int).toNat) (fun t σ H3=>∃ (G : List (Option Int)) (y1 y2 : Option V),σ = [some (.ref a),some (.int z),some (.ref ga),y1,y2]∧Same H H3∧H3 ga = some (.lst (tV G))∧G.length = W.length∧GoodG W z (tbF G)∧Cmp W z t (tbF G))
    ⟨_,_,_,rfl,s2,hg2,by rw [List.length_set,List.length_replicate],gd0,cm0⟩ (fun t σ H3 ht h=>?_) (fun σ H3 h=>?_)⟩
  · obtain ⟨G,y1,y2,rfl,s3,hg3,gl,gd,cm⟩:=h
    refine ⟨_,rfl,a,_,rfl,.inl (SqL.of (s3 _ _ ha)),((us.length : Nat) : Int),rfl,by omega,by omega,cx (lo:=0) (n:=((us.length : Nat) : Int).toNat) (fun i σ H3=>∃ (G : List (Option Int)) (y1 y2 : Option V),σ = [some (.ref a),some (.int z),some (.ref ga),y1,y2]∧Same H H3∧H3 ga = some (.lst (tV G))∧G.length = W.length∧GoodG W z (tbF G)∧CmpM W z t i (tbF G))
      ⟨_,_,_,rfl,s3,hg3,gl,gd,cm.mid⟩ (fun i σ H4 hi h=>?_) (fun σ H4 h=>?_)⟩
    · clear s3 hg3 gl gd cm
      obtain ⟨G,y1,y2,rfl,s4,hg4,gl,gd,cm⟩:=h
      have il : i < W.length:=by omega
      have ap:=gb (T:=G) (x:=0 + (i : Int)) (by omega) (by omega)
      have ei : (0 + (i : Int)) = ((i : Nat) : Int):=by omega
      refine ⟨_,rfl,_,rfl,ga,_,_,_,rfl,rfl,SqL.of hg4,ap,_,rfl,?_⟩
      rw [ei] at ap ⊢
      cases e : tbF G (i : Int) with
      | none =>
        refine bp ?_
        exact ⟨G,_,_,rfl,s4,hg4,gl,gd,cm.skip e⟩
      | some g =>
        refine dy ?_
        obtain ⟨u,hu,hru⟩:=hat i _ (List.getElem?_eq_getElem il)
        have oi:=kW (List.getElem?_eq_getElem il)
        have fi:=lo.fw2 _ (List.getElem_mem il)
        have rgi : ∀ x ∈ W[i],0 ≤ x.1∧x.1 < (W.length : Int):=fun x hx=>lo.inw (i : Int) x (by rw [oi]; exact hx)
        have dH : Same H (del H4 ga):=fun c o e=>by
          have n : c ≠ ga:=fun z=>by rw [z,hga0] at e; cases e
          rw [cw n]; exact s4 _ _ e
        generalize W[i] = ws at hru oi fi rgi
        obtain ⟨wl,wus,rfl,hwl,wul,wat⟩:=c8 hru
        refine ⟨_,rfl,_,rfl,_,rfl,a,_,_,_,rfl,rfl,SqL.of (s4 _ _ ha),aj hu,_,rfl,ga,_,_,G,ws,W,z,g,rfl,hg4,mono_ws.up dH hru,by omega,by omega,fun x hx=>by have:=rgi x hx; omega,fun x hx=>by rw [oi]; exact hx,gd,e,fun G' gl' gn=>?_⟩
        have s5 : Same H (upd H4 ga (.lst (tV G'))):=s4.put hga0 _
        have hg5 : upd H4 ga (.lst (tV G')) ga = some (.lst (tV G')):=ae
        generalize upd H4 ga (.lst (tV G')) = H5 at s5 hg5 ⊢
        obtain ⟨g',hg',gle⟩:=gn.at_
        have ap':=gb (T:=G') (x:=(i : Int)) (by omega) (by omega)
        rw [hg'] at ap'
        refine ⟨_,rfl,_,rfl,a,_,_,_,rfl,rfl,SqL.of (s5 _ _ ha),aj hu,wl,rfl,⟨_,SqL.of (s5 _ _ hwl)⟩,aP (K:=K) (a:=wl) (xs:=wus) (fun j ys H6=>Same H5 H6∧ys.length ≤ j∧((ys = []∧∀ x ∈ ws.take j,¬ (x.1 = z∧0 ≤ g' + x.2)) ∨ (ys ≠ []∧∃ x ∈ ws,x.1 = z∧0 ≤ g' + x.2))) ⟨Same.refl _,Nat.le_refl _,.inl ⟨rfl,fun _ z=>by cases z⟩⟩ (bW (m:=1000) (by omega)) (fun j ys H6 hj h=>?_) (fun j x ys H6 hj h=>?_) (fun ys H6 h lb hlb=>?_)⟩
        · exact ⟨SqL.of (h.1 _ _ (s5 _ _ hwl)),h.2.1⟩
        · obtain ⟨s6,yl,h⟩:=h
          have jl : j < ws.length:=by rw [← wul]; exact (List.getElem?_eq_some_iff.mp hj).1
          obtain ⟨t,hu2,ht⟩:=wat j _ (List.getElem?_eq_getElem jl)
          rw [hj] at hu2
          injection hu2 with hu2
          subst hu2
          have htk : ws.take (j + 1) = ws.take j ++ [ws[j]]:=by rw [List.take_succ,List.getElem?_eq_getElem jl]; rfl
          rw [htk]
          have hm:=List.getElem_mem jl
          generalize ws[j] = wj at ht hm
          have no : ¬ (wj.1 = z∧0 ≤ g' + wj.2)→Same H5 H6∧ys.length ≤ j + 1∧((ys = []∧∀ x ∈ ws.take j ++ [wj],¬ (x.1 = z∧0 ≤ g' + x.2)) ∨ (ys ≠ []∧∃ x ∈ ws,x.1 = z∧0 ≤ g' + x.2)):=fun c=>by
            refine ⟨s6,by omega,?_⟩
            rcases h with ⟨rfl,h⟩ | h
            · refine .inl ⟨rfl,fun x hx=>?_⟩
              rcases List.mem_append.mp hx with y | y
              · exact h x y
              · rw [List.mem_singleton.mp y]; exact c
            · exact .inr h
          refine ⟨t,_,rfl,SqT.of (s6 _ _ (s5 _ _ ht)),rfl,?_⟩
          refine ⟨_,rfl,_,rfl,rfl,_,rfl,?_⟩
          refine bf (fun c=>?_) (fun c=>?_)
          · have c : wj.1 = z:=by have:=of_decide_eq_true c; injection this
            refine ⟨_,rfl,_,rfl,ga,_,_,_,rfl,rfl,SqL.of (s6 _ _ hg5),ap',_,rfl,_,_,rfl,rfl,_,_,rfl,rfl,_,rfl,?_⟩
            refine bf (fun c2=>?_) (fun c2=>?_)
            · have c2 : 0 ≤ g' + wj.2:=of_decide_eq_true c2
              exact ⟨_,rfl,s6,by rw [List.length_append,List.length_singleton]; omega,.inr ⟨by simp,wj,hm,c,c2⟩⟩
            · exact no fun y=>c2 (decide_eq_true y.2)
          · exact bp (no fun y=>c (decide_eq_true (by rw [y.1])))
        · obtain ⟨s6,yl,h⟩:=h
          rw [wul,List.take_length] at h
          have s7:=s6.trans (ag hlb (.lst ys))
          refine ⟨!ys.isEmpty,?_,?_⟩
          · exact .inl ⟨ys,SqL.of ae,rfl⟩
          · rcases h with ⟨rfl,h⟩ | ⟨hne,x,hx,hxz,hx0⟩
            · refine bp ?_
              refine ⟨G',_,_,rfl,s5.trans s7,s7 _ _ hg5,by omega,gn.good,cm.swp gn.up (fun x hx gg hgg h0=>?_) (fun x hx hxz gg hgg h0=>?_)⟩
              · rw [e] at hgg; cases hgg
                exact gn.out x (by rw [oi] at hx; exact hx) h0
              · rw [hg'] at hgg; cases hgg
                exact h x (by rw [oi] at hx; exact hx) ⟨hxz,h0⟩
            · have hie : (!ys.isEmpty) = true:=by cases ys with | nil=>exact absurd rfl hne | cons a b=>rfl
              rw [hie]
              refine dy ?_
              exact q true _ (s5.trans s7) (fun _=>gn.good.back hg' (by rw [oi]; exact hx) hxz hx0) (fun z=>by cases z)
    · obtain ⟨G,y1,y2,rfl,s4,hg4,gl,gd,cm⟩:=h
      rw [show (((us.length : Nat) : Int)).toNat = W.length by omega] at cm
      exact ⟨G,_,_,rfl,s4,hg4,gl,gd,cm.done lo.inw ⟨z0,z1⟩⟩
  · obtain ⟨G,y1,y2,rfl,s3,hg3,gl,gd,cm⟩:=h
    rw [show (((us.length : Nat) : Int)).toNat = W.length by omega] at cm
    exact q false _ s3 (fun z=>by cases z) fun _ r hr hl=>cm.none hr hl
def vi (K : PySem.W.Frag) : Sp:=fun vs H Q _=>∃ (v : V) (W : Lf),vs = [v]∧rLf (nt H) W v∧LfOk W∧(∀ r ∈ W,r ≠ [])∧Tbs K H∧∀ (l : Addr) (T : List (Option Int)) (H' : Hp),Sm H H'→Tbs K H'→nt H l = none→nt H' l = some (.lst (tV T))→T.length = W.length→Nds W W.length (tbF T)→Q (.ref l) H'
theorem oK {G : List (Option Int)} {i : Nat} {o : Option Int} (h1 : i < G.length) : tbF (G.set i o) = fun p=>if p = (i : Int) then o else tbF G p:=by
  funext x
  unfold tbF
  by_cases e : x = (i : Int)
  · subst e
    rw [if_pos (by omega),if_pos rfl,show ((i : Int)).toNat = i from rfl,List.getElem?_set_self h1]; rfl
  · rw [if_neg e]
    by_cases c : 0 ≤ x
    · rw [if_pos c,if_pos c,List.getElem?_set_ne (by omega)]
    · rw [if_neg c,if_neg c]
theorem vn (F : DefAt K mg "needs_left" bT ["left"]) (T : Txt mg) (D_comes_back : Dn P w K mg base "comes_back" 2 ["left","start"] qK) (D_least_needy : Dn P w K mg base "least_needy" 4 ["ways","purses"] (pe K false)) (D_need_by : Dn P w K mg base "need_by" 1 ["purses","place","amount"] ef) (D_is_more : Dn P w K mg base "is_more" 2 ["need","other"] ls) : Dn P w K mg base "needs_left" 5 ["left"] (vi K):=by
  have sc:=iO
  refine F.ok sc (fun vs H Q E h=>?_) (fun f cdv A outer s H vs Q E hr h=>?_)
  · obtain ⟨_,_,rfl,_⟩:=h; rfl
  obtain ⟨v,W,rfl,hv,lo,wne,tb,q⟩:=h
  have few:=lo.few
  obtain ⟨a,us,rfl,ha,ul,hat⟩:=kE hv
  have hvH:=mono_lf.up ak hv
  refine ⟨_,(af (mt (i:=1) (ai bT) ["left","table","turn","place","ways","way","need"] ["place","left"] 1 [0] sc.nd rfl rfl (b6 rfl T.b_range (aa (au (bI (K:=K) rfl) rfl T.b_len PySem.boot_len (aa (pv 0) ac)) ac)) (fun _ _ _ _ _ _=>(db (show List.Nodup (["place","left"] : List Str) by decide +kernel) rfl rfl)) (fun _ _ _ _ _ _=>bE) (fun _ _ _ _ _ _=>(b9 (bJ (aE D_comes_back hr (aa (pv 1) (aa (pv 0) ac)))) ad fM)))
      (af (aZ PassesOwn.never rfl (b6 rfl T.b_range (aa (au (bI (K:=K) rfl) rfl T.b_len PySem.boot_len (aa (pv 0) ac)) ac)) (av (i:=2) sc.nd rfl (Or.inl rfl))
      (ah (aZ PassesOwn.never rfl (mJ (K:=K) rfl rfl T.b_enumerate (aa (pv 0) ac)) (cA rfl (aB (av (i:=3) sc.nd rfl (Or.inl rfl)) (aB (av (i:=4) sc.nd rfl (Or.inl rfl)) bR)))
      (af (aq (i:=5) sc.nd rfl (Or.inl rfl) (aE D_least_needy hr (aa (pv 4) (aa (pv 1) ac))))
      (af (aq (i:=6) sc.nd rfl (Or.inl rfl) (aE D_need_by hr (aa (pv 1) (aa (al (ixT (K:=K) rfl) (pv 5) ad (fun _ _=>rfl)) (aa (al (ixT (K:=K) rfl) (pv 5) ad (fun _ _=>rfl)) ac)))))
      (ah (aL (bJ (aE D_is_more hr (aa (al (ixL (K:=K) rfl) (pv 1) (pv 3) (fun _ _=>rfl)) (aa (pv 6) ac))))
      (ah (lH (pv 6) (lO (pv 1) (pv 3) io)))
      az)))))))
      (ah (aA (pv 1))))),?_⟩
  refine ⟨_,rfl,a,_,rfl,.inl (SqL.of (ak _ _ ha)),((us.length : Nat) : Int),rfl,by omega,by omega,ki (lo:=0) (n:=((us.length : Nat) : Int).toNat) (fun i ys H2=>Same H H2∧∃ T0 : List (Option Int),ys = tV T0∧T0.length = i∧∀ j,j < i→(T0[j]? = some (some 0)∧∃ r,Rg W (j : Int) r) ∨ (T0[j]? = some none∧∀ r,Rg W (j : Int) r→¬ r.length ≤ W.length)) ⟨Same.refl _,[],rfl,rfl,fun j hj=>absurd hj (Nat.not_lt_zero j)⟩ (bW (m:=1000) (by omega)) (fun i ys H2 hi h=>?_) (fun i ys H2 hi h=>?_) (fun ys H2 h tl htl=>?_)⟩
  · obtain ⟨_,T0,rfl,l0,_⟩:=h
    rw [aX,l0]; exact Nat.le_refl _
  · obtain ⟨s2,T0,rfl,l0,h0⟩:=h
    refine cV ?_
    refine ⟨_,rfl,_,rfl,_,W,0 + (i : Int),rfl,mono_lf.up s2 hvH,lo,by omega,by omega,fun b H3 s3 b1 b2=>⟨b,rfl,?_⟩⟩
    have ei : (0 + (i : Int)) = ((i : Nat) : Int):=by omega
    rw [ei] at b1 b2
    have more : ∀ o : Option Int,((o = some 0∧∃ r,Rg W (i : Int) r) ∨ (o = none∧∀ r,Rg W (i : Int) r→¬ r.length ≤ W.length))→Same H H3∧∃ T1 : List (Option Int),tV T0 ++ [oV o] = tV T1∧T1.length = i + 1∧∀ j,j < i + 1→(T1[j]? = some (some 0)∧∃ r,Rg W (j : Int) r) ∨ (T1[j]? = some none∧∀ r,Rg W (j : Int) r→¬ r.length ≤ W.length):=fun o ho=>by
      refine ⟨s2.trans s3,T0 ++ [o],by unfold tV; rw [List.map_append]; rfl,by rw [List.length_append,l0]; rfl,fun j hj=>?_⟩
      rcases Nat.lt_or_ge j i with c | c
      · rw [List.getElem?_append_left (by omega)]; exact h0 j c
      · have : j = i:=by omega
        subst this
        rw [List.getElem?_append_right (by omega),l0,Nat.sub_self]
        rcases ho with ⟨rfl,h⟩ | ⟨rfl,h⟩
        · exact .inl ⟨rfl,h⟩
        · exact .inr ⟨rfl,h⟩
    cases b with
    | true=>exact dy (more (some 0) (.inl ⟨rfl,b1 rfl⟩))
    | false=>exact bp (more none (.inr ⟨rfl,b2 rfl⟩))
  obtain ⟨s2,T0,rfl,l0,h0⟩:=h
  rw [show (((us.length : Nat) : Int)).toNat = W.length by omega] at l0 h0
  have t0n : ∀ {x v : Int},tbF T0 x = some v→v = 0∧0 ≤ x∧x < (W.length : Int)∧∃ r,Rg W x r:=fun {x v} e=>by
    unfold tbF at e
    by_cases c : 0 ≤ x
    · rw [if_pos c] at e
      have xl : x.toNat < T0.length:=by
        rcases Nat.lt_or_ge x.toNat T0.length with z | z
        · exact z
        · rw [List.getElem?_eq_none z] at e; cases e
      rcases h0 x.toNat (by omega) with ⟨e1,r⟩ | ⟨e1,_⟩
      · rw [e1] at e
        have e : some 0 = some v:=e
        injection e with e
        have ex : ((x.toNat : Nat) : Int) = x:=by omega
        rw [ex] at r
        exact ⟨e.symm,c,by omega,r⟩
      · rw [e1] at e; cases e
    · rw [if_neg c] at e; cases e
  obtain ⟨Z,hZd⟩ : ∃ Z : Int→Prop,Z = fun x=>tbF T0 x = some 0:=⟨_,rfl⟩
  have hZb : ∀ x s,s ≠ []→Wk W x s x→0 ≤ sm s→∃ w ∈ s,Z w.1:=lU lo.inw fun z z0 z1 ⟨r,hr,hl⟩=>by
    rw [hZd]
    rcases h0 z.toNat (by omega) with ⟨e1,_⟩ | ⟨_,e2⟩
    · show tbF T0 z = some 0
      unfold tbF; rw [if_pos z0,e1]; rfl
    · exact absurd hl (e2 r (by rw [show ((z.toNat : Nat) : Int) = z by omega]; exact hr))
  have hB : ∀ z,Z z→0 ≤ z∧z < (W.length : Int)∧∃ s,s ≠ []∧Wk W z s z∧OkS 0 s:=fun z hz=>by
    rw [hZd] at hz
    obtain ⟨_,h1,h2,r,hr⟩:=t0n hz
    exact ⟨h1,h2,r,hr.1,hr.2.1,hr.2.2⟩
  have tk0 : Tk W Z (tbF T0):=⟨fun x v e=>by rw [(t0n e).1]; exact Int.le_refl _,fun x hx=>by rw [hZd] at hx; exact hx,fun x v e=>by
    obtain ⟨rfl,_⟩:=t0n e
    exact ⟨[],x,rfl,by rw [hZd]; exact e,Int.le_refl _⟩,fun x v e=>by
    obtain ⟨rfl,_⟩:=t0n e
    exact .inl (by rw [hZd]; exact e)⟩
  have rn0 : Rnd W Z W.length 0 (tbF T0):=Rnd.start fun x hx=>by rw [hZd] at hx; exact hx
  have htl0 : H tl = none:=s2.free htl
  have htln : nt H tl = none:=dZ htl0
  have S3 : Sm H (upd H2 tl (.lst (tV T0))):=Sm.of (s2.trans (ag htl _))
  have tb3 : Tbs K (upd H2 tl (.lst (tV T0))):=tb.up (s2.trans (ag htl _))
  have hT3 : upd H2 tl (.lst (tV T0)) tl = some (.lst (tV T0)):=ae
  generalize upd H2 tl (.lst (tV T0)) = H3 at S3 tb3 hT3 ⊢
  refine ⟨_,rfl,a,_,rfl,.inl (SqL.of (S3.lst ha)),((us.length : Nat) : Int),rfl,by omega,by omega,cx (lo:=0) (n:=((us.length : Nat) : Int).toNat) (fun t σ H4=>∃ (TT : List (Option Int)) (y1 y2 y3 y4 y5 : Option V),σ = [some (.ref a),some (.ref tl),y1,y2,y3,y4,y5]∧Sm H H4∧Tbs K H4∧H4 tl = some (.lst (tV TT))∧TT.length = W.length∧Tk W Z (tbF TT)∧Rnd W Z W.length t (tbF TT))
    ⟨T0,_,_,_,_,_,rfl,S3,tb3,hT3,l0,tk0,rn0⟩ (fun t σ H4 ht h=>?_) (fun σ H4 h=>?_)⟩
  · obtain ⟨TT,y1,y2,y3,y4,y5,rfl,S4,tb4,hT4,l4,tk4,rn4⟩:=h
    refine ⟨_,rfl,a,rfl,⟨_,SqL.of (S4.lst ha)⟩,kD (K:=K) (a:=a) (xs:=us) (fun i σ H5=>∃ (TT : List (Option Int)) (y1 y2 y3 y4 y5 : Option V),σ = [some (.ref a),some (.ref tl),y1,y2,y3,y4,y5]∧Sm H H5∧Tbs K H5∧H5 tl = some (.lst (tV TT))∧TT.length = W.length∧Tk W Z (tbF TT)∧Mid W Z W.length t i (tbF TT))
      ⟨TT,_,_,_,_,_,rfl,S4,tb4,hT4,l4,tk4,rn4.mid⟩ (fun i σ H5 _ h=>?_) (fun i x σ H5 tt hi h htt=>?_) (fun σ H5 h=>?_)⟩
    · obtain ⟨_,_,_,_,_,_,_,S5,_⟩:=h
      exact SqL.of (S5.lst ha)
    · clear S4 tb4 hT4 l4 tk4 rn4
      obtain ⟨TT,y1,y2,y3,y4,y5,rfl,S5,tb5,hT5,l5,tk5,md5⟩:=h
      have il : i < W.length:=by rw [← ul]; exact (List.getElem?_eq_some_iff.mp hi).1
      obtain ⟨u,hu,hru⟩:=hat i _ (List.getElem?_eq_getElem il)
      rw [hi] at hu
      injection hu with hu
      subst hu
      have oi:=kW (List.getElem?_eq_getElem il)
      have wn:=wne _ (List.getElem_mem il)
      generalize W[i] = ws at hru oi wn
      have rgi : ∀ y ∈ ws,0 ≤ y.1∧y.1 < (W.length : Int):=fun y hy=>lo.inw (i : Int) y (by rw [oi]; exact hy)
      have s6:=ag htt (.tup [V.int ((i : Nat) : Int),x])
      have S6:=S5.trans (Sm.of s6)
      have tb6:=tb5.up s6
      have hT6:=s6 _ _ hT5
      refine ⟨tt,_,rfl,SqT.of ae,rfl,_,_,rfl,_,_,rfl,rfl,?_⟩
      generalize upd H5 tt (.tup [V.int ((i : Nat) : Int),x]) = H6 at S6 tb6 hT6 ⊢
      refine ⟨_,rfl,_,rfl,x,tl,ws,TT,rfl,mono_ws.up S6 hru,bo hT6,wn,fun y hy=>by have:=rgi y hy; omega,tb6,fun wt wy H7 S7 tb7 hwy best hwt=>?_⟩
      have hT7:=S7.lst (bo hT6)
      have hwt7:=ak _ _ hwt
      have rgw:=rgi wy hwy
      refine ⟨_,rfl,_,rfl,wt,_,_,_,rfl,rfl,SqT.of hwt7,aj (j:=0) rfl,_,rfl,wt,_,_,_,rfl,rfl,SqT.of hwt7,aj (j:=1) rfl,tl,TT,wy.1,wy.2,rfl,hT7,rgw.1,by omega,?_⟩
      have api:=gb (T:=TT) (x:=(i : Int)) (by omega) (by omega)
      refine ⟨_,rfl,_,rfl,tl,_,_,_,rfl,rfl,SqL.of hT7,api,_,rfl,tbF TT (i : Int),ax (tbF TT) wy,rfl,fun r H8 s8 hr8=>⟨r,rfl,?_⟩⟩
      have S8:=(S6.trans S7).trans (Sm.of s8)
      have tb8:=tb7.up s8
      have hT8:=s8 _ _ hT7
      have best' : ∀ w' ∈ bi W (i : Int),leO (ax (tbF TT) wy) (ax (tbF TT) w'):=fun w' hw'=>by
        rw [oi] at hw'
        have:=best w' hw'
        rwa [if_neg (by decide)] at this
      cases r with
      | false =>
        refine bp ?_
        have hle : leO (tbF TT (i : Int)) (ax (tbF TT) wy):=Classical.byContradiction fun z=>by have:=hr8.mpr z; cases this
        have sw : Swp W (i : Int) (tbF TT) (tbF TT):=⟨fun _ _=>rfl,leO.refl _,fun w' hw'=>hle.trans (best' w' hw'),.inl rfl⟩
        exact ⟨TT,_,_,_,_,_,rfl,S8,tb8,hT8,l5,tk5,md5.swp lo.inw tk5 sw⟩
      | true =>
        refine dy ?_
        have hle : ¬ leO (tbF TT (i : Int)) (ax (tbF TT) wy):=hr8.mp rfl
        have sw : Swp W (i : Int) (tbF TT) (tbF (TT.set i (ax (tbF TT) wy))):=by
          rw [oK (by omega)]
          exact ⟨fun q hq=>if_neg hq,by rw [if_pos rfl]; exact (leO.total _ _).resolve_left hle,fun w' hw'=>by rw [if_pos rfl]; exact best' w' hw',.inr ⟨wy,by rw [oi]; exact hwy,if_pos rfl⟩⟩
        have tk':=tk5.swp sw
        refine ⟨_,rfl,_,rfl,_,rfl,tl,_,_,_,rfl,rfl,hT8,mZ (by omega) (by rw [aX]; omega),TT.set i (ax (tbF TT) wy),_,_,_,_,_,rfl,S8.put htln _,tb8.put hT8,?_,by rw [List.length_set]; exact l5,tk',md5.swp lo.inw tk' sw⟩
        rw [ae,← lP]; rfl
    · obtain ⟨TT,y1,y2,y3,y4,y5,rfl,S5,tb5,hT5,l5,tk5,md5⟩:=h
      rw [ul] at md5
      exact ⟨TT,_,_,_,_,_,rfl,S5,tb5,hT5,l5,tk5,md5.done⟩
  · obtain ⟨TT,y1,y2,y3,y4,y5,rfl,S4,tb4,hT4,l4,tk4,rn4⟩:=h
    rw [show (((us.length : Nat) : Int)).toNat = W.length by omega] at rn4
    exact ⟨_,rfl,q tl TT H4 S4 tb4 htln (bo hT4) l4 (tO lo.inw hZb hB tk4 rn4)⟩
def qu : Sp:=fun vs H Q _=>∃ (g0 ra : Addr) (gv : List V) (hand : Int) (R : List (Option Int)),vs = [.ref g0,.int hand,.ref ra]∧H g0 = some (.lst gv)∧H ra = some (.lst (tV R))∧gv.length = R.length∧(∀ (i : Nat) (z : Int),R[i]? = some (some z)→∃ (t wa : Addr) (ps : List Int),gv[i]? = some (.ref t)∧H t = some (.tup [.int hand,.int 0,.ref wa])∧H wa = some (.lst (ps.map V.int))∧z ∈ ps)∧∀ H',Same H H'→Q .non H'
theorem gj {R : List (Option Int)} {i : Nat} {x : V} (h : (tV R)[i]? = some x) : ∃ o,R[i]? = some o∧x = oV o:=by
  unfold tV at h
  rw [List.getElem?_map] at h
  obtain ⟨o,ho,rfl⟩:=Option.map_eq_some_iff.mp h
  exact ⟨o,ho,rfl⟩
theorem sk (F : DefAt K mg "check_rule" cn ["game","hand","rule"]) (T : Txt mg) (D_is_whole : Dn P w K mg base "is_whole" 1 ["value"] dY) : Dn P w K mg base "check_rule" 2 ["game","hand","rule"] qu:=by
  have sc:=iP
  refine F.ok sc (fun vs H Q E h=>?_) (fun f cdv A outer s H vs Q E hr h=>?_)
  · obtain ⟨_,_,_,_,_,rfl,_⟩:=h; rfl
  obtain ⟨g0,r,gv,hand,R,rfl,hg0,hR,hlen,hRO,q⟩:=h
  have hlen2 : gv.length = (tV R).length:=by rw [aX]; exact hlen
  refine ⟨_,(af (aL (PW.pt (eH (cz (bJ (au (fX (K:=K) rfl (T := "list")) rfl T.b_isinstance PyProof.Rows.boot_isinstance (aa (pv 2) (aa (dj (v:=.ty "list") rfl T.b_list PyProof.Rows.boot_list rfl) ac))))) (cZ (ay gc (au (bI (K:=K) rfl) rfl T.b_len PySem.boot_len (aa (pv 2) ac)) (au (bI (K:=K) rfl) rfl T.b_len PySem.boot_len (aa (pv 0) ac)) (aD _)))))
      (ah fA)
      az)
      (ah (aZ PassesOwn.never rfl (gY (K:=K) rfl rfl T.b_zip (aa (pv 0) (aa (pv 2) ac))) (cA rfl (aB (av (i:=3) sc.nd rfl (Or.inl rfl)) (aB (av (i:=4) sc.nd rfl (Or.inl rfl)) bR)))
      (af (aL (cJ (dW (pv 4)))
      (ah f6)
      az)
      (af (aL (ay gc (al (ixT (K:=K) rfl) (pv 3) ad (fun _ _=>rfl)) (pv 1) (aD _))
      (ah fA)
      az)
      (ah (aL (PW.pt (eH (cz (bJ (aE D_is_whole hr (aa (pv 4) ac)))) (cZ (ay (gM (K:=K) rfl) (pv 4) (al (ixT (K:=K) rfl) (pv 3) ad (fun _ _=>rfl)) rfl))))
      (ah fA)
      az))))))),?_⟩
  refine ⟨_,rfl,_,"list",_,rfl,.inl ⟨rfl,.inl ⟨_,hR⟩⟩,dQ _,_,rfl,?_⟩
  refine bp ?_
  refine ⟨_,rfl,r,_,rfl,.inl (SqL.of hR),_,rfl,g0,_,rfl,.inl (SqL.of hg0),rfl,_,rfl,?_⟩
  refine bf (fun c=>?_) (fun c=>?_)
  · exfalso; simp [hlen2] at c
  refine ⟨_,rfl,_,rfl,g0,r,rfl,⟨_,SqL.of hg0⟩,⟨_,SqL.of hR⟩,fv (K:=K) (a:=g0) (b:=r) (xs:=gv) (ys:=tV R) hlen2 (fun i σ H2=>Same H H2∧∃ y1 y2 : Option V,σ = [some (.ref g0),some (.int hand),some (.ref r),y1,y2])
    ⟨Same.refl _,_,_,rfl⟩ (fun i σ H2 _ h=>⟨SqL.of (h.1 _ _ hg0),SqL.of (h.1 _ _ hR)⟩) (fun i x y σ H2 Tt hi hj h hT=>?_) (fun σ H2 h=>?_)⟩
  · obtain ⟨s2,y1,y2,rfl⟩:=h
    obtain ⟨o,ho,rfl⟩:=gj hj
    have s3:=s2.trans (ag hT (.tup [x,oV o]))
    refine ⟨Tt,_,rfl,SqT.of ae,rfl,_,_,rfl,_,_,rfl,rfl,?_⟩
    cases o with
    | none =>
      refine ⟨_,rfl,_,rfl,?_⟩
      refine dy ?_
      exact ⟨s3,_,_,rfl⟩
    | some z =>
      obtain ⟨t,wa,ps,p1,p2,p3,hz⟩:=hRO i z ho
      rw [hi] at p1; cases p1
      refine ⟨_,rfl,_,rfl,?_⟩
      refine bp ?_
      refine ⟨_,rfl,t,_,_,_,rfl,rfl,SqT.of (s3 _ _ p2),aj (j:=0) rfl,_,rfl,rfl,_,rfl,?_⟩
      refine bf (fun c=>?_) (fun c=>?_)
      · exfalso; simp at c
      refine ⟨_,rfl,z,rfl,_,rfl,?_⟩
      refine bp ?_
      refine ⟨_,rfl,_,rfl,t,_,_,_,rfl,rfl,SqT.of (s3 _ _ p2),aj (j:=2) rfl,wa,_,rfl,.inl (SqL.of (s3 _ _ p3)),rfl,eO _,_,rfl,?_⟩
      show if (!inV (.int z) (ps.map V.int)) = true then _ else _
      rw [er]
      refine bf (fun c=>?_) (fun c=>?_)
      · exfalso; simp [hz] at c
      · exact ⟨s3,_,_,rfl⟩
  · exact q _ h.1
def vF (H : Hp) (row : aF) (v : V) : Prop:=∃ (t wa : Addr),v = .ref t∧H t = some (.tup [.int row.1,.int 0,.ref wa])∧H wa = some (.lst ((row.2.map (·.1)).map V.int))
def mR : Sp:=fun vs H Q _=>∃ (v : V) (G : List aF) (ra : Addr) (r : List (Option Int)),vs = [v,.ref ra]∧rPu H G v∧H ra = some (.lst (tV r))∧RlP G r∧G.length ≤ 16∧(∀ row ∈ G,row.2.length ≤ 100)∧∀ H',Same H H'→Q .non H'
theorem ma (F : DefAt K mg "check_spender" a9 ["game","rule"]) (T : Txt mg) (D_check_rule : Dn P w K mg base "check_rule" 2 ["game","hand","rule"] qu) : Dn P w K mg base "check_spender" 3 ["game","rule"] mR:=by
  have sc:=fW
  refine F.ok sc (fun vs H Q E h=>?_) (fun f cdv A outer s H vs Q E hr h=>?_)
  · obtain ⟨_,_,_,_,rfl,_⟩:=h; rfl
  obtain ⟨v,G,ra,r,rfl,hv,hra,rl,few,few2,q⟩:=h
  obtain ⟨a,us,rfl,ha,ul,hat⟩:=dB hv
  refine ⟨_,(af (aM (aE D_check_rule hr (aa (kx (ai a9) ["game","rule","row","way"] ["hand","ways"] 2 [] (bj (pv 0)) (fun _ _ _ _ _ _=>(nB (K:=K) rfl rfl (show List.Nodup (["hand","ways"] : List Str) by decide +kernel) rfl rfl rfl rfl)) (fun _ _ _ _ _ _=>bE) (fun _ _ _ _ _ _=>(br (aa (pv 0) (aa ad (aa (by exact (gD  ["hand","ways"] ["place","amount"] 2 [] (fD (pv 1)) (fun _ _ _ _ _ _=>(nB (K:=K) rfl rfl (show List.Nodup (["place","amount"] : List Str) by decide +kernel) rfl rfl rfl rfl)) (fun _ _ _ _ _ _=>bE) (fun _ _ _ _ _ _=>(pv 0)))) ac)))))) (aa ad (aa (pv 1) ac)))))
      (ah (aZ PassesOwn.never rfl (gY (K:=K) rfl rfl T.b_zip (aa (pv 0) (aa (pv 1) ac))) (cA rfl (aB (av (i:=2) sc.nd rfl (Or.inl rfl)) (aB (av (i:=3) sc.nd rfl (Or.inl rfl)) bR)))
      (ah (aL (PW.pt (eI (ay cN (al (ixT (K:=K) rfl) (pv 2) ad (fun _ _=>rfl)) ad (aD _)) (dn (cJ (dW (pv 3))))))
      (ah fA)
      az))))),?_⟩
  refine ⟨_,rfl,_,rfl,⟨_,SqL.of ha⟩,aP (K:=K) (a:=a) (xs:=us) (fun i ys H2=>Same H H2∧ys.length = i∧∀ j row,j < i→G[j]? = some row→∃ y,ys[j]? = some y∧vF H2 row y) ⟨Same.refl _,rfl,fun j row hj=>absurd hj (Nat.not_lt_zero j)⟩ (bW (m:=1000) (by omega)) (fun i ys H2 hi h=>?_) (fun i x ys H2 hi h=>?_) (fun ys H2 h lb hlb=>?_)⟩
  · exact ⟨SqL.of (h.1 _ _ ha),by omega⟩
  · obtain ⟨s2,yl,h⟩:=h
    have il : i < G.length:=by rw [← ul]; exact (List.getElem?_eq_some_iff.mp hi).1
    obtain ⟨t,wl,hu,ht,hw⟩:=hat i _ (List.getElem?_eq_getElem il)
    rw [hi] at hu
    injection hu with hu
    subst hu
    have f2:=few2 _ (List.getElem_mem il)
    obtain ⟨row,hrow⟩ : ∃ row,row = G[i]:=⟨_,rfl⟩
    rw [← hrow] at ht hw f2
    obtain ⟨_,wus,e0,hwl,wul,wat⟩:=c8 hw
    cases e0
    refine cq (SqT.of (s2 _ _ ht)) rfl ?_
    refine ⟨_,rfl,_,rfl,wl,rfl,⟨_,SqL.of (s2 _ _ hwl)⟩,aP (K:=K0) (a:=wl) (xs:=wus) (fun j zs H3=>H3 = H2∧zs = ((row.2.take j).map (·.1)).map V.int) ⟨rfl,rfl⟩ (bW (m:=1000) (by omega)) (fun j zs H3 hj h=>?_) (fun j x zs H3 hj h=>?_) (fun zs H3 h lc hlc=>?_)⟩
    · obtain ⟨rfl,rfl⟩:=h
      exact ⟨SqL.of (s2 _ _ hwl),by rw [List.length_map,List.length_map,List.length_take]; omega⟩
    · obtain ⟨rfl,rfl⟩:=h
      have jl : j < row.2.length:=by rw [← wul]; exact (List.getElem?_eq_some_iff.mp hj).1
      obtain ⟨t2,hu2,ht2⟩:=wat j _ (List.getElem?_eq_getElem jl)
      rw [hj] at hu2
      injection hu2 with hu2
      subst hu2
      refine cq (SqT.of (s2 _ _ ht2)) rfl ?_
      refine ⟨_,rfl,rfl,?_⟩
      rw [List.take_succ,List.getElem?_eq_getElem jl,List.map_append,List.map_append]; rfl
    · obtain ⟨rfl,rfl⟩:=h
      rw [wul,List.take_length]
      refine ⟨(by show 3 ≤ sizeLine; decide),fun tp htp=>?_⟩
      have s4:=(ag hlc (.lst ((row.2.map (·.1)).map V.int)))
      have s5:=s4.trans (ag htp (.tup [V.int row.1,V.int 0,V.ref lc]))
      refine ⟨s2.trans s5,by rw [List.length_append,yl]; rfl,fun j row' hj hr'=>?_⟩
      rcases Nat.lt_or_ge j i with c | c
      · obtain ⟨y,hy,t9,wa9,e9,k1,k2⟩:=h j row' c hr'
        exact ⟨y,by rw [List.getElem?_append_left (by omega)]; exact hy,t9,wa9,e9,s5 _ _ k1,s5 _ _ k2⟩
      · have : j = i:=by omega
        subst this
        rw [List.getElem?_eq_getElem il,← hrow] at hr'
        injection hr' with hr'
        subst hr'
        exact ⟨.ref tp,by rw [List.getElem?_append_right (by omega),yl,Nat.sub_self]; rfl,tp,lc,rfl,ae,ag htp _ _ _ ae⟩
  · obtain ⟨s2,yl,h⟩:=h
    have s3:=s2.trans (ag hlb (.lst ys))
    refine ⟨_,rfl,lb,ra,ys,1,r,rfl,ae,s3 _ _ hra,by rw [yl,ul,rl.1],fun i z hz=>?_,fun H4 s4=>?_⟩
    · have il : i < G.length:=by have:=(List.getElem?_eq_some_iff.mp hz).1; rw [rl.1] at this; exact this
      obtain ⟨y,hy,t9,wa9,rfl,k1,k2⟩:=h i _ (by omega) (List.getElem?_eq_getElem il)
      have sb:=ag hlb (.lst ys)
      rcases fh rl (List.getElem?_eq_getElem il) with ⟨e,_⟩ | ⟨wy,hwy,e,h1⟩
      · rw [hz] at e; cases e
      · rw [hz] at e
        have e : some (some z) = some (some wy.1):=e
        injection e with e
        injection e with e
        rw [h1] at k1
        exact ⟨t9,wa9,_,hy,sb _ _ k1,sb _ _ k2,by rw [e]; exact List.mem_map.mpr ⟨wy,hwy,rfl⟩⟩
    · have s5:=s3.trans s4
      refine ⟨_,rfl,_,rfl,a,ra,rfl,⟨_,SqL.of (s5 _ _ ha)⟩,⟨_,SqL.of (s5 _ _ hra)⟩,fv (K:=K) (a:=a) (b:=ra) (xs:=us) (ys:=tV r) (by rw [aX,ul,rl.1]) (fun i σ H5=>Same H H5∧∃ y1 y2 : Option V,σ = [some (.ref a),some (.ref ra),y1,y2])
        ⟨s5,_,_,rfl⟩ (fun i σ H5 _ h=>⟨SqL.of (h.1 _ _ ha),SqL.of (h.1 _ _ hra)⟩) (fun i x y σ H5 Tt hi hj h hT=>?_) (fun σ H5 h=>?_)⟩
      · obtain ⟨s6,y1,y2,rfl⟩:=h
        have il : i < G.length:=by rw [← ul]; exact (List.getElem?_eq_some_iff.mp hi).1
        obtain ⟨t,wl,hu,ht,hw⟩:=hat i _ (List.getElem?_eq_getElem il)
        rw [hi] at hu
        injection hu with hu
        subst hu
        obtain ⟨o,ho,rfl⟩:=gj hj
        have s7:=s6.trans (ag hT (.tup [V.ref t,oV o]))
        refine ⟨Tt,_,rfl,SqT.of ae,rfl,_,_,rfl,_,_,rfl,rfl,?_⟩
        refine ⟨_,rfl,t,_,_,_,rfl,rfl,SqT.of (s7 _ _ ht),aj (j:=0) rfl,rfl,_,rfl,?_⟩
        rcases fh rl (List.getElem?_eq_getElem il) with ⟨e,h1⟩ | ⟨wy,hwy,e,h1⟩
        · refine bf (fun c=>?_) (fun c=>?_)
          · exfalso; exact h1 (by have:=of_decide_eq_true c; injection this)
          · exact bp ⟨s7,_,_,rfl⟩
        · rw [ho] at e
          injection e with e
          subst e
          refine bf (fun c=>?_) (fun c=>?_)
          · refine ⟨_,rfl,_,rfl,?_⟩
            exact bp ⟨s7,_,_,rfl⟩
          · exact bp ⟨s7,_,_,rfl⟩
      · exact q _ h.1
theorem Sm.free {H H' : Hp} {l : Addr} (s : Sm H H') (h : nt H' l = none) : nt H l = none:=by
  cases e : nt H l with
  | none=>rfl
  | some o=>have:=s _ _ e; rw [h] at this; cases this
theorem eL {α : Type} {R : Rel α} (m : ∀ H x v,R H x v→R (nt H) x v) {H : Hp} : ∀ {xs : List α} {vs : List V},Paired (R H) xs vs→Paired (R (nt H)) xs vs
  | _,_,.nil=>.nil
  | _,_,.cons h t=>.cons (m _ _ _ h) (eL m t)
theorem tf {H : Hp} {ws : List Wy} {v : V} (h : rWs H ws v) : rWs (nt H) ws v:=by
  obtain ⟨a,us,rfl,h,p⟩:=h
  exact ⟨a,us,rfl,bo h,eL (fun H x v ⟨t,y1,y2,e,ht,r1,r2⟩=>⟨t,y1,y2,e,eA ht,r1,r2⟩) p⟩
theorem vl {H : Hp} {W : Lf} {v : V} (h : rLf H W v) : rLf (nt H) W v:=by
  obtain ⟨a,us,rfl,h,p⟩:=h
  exact ⟨a,us,rfl,bo h,eL (fun H x v r=>tf r) p⟩
theorem uG {H : Hp} {G : List aF} {v : V} (h : rPu H G v) : rPu (nt H) G v:=by
  obtain ⟨a,us,rfl,h,p⟩:=h
  exact ⟨a,us,rfl,bo h,eL (fun H x v ⟨t,y1,y2,e,ht,r1,r2⟩=>⟨t,y1,y2,e,eA ht,r1,tf r2⟩) p⟩
def mS (K : PySem.W.Frag) : Sp:=fun vs H Q _=>∃ (v : V) (G : List aF) (ra : Addr) (r : List (Option Int)),vs = [v,.ref ra]∧rPu (nt H) G v∧nt H ra = some (.lst (tV r))∧GPk G∧RlP G r∧G.length ≤ 16∧(∀ row ∈ G,row.2.length ≤ 100)∧Tbs K H∧∀ (l : Addr) (T : List (Option Int)) (H' : Hp),Sm H H'→Tbs K H'→nt H l = none→nt H' l = some (.lst (tV T))→T.length = G.length→Nds (aR G r) G.length (tbF T)→Q (.ref l) H'
theorem rA {G : List aF} {r : List (Option Int)} (g : GPk G) : ∀ x ∈ aR G r,x ≠ []:=fun x hx=>by
  unfold aR at hx
  obtain ⟨i,hi⟩:=List.getElem?_of_mem hx
  rw [List.getElem?_zipWith] at hi
  cases e1 : G[i]? with
  | none=>rw [e1] at hi; cases hi
  | some row =>
    cases e2 : r[i]? with
    | none=>rw [e1,e2] at hi; cases hi
    | some o =>
      rw [e1,e2] at hi
      have gm:=g _ (List.mem_of_getElem? e1)
      cases o with
      | none=>cases hi; exact gm.1
      | some p=>cases hi; simp
theorem qb {G : List aF} {r : List (Option Int)} (f : ∀ row ∈ G,row.2.length ≤ 100) : ∀ x ∈ aR G r,x.length ≤ 100:=fun x hx=>by
  unfold aR at hx
  obtain ⟨i,hi⟩:=List.getElem?_of_mem hx
  rw [List.getElem?_zipWith] at hi
  cases e1 : G[i]? with
  | none=>rw [e1] at hi; cases hi
  | some row =>
    cases e2 : r[i]? with
    | none=>rw [e1,e2] at hi; cases hi
    | some o =>
      rw [e1,e2] at hi
      have gm:=f _ (List.mem_of_getElem? e1)
      cases o with
      | none=>cases hi; exact gm
      | some p=>cases hi; simp
theorem oR (F : DefAt K mg "needs" ff ["game","rule"]) (T : Txt mg) (D_check_spender : Dn P w K mg base "check_spender" 3 ["game","rule"] mR) (D_ways_left : Dn P w K mg base "ways_left" 1 ["game","rule"] qp) (D_needs_left : Dn P w K mg base "needs_left" 5 ["left"] (vi K)) : Dn P w K mg base "needs" 6 ["game","rule"] (mS K):=by
  have sc:=o6
  refine F.ok sc (fun vs H Q E h=>?_) (fun f cdv A outer s H vs Q E hr h=>?_)
  · obtain ⟨_,_,_,_,rfl,_⟩:=h; rfl
  obtain ⟨v,G,ra,r,rfl,hv,hra,g,rl,few,few2,tb,q⟩:=h
  refine ⟨_,(af (aM (aE D_check_spender hr (aa (pv 0) (aa (pv 1) ac))))
      (ah (aA (aE D_needs_left hr (aa (aE D_ways_left hr (aa (pv 0) (aa (pv 1) ac))) ac))))),?_⟩
  have hvH:=mono_pu.up ak hv
  have hrH:=ak _ _ hra
  refine ⟨_,rfl,_,rfl,v,G,ra,r,rfl,hvH,hrH,rl,few,few2,fun H1 s1=>?_⟩
  refine ⟨_,rfl,_,rfl,v,G,ra,r,rfl,mono_pu.up s1 hvH,s1 _ _ hrH,g,rl,few,few2,fun u H2 s2 hu=>?_⟩
  have s3:=s1.trans s2
  have ll:=kr rl.1
  refine ⟨u,aR G r,rfl,?_,⟨by omega,qb few2,by rw [ll]; exact fk g rl⟩,rA g,tb.up s3,fun l TT H3 S3 tb3 l0 l1 tl N=>?_⟩
  · exact vl hu
  · rw [ll] at N tl
    exact q l TT H3 ((Sm.of s3).trans S3) tb3 ((Sm.of s3).free l0) l1 tl N
def BtAt (G : List aF) (r : List (Option Int)) (T : Tb) (r' : List (Option Int)) (i : Nat) : Prop:=∀ row,G[i]? = some row→(row.1 ≠ 1→r'[i]? = some none)∧(row.1 = 1→∃ own most,own ∈ row.2∧most ∈ row.2∧r[i]? = some (some own.1)∧(∀ w ∈ row.2,leO (ax T w) (ax T most))∧(leO (ax T most) (ax T own)∧r'[i]? = some (some own.1) ∨ ¬ leO (ax T most) (ax T own)∧r'[i]? = some (some most.1)))
theorem BtAt.snoc {G : List aF} {r r' : List (Option Int)} {T : Tb} {i : Nat} {o : Option Int} (hl : r'.length = i) (h : ∀ j,j < i→BtAt G r T r' j) (ho : BtAt G r T (r' ++ [o]) i) : ∀ j,j < i + 1→BtAt G r T (r' ++ [o]) j:=fun j hj=>by
  rcases Nat.lt_or_ge j i with c | c
  · intro row hrow
    rw [List.getElem?_append_left (by omega)]
    exact h j c row hrow
  · have : j = i:=by omega
    rw [this]; exact ho
theorem dU {α : Type} {l : List α} {i : Nat} {o : α} (hl : l.length = i) : (l ++ [o])[i]? = some o:=by
  rw [List.getElem?_append_right (by omega),hl,Nat.sub_self]; rfl
theorem eS (T : List (Option Int)) (o : Option Int) : tV T ++ [oV o] = tV (T ++ [o]):=by unfold tV; rw [List.map_append]; rfl
def sP (K : PySem.W.Frag) : Sp:=fun vs H Q _=>∃ (v : V) (G : List aF) (ra ta : Addr) (r T : List (Option Int)),vs = [v,.ref ra,.ref ta]∧rPu (nt H) G v∧nt H ra = some (.lst (tV r))∧nt H ta = some (.lst (tV T))∧GPk G∧RlP G r∧T.length = G.length∧G.length ≤ 16∧(∀ row ∈ G,row.2.length ≤ 100)∧Tbs K H∧∀ (l : Addr) (r' : List (Option Int)) (H' : Hp),Sm H H'→Tbs K H'→nt H l = none→nt H' l = some (.lst (tV r'))→Btr G r (tbF T) r'→Q (.ref l) H'
theorem kg (F : DefAt K mg "bettered" cW ["game","rule","table"]) (T : Txt mg) (D_most_needy : Dn P w K mg base "most_needy" 4 ["ways","purses"] (pe K true)) (D_need_by : Dn P w K mg base "need_by" 1 ["purses","place","amount"] ef) (D_is_more : Dn P w K mg base "is_more" 2 ["need","other"] ls) : Dn P w K mg base "bettered" 5 ["game","rule","table"] (sP K):=by
  have sc:=kz
  refine F.ok sc (fun vs H Q E h=>?_) (fun f cdv A outer s H vs Q E hr h=>?_)
  · obtain ⟨_,_,_,_,_,_,rfl,_⟩:=h; rfl
  obtain ⟨v,G,ra,ta,r,TT,rfl,hv,hra,hta,g,rl,tl,few,few2,tb,q⟩:=h
  obtain ⟨a,us,rfl,ha,ul,hat⟩:=dB hv
  refine ⟨_,(af (aq (i:=3) sc.nd rfl (Or.inl rfl) (bC ac))
      (af (aZ PassesOwn.never rfl (gY (K:=K) rfl rfl T.b_zip (aa (pv 0) (aa (pv 1) ac))) (cA rfl (aB (av (i:=4) sc.nd rfl (Or.inl rfl)) (aB (av (i:=5) sc.nd rfl (Or.inl rfl)) bR)))
      (af (aL (cJ (dW (pv 5)))
      (af (aM (di PySem.F.plainAttrs_list PySem.F.slot_list_append PySem.F.type_list_append aU (pv 3) (aa fM ac)))
      (ah f6))
      az)
      (af (aq (i:=6) sc.nd rfl (Or.inl rfl) (aE D_most_needy hr (aa (al (ixT (K:=K) rfl) (pv 4) ad (fun _ _=>rfl)) (aa (pv 2) ac))))
      (af (aq (i:=7) sc.nd rfl (Or.inl rfl) (aE D_need_by hr (aa (pv 2) (aa (pv 5) (aa (m4 (jL hr 1) (dD (d5 (K:=K) rfl rfl) rfl T.b_dict PyProof.Rows.boot_dict (aa (al (ixT (K:=K) rfl) (pv 4) ad (fun _ _=>rfl)) ac)) (pv 5) (fun _ _=>rfl)) ac)))))
      (ah (aM (di PySem.F.plainAttrs_list PySem.F.slot_list_append PySem.F.type_list_append aU (pv 3) (aa (b9 (bJ (aE D_is_more hr (aa (aE D_need_by hr (aa (pv 2) (aa (al (ixT (K:=K) rfl) (pv 6) ad (fun _ _=>rfl)) (aa (al (ixT (K:=K) rfl) (pv 6) ad (fun _ _=>rfl)) ac)))) (aa (pv 7) ac)))) (al (ixT (K:=K) rfl) (pv 6) ad (fun _ _=>rfl)) (pv 5)) ac))))))))
      (ah (aA (pv 3))))),?_⟩
  refine ⟨Nat.zero_le _,fun gl hgl=>?_⟩
  have s1:=ag hgl (.lst [])
  have hgn : nt H gl = none:=dZ hgl
  have S1:=Sm.of s1
  have tb1:=tb.up s1
  have hg1 : upd H gl (.lst []) gl = some (.lst (tV [])):=ae
  generalize upd H gl (.lst []) = H1 at S1 tb1 hg1 ⊢
  clear s1
  refine ⟨_,rfl,_,rfl,a,ra,rfl,⟨_,SqL.of (S1.lst ha)⟩,⟨_,SqL.of (S1.lst hra)⟩,fv (K:=K) (a:=a) (b:=ra) (xs:=us) (ys:=tV r) (by rw [aX,ul,rl.1]) (fun i σ H2=>∃ (r' : List (Option Int)) (y1 y2 y3 y4 : Option V),σ = [some (.ref a),some (.ref ra),some (.ref ta),some (.ref gl),y1,y2,y3,y4]∧Sm H H2∧Tbs K H2∧H2 gl = some (.lst (tV r'))∧r'.length = i∧∀ j,j < i→BtAt G r (tbF TT) r' j)
    ⟨[],_,_,_,_,rfl,S1,tb1,hg1,rfl,fun j hj=>absurd hj (Nat.not_lt_zero j)⟩ (fun i σ H2 _ h=>?_) (fun i x y σ H2 tt hx hy h htt=>?_) (fun σ H2 h=>?_)⟩
  · obtain ⟨_,_,_,_,_,_,S2,_⟩:=h
    exact ⟨SqL.of (S2.lst ha),SqL.of (S2.lst hra)⟩
  · clear S1 tb1 hg1
    obtain ⟨r',y1,y2,y3,y4,rfl,S2,tb2,hg2,rl',bt⟩:=h
    have il : i < G.length:=by rw [← ul]; exact (List.getElem?_eq_some_iff.mp hx).1
    have hrow:=List.getElem?_eq_getElem il
    have gk:=g _ (List.getElem_mem il)
    have f2:=few2 _ (List.getElem_mem il)
    obtain ⟨t,wl,hu,ht,hw⟩:=hat i _ hrow
    have ra:=fh rl hrow
    generalize G[i] = row at hrow gk f2 ht hw ra
    rw [hx] at hu
    injection hu with hu
    subst hu
    obtain ⟨o,ho,rfl⟩:=gj hy
    have s3:=ag htt (.tup [V.ref t,oV o])
    have S3:=S2.trans (Sm.of s3)
    have tb3:=tb2.up s3
    have hg3:=s3 _ _ hg2
    refine ⟨tt,_,rfl,SqT.of ae,rfl,_,_,rfl,_,_,rfl,rfl,?_⟩
    generalize upd H2 tt (.tup [V.ref t,oV o]) = H3 at S3 tb3 hg3 ⊢
    clear S2 tb2 hg2 s3 htt
    refine ⟨_,rfl,_,rfl,?_⟩
    rcases ra with ⟨e,h1⟩ | ⟨own,hown,e,h1⟩
    · rw [ho] at e
      injection e with e
      subst e
      refine dy ?_
      refine ⟨_,rfl,.inl ⟨rfl,_,SqL.of hg3⟩,gl,_,_,rfl,rfl,hg3,d8 (m:=1000) (by rw [aX]; omega),?_⟩
      refine ⟨r' ++ [none],_,_,_,_,rfl,S3.put hgn _,tb3.put hg3,by rw [ae,← eS]; rfl,by rw [List.length_append,rl']; rfl,BtAt.snoc rl' bt fun row' hr'=>?_⟩
      rw [hrow] at hr'
      cases hr'
      exact ⟨fun _=>dU rl',fun z=>absurd z h1⟩
    · rw [ho] at e
      injection e with e
      subst e
      refine bp ?_
      have rg : ∀ y ∈ row.2,0 ≤ y.1∧y.1 < TT.length:=fun y hy=>by have:=gk.2.2 y hy; omega
      refine ⟨_,rfl,t,_,_,_,rfl,rfl,SqT.of (S3.tup ht),aj (j:=1) rfl,_,rfl,.ref wl,ta,row.2,TT,rfl,mono_ws.up S3 hw,S3 _ _ hta,gk.1,rg,tb3,fun wt wy H4 S4 tb4 hwy best hwt=>?_⟩
      have S5:=S3.trans S4
      have hg5:=S4.lst (bo hg3)
      have hwt5:=ak _ _ hwt
      obtain ⟨_,wus,e0,hwu,pw⟩:=mono_ws.up ak (mono_ws.up S5 hw)
      cases e0
      obtain ⟨ts,rfl,t2,t3⟩:=qA pw
      refine ⟨_,rfl,_,rfl,_,rfl,t,_,_,_,rfl,rfl,SqT.of (S5.tup ht),aj (j:=1) rfl,wl,ts,rfl,SqL.of hwu,fun z hz=>SqT.of (t2 z hz),fun dp hdp=>?_⟩
      rw [t3,ot gk.2.1]
      have s6:=ag hdp (.dK (dcW row.2))
      have hd6 : upd H4 dp (.dK (dcW row.2)) dp = some (.dK (dcW row.2)):=ae
      have S6:=S5.trans (Sm.of s6)
      have tb6:=tb4.up s6
      have hg6:=s6 _ _ hg5
      have hwt6:=s6 _ _ hwt5
      generalize upd H4 dp (.dK (dcW row.2)) = H6 at S6 tb6 hg6 hwt6 hd6 ⊢
      refine ⟨_,rfl,dp,V.int own.2,rfl,by rw [← oo gk.2.1 hown]; exact DGet.k (k:=Sum.inl own.1) hd6,ta,TT,own.1,own.2,rfl,S6.lst hta,(rg own hown).1,(rg own hown).2,?_⟩
      refine ⟨_,rfl,.inl ⟨rfl,_,SqL.of hg6⟩,_,rfl,_,rfl,wt,_,_,_,rfl,rfl,SqT.of hwt6,aj (j:=0) rfl,_,rfl,wt,_,_,_,rfl,rfl,SqT.of hwt6,aj (j:=1) rfl,ta,TT,wy.1,wy.2,rfl,S6.lst hta,(rg wy hwy).1,(rg wy hwy).2,_,rfl,ax (tbF TT) wy,ax (tbF TT) own,rfl,fun b H7 s7 hb=>⟨b,rfl,?_⟩⟩
      have S7:=S6.trans (Sm.of s7)
      have tb7:=tb6.up s7
      have hg7:=s7 _ _ hg6
      have best' : ∀ w' ∈ row.2,leO (ax (tbF TT) w') (ax (tbF TT) wy):=fun w' hw'=>by
        have:=best w' hw'
        rwa [if_pos rfl] at this
      have fin : ∀ z : Int,(leO (ax (tbF TT) wy) (ax (tbF TT) own)∧z = own.1 ∨ ¬ leO (ax (tbF TT) wy) (ax (tbF TT) own)∧z = wy.1)→BtAt G r (tbF TT) (r' ++ [some z]) i:=fun z hz row' hr'=>by
        rw [hrow] at hr'
        cases hr'
        refine ⟨fun y=>absurd h1 y,fun _=>⟨own,wy,hown,hwy,ho,best',?_⟩⟩
        rcases hz with ⟨k,rfl⟩ | ⟨k,rfl⟩
        · exact .inl ⟨k,dU rl'⟩
        · exact .inr ⟨k,dU rl'⟩
      cases b with
      | true =>
        refine dy ?_
        refine ⟨_,rfl,wt,_,_,_,rfl,rfl,SqT.of (s7 _ _ hwt6),aj (j:=0) rfl,gl,_,_,rfl,rfl,hg7,d8 (m:=1000) (by rw [aX]; omega),?_⟩
        exact ⟨r' ++ [some wy.1],_,_,_,_,rfl,S7.put hgn _,tb7.put hg7,by rw [ae,← eS]; rfl,by rw [List.length_append,rl']; rfl,BtAt.snoc rl' bt (fin wy.1 (.inr ⟨hb.mp rfl,rfl⟩))⟩
      | false =>
        refine bp ?_
        refine ⟨_,rfl,gl,_,_,rfl,rfl,hg7,d8 (m:=1000) (by rw [aX]; omega),?_⟩
        exact ⟨r' ++ [some own.1],_,_,_,_,rfl,S7.put hgn _,tb7.put hg7,by rw [ae,← eS],by rw [List.length_append,rl']; rfl,BtAt.snoc rl' bt (fin own.1 (.inl ⟨(Classical.byContradiction fun z=>absurd (hb.mpr z) Bool.false_ne_true),rfl⟩))⟩
  · obtain ⟨r',y1,y2,y3,y4,rfl,S2,tb2,hg2,rl',bt⟩:=h
    rw [ul] at rl' bt
    exact ⟨_,rfl,q gl r' H2 S2 tb2 hgn (bo hg2) ⟨rl',fun i row hrow=>bt i (List.getElem?_eq_some_iff.mp hrow).1 row hrow⟩⟩
inductive Chn (G : List aF) : List (List (Option Int))→List (Option Int)→Tb→Prop
  | start {r : List (Option Int)} {T : Tb} : RlP G r→Nds (aR G r) G.length T→Chn G [r] r T
  | next {L : List (List (Option Int))} {r r' : List (Option Int)} {T T' : Tb} : Chn G L r T→Btr G r T r'→r' ≠ r→Nds (aR G r') G.length T'→Chn G (r' :: L) r' T'
def ChB (G : List aF) : Prop:=∃ M,M < 16777216∧∀ L r T,Chn G L r T→L.length ≤ M
theorem Chn.rl {G : List aF} {L : List (List (Option Int))} {r : List (Option Int)} {T : Tb} (h : Chn G L r T) : RlP G r:=by
  cases h with
  | start h _=>exact h
  | next _ b _ _=>exact b.rule
theorem Chn.nds {G : List aF} {L : List (List (Option Int))} {r : List (Option Int)} {T : Tb} (h : Chn G L r T) : Nds (aR G r) G.length T:=by
  cases h with
  | start _ h=>exact h
  | next _ _ _ h=>exact h
theorem pQ {T : List (Option Int)} {a : Addr} : V.ref a ∉ tV T:=fun h=>by
  unfold tV at h
  obtain ⟨o,_,e⟩:=List.mem_map.mp h
  cases o <;> cases e
theorem sQ {T : List (Option Int)} {ys : List V} {a : Addr} (h : ys ++ [V.ref a] = tV T) : False:=pQ (T:=T) (a:=a) (by rw [← h]; simp)
theorem mf {H : Hp} : ∀ T : List (Option Int),Paired (su cu H) T (tV T)
  | []=>.nil
  | o :: T=>.cons (by cases o <;> rfl) (mf T)
theorem rOL {H : Hp} {a : Addr} {T : List (Option Int)} (h : H a = some (.lst (tV T))) : d4 (su cu) H T (.ref a):=⟨a,_,rfl,h,mf T⟩
theorem cv {H : Hp} {a c : Addr} {o : HO} (h : c ≠ a) : nt (upd H a o) c = nt H c:=by unfold nt; rw [ar h]
theorem rZ {ys : List V} {x : V} : atI (ys ++ [x]) (-1) = some x:=by
  unfold atI
  rw [List.length_append,List.length_singleton]
  have e : ixN (ys.length + 1) (-1) = some ys.length:=by
    unfold ixN
    split
    · exfalso; omega
    · split
      · congr 1; omega
      · exfalso; omega
  rw [e]
  show (ys ++ [x])[ys.length]? = _
  simp
def qw (K : PySem.W.Frag) : Sp:=fun vs H Q _=>∃ (v : V) (G : List aF),vs = [v]∧rPu (nt H) G v∧GPk G∧G.length ≤ 16∧(∀ row ∈ G,row.2.length ≤ 100)∧ChB G∧Tbs K H∧∀ (l lt ra ta : Addr) (ys : List V) (r T : List (Option Int)) (H' : Hp),Sm H H'→Tbs K H'→nt H' l = some (.lst (ys ++ [.ref lt]))→nt H' lt = some (.tup [.ref ra,.ref ta])→nt H' ra = some (.lst (tV r))→nt H' ta = some (.lst (tV T))→RlP G r→T.length = G.length→Nds (aR G r) G.length (tbF T)→Btr G r (tbF T) r→Q (.ref l) H'
theorem sE (F : DefAt K mg "betterings" bQ ["game"]) (T : Txt mg) (D_needs : Dn P w K mg base "needs" 6 ["game","rule"] (mS K)) (D_bettered : Dn P w K mg base "bettered" 5 ["game","rule","table"] (sP K)) : Dn P w K mg base "betterings" 7 ["game"] (qw K):=by
  have sc:=iI
  refine F.ok sc (fun vs H Q E h=>?_) (fun f cdv A outer s H vs Q E hr h=>?_)
  · obtain ⟨_,_,rfl,_⟩:=h; rfl
  obtain ⟨v,G,rfl,hv,g,few,few2,⟨M,hM,cM⟩,tb,q⟩:=h
  obtain ⟨a,us,rfl,ha,ul,hat⟩:=dB hv
  refine ⟨_,(af (mt (i:=1) (ai bQ) ["game","rule","table","told","better"] ["hand","ways"] 2 [] sc.nd rfl rfl (bj (pv 0)) (fun _ _ _ _ _ _=>(nB (K:=K) rfl rfl (show List.Nodup (["hand","ways"] : List Str) by decide +kernel) rfl rfl rfl rfl)) (fun _ _ _ _ _ _=>bE) (fun _ _ _ _ _ _=>(b9 (ay cN (pv 0) ad (aD _)) (al (ixT (K:=K) rfl) (al (ixL (K:=K) rfl) (pv 1) ad (fun _ _=>rfl)) ad (fun _ _=>rfl)) fM)))
      (af (aq (i:=2) sc.nd rfl (Or.inl rfl) (aE D_needs hr (aa (pv 0) (aa (pv 1) ac))))
      (af (aq (i:=3) sc.nd rfl (Or.inl rfl) (bC (aa (br (aa (pv 1) (aa (pv 2) ac))) ac)))
      (af (aq (i:=4) sc.nd rfl (Or.inl rfl) (aE D_bettered hr (aa (pv 0) (aa (pv 1) (aa (pv 2) ac)))))
      (af (kK PassesOwn.never (ay (uA (rX qj) (jL hr 1)) (pv 4) (pv 1) (aD _))
      (af (aq (i:=1) sc.nd rfl (Or.inl rfl) (pv 4))
      (af (aq (i:=2) sc.nd rfl (Or.inl rfl) (aE D_needs hr (aa (pv 0) (aa (pv 1) ac))))
      (af (aM (di PySem.F.plainAttrs_list PySem.F.slot_list_append PySem.F.type_list_append aU (pv 3) (aa (br (aa (pv 1) (aa (pv 2) ac))) ac)))
      (ah (aq (i:=4) sc.nd rfl (Or.inl rfl) (aE D_bettered hr (aa (pv 0) (aa (pv 1) (aa (pv 2) ac))))))))))
      (ah (aA (pv 3)))))))),?_⟩
  refine ⟨_,rfl,a,rfl,⟨_,SqL.of (ak _ _ ha)⟩,aP (K:=K) (a:=a) (xs:=us) (fun i ys H2=>H2 = H∧∃ R : List (Option Int),ys = tV R∧R.length = i∧∀ j row,j < i→G[j]? = some row→(row.1 ≠ 1→R[j]? = some none)∧(row.1 = 1→∃ w ∈ row.2,R[j]? = some (some w.1))) ⟨rfl,[],rfl,rfl,fun j row hj=>absurd hj (Nat.not_lt_zero j)⟩ (bW (m:=1000) (by omega)) (fun i ys H2 hi h=>?_) (fun i x ys H2 hi h=>?_) (fun ys H2 h ra hra=>?_)⟩
  · obtain ⟨rfl,R,rfl,rfl,_⟩:=h
    exact ⟨SqL.of (ak _ _ ha),by rw [aX]; exact Nat.le_refl _⟩
  · obtain ⟨rfl,R,rfl,Rl,h⟩:=h
    have il : i < G.length:=by rw [← ul]; exact (List.getElem?_eq_some_iff.mp hi).1
    have hrow:=List.getElem?_eq_getElem il
    have gk:=g _ (List.getElem_mem il)
    obtain ⟨t,wl,hu,ht,hw⟩:=hat i _ hrow
    generalize G[i] = row at hrow gk ht hw
    rw [hi] at hu
    injection hu with hu
    subst hu
    obtain ⟨_,wus,e0,hwl,wul,wat⟩:=c8 hw
    cases e0
    refine cq (SqT.of (ak _ _ ht)) rfl ?_
    have fin : ∀ o : Option Int,((row.1 ≠ 1→o = none)∧(row.1 = 1→∃ w ∈ row.2,o = some w.1))→H2 = H2∧∃ R' : List (Option Int),tV R ++ [oV o] = tV R'∧R'.length = i + 1∧∀ j row,j < i + 1→G[j]? = some row→(row.1 ≠ 1→R'[j]? = some none)∧(row.1 = 1→∃ w ∈ row.2,R'[j]? = some (some w.1)):=fun o ho=>by
      refine ⟨rfl,R ++ [o],eS R o,by rw [List.length_append,Rl]; rfl,fun j row' hj hr'=>?_⟩
      rcases Nat.lt_or_ge j i with c | c
      · rw [List.getElem?_append_left (by omega)]; exact h j row' c hr'
      · have : j = i:=by omega
        subst this
        rw [hrow] at hr'
        cases hr'
        rw [dU Rl]
        exact ⟨fun z=>by rw [ho.1 z],fun z=>by obtain ⟨w,hw,e⟩:=ho.2 z; exact ⟨w,hw,by rw [e]⟩⟩
    refine ⟨_,rfl,rfl,_,rfl,?_⟩
    refine bf (fun c=>?_) (fun c=>?_)
    · have c : row.1 = 1:=by have:=of_decide_eq_true c; injection this
      have wne : 0 < row.2.length:=List.length_pos_iff.mpr gk.1
      obtain ⟨wt,hwt,hwt2⟩:=wat 0 _ (List.getElem?_eq_getElem wne)
      refine ⟨_,rfl,wl,_,_,_,rfl,rfl,SqL.of (ak _ _ hwl),aj (j:=0) hwt,wt,_,_,_,rfl,rfl,SqT.of (ak _ _ hwt2),aj (j:=0) rfl,?_⟩
      exact fin (some row.2[0].1) ⟨fun z=>absurd c z,fun _=>⟨row.2[0],List.getElem_mem wne,rfl⟩⟩
    · exact fin none ⟨fun _=>rfl,fun z=>absurd (decide_eq_true (by rw [z])) c⟩
  obtain ⟨rfl,R,rfl,Rl,h⟩:=h
  have rl0 : RlP G R:=⟨by omega,fun i row hr=>h i row (by rw [ul]; exact (List.getElem?_eq_some_iff.mp hr).1) hr⟩
  have s1:=ag hra (.lst (tV R))
  have S1:=Sm.of s1
  have tb1:=tb.up s1
  have hr1 : nt (upd H2 ra (.lst (tV R))) ra = some (.lst (tV R)):=bo ae
  generalize upd H2 ra (.lst (tV R)) = H1 at S1 tb1 hr1 ⊢
  refine ⟨_,rfl,_,rfl,.ref a,G,ra,R,rfl,mono_pu.up S1 hv,hr1,g,rl0,few,few2,tb1,fun ta TT H3 S3 tb3 hta0 hta tl N=>?_⟩
  refine ⟨_,rfl,_,rfl,(by show 2 ≤ sizeLine; decide),fun lt hlt=>⟨(by show 1 ≤ sizeLine; decide),fun l hl=>?_⟩⟩
  have s4:=(ag hlt (.tup [V.ref ra,V.ref ta])).trans (ag hl (.lst [V.ref lt]))
  have hlt4 : nt (upd (upd H3 lt (.tup [V.ref ra,V.ref ta])) l (.lst [V.ref lt])) lt = some (.tup [V.ref ra,V.ref ta]):=eA (ag hl _ _ _ ae)
  have hl4 : nt (upd (upd H3 lt (.tup [V.ref ra,V.ref ta])) l (.lst [V.ref lt])) l = some (.lst ([] ++ [V.ref lt])):=bo ae
  have hln : nt H2 l = none:=(S1.trans S3).free ((Sm.of (ag hlt (.tup [V.ref ra,V.ref ta]))).free (dZ hl))
  have S4:=(S1.trans S3).trans (Sm.of s4)
  have hr4:=(S3.trans (Sm.of s4)) _ _ hr1
  have ht4:=(Sm.of s4) _ _ hta
  have tb4:=tb3.up s4
  generalize upd (upd H3 lt (.tup [V.ref ra,V.ref ta])) l (.lst [V.ref lt]) = H4 at S4 hr4 ht4 tb4 hlt4 hl4 ⊢
  clear S1 tb1 hr1 S3 tb3 hta0 hta s4 hlt hl s1 hra
  have body : ∀ (ra ta l lt ba : Addr) (L : List (List (Option Int))) (r TT r' : List (Option Int)) (ys : List V) (m : Nat) (H5 : Hp),True:=fun _ _ _ _ _ _ _ _ _ _ _ _=>trivial
  refine ⟨_,rfl,_,rfl,_,rfl,.ref a,G,ra,ta,R,TT,rfl,mono_pu.up S4 hv,hr4,ht4,g,rl0,tl,few,few2,tb4,fun ba r' H5 S5 tb5 hb0 hb bt=>?_⟩
  refine ⟨fun m σ H6=>∃ (ra ta lt ba : Addr) (L : List (List (Option Int))) (r TT r' : List (Option Int)) (ys : List V),m = M - L.length∧σ = [some (.ref a),some (.ref ra),some (.ref ta),some (.ref l),some (.ref ba)]∧Sm H2 H6∧Tbs K H6∧nt H6 ra = some (.lst (tV r))∧nt H6 ta = some (.lst (tV TT))∧nt H6 l = some (.lst (ys ++ [.ref lt]))∧nt H6 lt = some (.tup [.ref ra,.ref ta])∧nt H6 ba = some (.lst (tV r'))∧ys.length + 1 = L.length∧TT.length = G.length∧Chn G L r (tbF TT)∧Btr G r (tbF TT) r',
    ⟨_,ra,ta,lt,ba,[R],R,TT,r',[],rfl,rfl,S4.trans S5,tb5,S5 _ _ hr4,S5 _ _ ht4,S5 _ _ hl4,S5 _ _ hlt4,hb,rfl,tl,.start rl0 N,bt⟩,fun m σ H6 h=>?_⟩
  clear S4 hr4 ht4 tb4 hlt4 hl4 S5 tb5 hb0 hb bt body tl N rl0
  obtain ⟨ra,ta,lt,ba,L,r,TT,r',ys,rfl,rfl,S6,tb6,hr6,ht6,hl6,hlt6,hb6,yl,tl,ch,bt⟩:=h
  refine ⟨_,rfl,_,rfl,r',r,rOL (ak _ _ hb6),rOL (ak _ _ hr6),_,rfl,?_⟩
  refine bf (fun c=>?_) (fun c=>?_)
  · have ne : r' ≠ r:=fun z=>by rw [z] at c; simp at c
    refine ⟨fun σ H9=>∃ (ra ta lt ba : Addr) (L' : List (List (Option Int))) (r TT r' : List (Option Int)) (ys : List V),L'.length = L.length + 1∧σ = [some (.ref a),some (.ref ra),some (.ref ta),some (.ref l),some (.ref ba)]∧Sm H2 H9∧Tbs K H9∧nt H9 ra = some (.lst (tV r))∧nt H9 ta = some (.lst (tV TT))∧nt H9 l = some (.lst (ys ++ [.ref lt]))∧nt H9 lt = some (.tup [.ref ra,.ref ta])∧nt H9 ba = some (.lst (tV r'))∧ys.length + 1 = L'.length∧TT.length = G.length∧Chn G L' r (tbF TT)∧Btr G r (tbF TT) r',fun σ' H9 h=>?_,?_⟩
    · obtain ⟨ra,ta,lt,ba,L',r,TT,r',ys,e,rfl,h1,h2,h3,h4,h5,h6,h7,h8,h9,h10,h11⟩:=h
      have:=cM _ _ _ h10
      exact ⟨M - L'.length,by omega,ra,ta,lt,ba,L',r,TT,r',ys,rfl,rfl,h1,h2,h3,h4,h5,h6,h7,h8,h9,h10,h11⟩
    refine ⟨_,rfl,_,rfl,_,rfl,.ref a,G,ba,r',rfl,mono_pu.up S6 hv,hb6,g,bt.rule,few,few2,tb6,fun tb' TT' H7 S7 tb7 ht0 ht7 tl7 N7=>?_⟩
    have ch':=Chn.next ch bt ne N7
    have lM:=cM _ _ _ ch'
    have lM : L.length + 1 ≤ M:=lM
    have hl7:=S7 _ _ hl6
    refine ⟨_,rfl,.inl ⟨rfl,_,SqL.of (ak _ _ hl7)⟩,_,rfl,_,rfl,(by show 2 ≤ sizeLine; decide),fun lt' hlt'=>?_⟩
    have s8:=ag hlt' (.tup [V.ref ba,V.ref tb'])
    have hlt8 : nt (upd H7 lt' (.tup [V.ref ba,V.ref tb'])) lt' = some (.tup [V.ref ba,V.ref tb']):=eA ae
    have S8:=(S6.trans S7).trans (Sm.of s8)
    have tb8:=tb7.up s8
    have hb8:=(S7.trans (Sm.of s8)) _ _ hb6
    have ht8:=(Sm.of s8) _ _ ht7
    have hl8:=(Sm.of s8) _ _ hl7
    generalize upd H7 lt' (.tup [V.ref ba,V.ref tb']) = H8 at hlt8 S8 tb8 hb8 ht8 hl8 ⊢
    clear hlt' s8 S7 tb7 ht0 ht7 hl7
    have n1 : ba ≠ l:=fun z=>by
      rw [z,hl8] at hb8
      injection hb8 with e
      injection e with e
      exact sQ e
    have n2 : tb' ≠ l:=fun z=>by
      rw [z,hl8] at ht8
      injection ht8 with e
      injection e with e
      exact sQ e
    have n3 : lt' ≠ l:=fun z=>by
      rw [z,hl8] at hlt8
      injection hlt8 with e
      cases e
    refine ⟨l,ys ++ [.ref lt],_,rfl,rfl,ak _ _ hl8,by rw [List.length_append]; show ys.length + 1 < 16777216; omega,?_⟩
    have hl9 : nt (upd H8 l (.lst ((ys ++ [V.ref lt]) ++ [V.ref lt']))) l = some (.lst ((ys ++ [V.ref lt]) ++ [V.ref lt'])):=bo ae
    have S9 : Sm H2 (upd H8 l (.lst ((ys ++ [V.ref lt]) ++ [V.ref lt']))):=S8.put hln _
    have tb9 : Tbs K (upd H8 l (.lst ((ys ++ [V.ref lt]) ++ [V.ref lt']))):=tb8.put (ak _ _ hl8)
    have hb9 : nt (upd H8 l (.lst ((ys ++ [V.ref lt]) ++ [V.ref lt']))) ba = some (.lst (tV r')):=by rw [cv n1]; exact hb8
    have ht9 : nt (upd H8 l (.lst ((ys ++ [V.ref lt]) ++ [V.ref lt']))) tb' = some (.lst (tV TT')):=by rw [cv n2]; exact ht8
    have hlt9 : nt (upd H8 l (.lst ((ys ++ [V.ref lt]) ++ [V.ref lt']))) lt' = some (.tup [V.ref ba,V.ref tb']):=by rw [cv n3]; exact hlt8
    generalize upd H8 l (.lst ((ys ++ [V.ref lt]) ++ [V.ref lt'])) = H9 at hl9 S9 tb9 hb9 ht9 hlt9 ⊢
    refine ⟨_,rfl,_,rfl,_,rfl,.ref a,G,ba,tb',r',TT',rfl,mono_pu.up S9 hv,hb9,ht9,g,bt.rule,tl7,few,few2,tb9,fun bb r'' H10 S10 tb10 hb0 hb10 bt10=>?_⟩
    exact ⟨ba,tb',lt',bb,r' :: L,r',TT',r'',ys ++ [.ref lt],rfl,rfl,S9.trans S10,tb10,S10 _ _ hb9,S10 _ _ ht9,S10 _ _ hl9,S10 _ _ hlt9,hb10,by rw [List.length_append]; show ys.length + 1 + 1 = L.length + 1; omega,tl7,ch',bt10⟩
  · have e : r' = r:=by
      by_cases z : r' = r
      · exact z
      · exact absurd (by rw [decide_eq_false z]; rfl) c
    rw [e] at bt
    exact ⟨_,rfl,q l lt ra ta ys r TT H6 S6 tb6 hl6 hlt6 hr6 ht6 ch.rl tl ch.nds bt⟩
def jT (G : List aF) (T ws : List (Option Int)) : Prop:=∃ r,T.length = G.length∧RlP G r∧Nds (aR G r) G.length (tbF T)∧Btr G r (tbF T) r∧ws.length = G.length∧∀ (i : Nat) row,G[i]? = some row→(row.1 = 0∧tbF T (i : Int) ≠ none→∃ w ∈ row.2,(∀ w' ∈ row.2,leO (ax (tbF T) w) (ax (tbF T) w'))∧ws[i]? = some (some w.1))∧(¬ (row.1 = 0∧tbF T (i : Int) ≠ none)→ws[i]? = r[i]?)
def pj (K : PySem.W.Frag) : Sp:=fun vs H Q _=>∃ (v : V) (G : List aF),vs = [v]∧rPu (nt H) G v∧GPk G∧G.length ≤ 16∧(∀ row ∈ G,row.2.length ≤ 100)∧ChB G∧Tbs K H∧∀ (t ta wa : Addr) (T ws : List (Option Int)) (H' : Hp),Sm H H'→Tbs K H'→nt H' t = some (.tup [.ref ta,.ref wa])→nt H' ta = some (.lst (tV T))→nt H' wa = some (.lst (tV ws))→jT G T ws→Q (.ref t) H'
theorem rM (F : DefAt K mg "solved_purses" bx ["game"]) (T : Txt mg) (D_betterings : Dn P w K mg base "betterings" 7 ["game"] (qw K)) (D_least_needy : Dn P w K mg base "least_needy" 4 ["ways","purses"] (pe K false)) : Dn P w K mg base "solved_purses" 8 ["game"] (pj K):=by
  have sc:=fK
  refine F.ok sc (fun vs H Q E h=>?_) (fun f cdv A outer s H vs Q E hr h=>?_)
  · obtain ⟨_,_,rfl,_⟩:=h; rfl
  obtain ⟨v,G,rfl,hv,g,few,few2,cb,tb,q⟩:=h
  obtain ⟨a,us,rfl,ha,ul,hat⟩:=dB hv
  refine ⟨_,(af (aq (i:=1) sc.nd rfl (Or.inl rfl) (al (ixL (K:=K) rfl) (aE D_betterings hr (aa (pv 0) ac)) (p8 lp ad) (fun _ _=>rfl)))
      (af (aq (i:=2) sc.nd rfl (Or.inl rfl) (al (ixT (K:=K) rfl) (pv 1) ad (fun _ _=>rfl)))
      (af (aq (i:=3) sc.nd rfl (Or.inl rfl) (al (ixT (K:=K) rfl) (pv 1) ad (fun _ _=>rfl)))
      (af (aq (i:=4) sc.nd rfl (Or.inl rfl) (bC ac))
      (af (aZ PassesOwn.never rfl (na (K:=K) rfl rfl T.b_zip (aa (pv 0) (aa (pv 2) (aa (pv 3) ac)))) (cA rfl (aB (av (i:=5) sc.nd rfl (Or.inl rfl)) (aB (av (i:=6) sc.nd rfl (Or.inl rfl)) (aB (av (i:=7) sc.nd rfl (Or.inl rfl)) bR))))
      (ah (aL (PW.pt (eI (ay cN (al (ixT (K:=K) rfl) (pv 5) ad (fun _ _=>rfl)) ad (aD _)) (dn (cJ (j6 (pv 7))))))
      (ah (aM (di PySem.F.plainAttrs_list PySem.F.slot_list_append PySem.F.type_list_append aU (pv 4) (aa (al (ixT (K:=K) rfl) (aE D_least_needy hr (aa (al (ixT (K:=K) rfl) (pv 5) ad (fun _ _=>rfl)) (aa (pv 3) ac))) ad (fun _ _=>rfl)) ac))))
      (ah (aM (di PySem.F.plainAttrs_list PySem.F.slot_list_append PySem.F.type_list_append aU (pv 4) (aa (pv 6) ac)))))))
      (ah (aA (br (aa (pv 3) (aa (pv 4) ac)))))))))),?_⟩
  refine ⟨_,rfl,.ref a,G,rfl,hv,g,few,few2,cb,tb,fun l lt ra ta ys r TT H1 S1 tb1 hl1 hlt1 hr1 ht1 rl tl N bt=>?_⟩
  refine ⟨1,rfl,l,_,_,_,rfl,rfl,SqL.of (ak _ _ hl1),rZ,?_⟩
  refine ⟨_,rfl,lt,_,_,_,rfl,rfl,SqT.of (ak _ _ hlt1),aj (j:=0) rfl,?_⟩
  refine ⟨_,rfl,lt,_,_,_,rfl,rfl,SqT.of (ak _ _ hlt1),aj (j:=1) rfl,?_⟩
  refine ⟨Nat.zero_le _,fun wa hwa=>?_⟩
  have s2:=ag hwa (.lst [])
  have hwn : nt H1 wa = none:=dZ hwa
  have S2:=Sm.of s2
  have tb2:=tb1.up s2
  have hw2 : upd H1 wa (.lst []) wa = some (.lst (tV [])):=ae
  generalize upd H1 wa (.lst []) = H2 at S2 tb2 hw2 ⊢
  clear s2
  have ha1:=S1 _ _ ha
  refine ⟨_,rfl,_,rfl,_,rfl,a,ra,ta,rfl,⟨_,SqL.of (S2.lst ha1)⟩,⟨_,SqL.of (S2.lst hr1)⟩,⟨_,SqL.of (S2.lst ht1)⟩,li (K:=K) (a:=a) (b:=ra) (d:=ta) (xs:=us) (ys:=tV r) (zs:=tV TT) (by rw [aX,ul,rl.1]) (by rw [aX,ul,tl]) (fun i σ H3=>∃ (ws : List (Option Int)) (y1 y2 y3 : Option V),σ = [some (.ref a),some (.ref lt),some (.ref ra),some (.ref ta),some (.ref wa),y1,y2,y3]∧Sm H1 H3∧Tbs K H3∧H3 wa = some (.lst (tV ws))∧ws.length = i∧∀ j row,j < i→G[j]? = some row→(row.1 = 0∧tbF TT (j : Int) ≠ none→∃ w ∈ row.2,(∀ w' ∈ row.2,leO (ax (tbF TT) w) (ax (tbF TT) w'))∧ws[j]? = some (some w.1))∧(¬ (row.1 = 0∧tbF TT (j : Int) ≠ none)→ws[j]? = r[j]?))
    ⟨[],_,_,_,rfl,S2,tb2,hw2,rfl,fun j row hj=>absurd hj (Nat.not_lt_zero j)⟩ (fun i σ H3 _ h=>?_) (fun i x y z σ H3 tt hx hy hz h htt=>?_) (fun σ H3 h=>?_)⟩
  · obtain ⟨_,_,_,_,_,S3,_⟩:=h
    exact ⟨SqL.of (S3.lst ha1),SqL.of (S3.lst hr1),SqL.of (S3.lst ht1)⟩
  · clear S2 tb2 hw2
    obtain ⟨ws,y1,y2,y3,rfl,S3,tb3,hw3,wl3,h⟩:=h
    have il : i < G.length:=by rw [← ul]; exact (List.getElem?_eq_some_iff.mp hx).1
    have hrow:=List.getElem?_eq_getElem il
    have gk:=g _ (List.getElem_mem il)
    obtain ⟨t,wl,hu,ht,hw⟩:=hat i _ hrow
    generalize G[i] = row at hrow gk ht hw
    rw [hx] at hu
    injection hu with hu
    subst hu
    obtain ⟨o,ho,rfl⟩:=gj hy
    obtain ⟨u,hu,rfl⟩:=gj hz
    have ht1:=S1 _ _ ht
    have hw1:=mono_ws.up S1 hw
    have eu : tbF TT (i : Int) = u:=by rw [gz,hu]; rfl
    have s4:=ag htt (.tup [V.ref t,oV o,oV u])
    have S4:=S3.trans (Sm.of s4)
    have tb4:=tb3.up s4
    have hw4:=s4 _ _ hw3
    refine ⟨tt,_,rfl,SqT.of ae,rfl,_,_,rfl,_,_,rfl,_,_,rfl,rfl,?_⟩
    generalize upd H3 tt (.tup [V.ref t,oV o,oV u]) = H4 at S4 tb4 hw4 ⊢
    clear S3 tb3 hw3 s4 htt
    have fin : ∀ (p : Option Int) (H5 : Hp) (y1 y2 y3 : Option V),Sm H1 H5→Tbs K H5→H5 wa = some (.lst (tV ws))→((row.1 = 0∧u ≠ none→∃ w ∈ row.2,(∀ w' ∈ row.2,leO (ax (tbF TT) w) (ax (tbF TT) w'))∧p = some w.1)∧(¬ (row.1 = 0∧u ≠ none)→p = o))→∃ (ws' : List (Option Int)) (z1 z2 z3 : Option V),[some (V.ref a),some (.ref lt),some (.ref ra),some (.ref ta),some (.ref wa),y1,y2,y3] = [some (V.ref a),some (.ref lt),some (.ref ra),some (.ref ta),some (.ref wa),z1,z2,z3]∧Sm H1 (upd H5 wa (.lst (tV ws ++ [oV p])))∧Tbs K (upd H5 wa (.lst (tV ws ++ [oV p])))∧upd H5 wa (.lst (tV ws ++ [oV p])) wa = some (.lst (tV ws'))∧ws'.length = i + 1∧∀ j row,j < i + 1→G[j]? = some row→(row.1 = 0∧tbF TT (j : Int) ≠ none→∃ w ∈ row.2,(∀ w' ∈ row.2,leO (ax (tbF TT) w) (ax (tbF TT) w'))∧ws'[j]? = some (some w.1))∧(¬ (row.1 = 0∧tbF TT (j : Int) ≠ none)→ws'[j]? = r[j]?):=fun p H5 y1 y2 y3 S5 tb5 hw5 hp=>by
      refine ⟨ws ++ [p],y1,y2,y3,rfl,S5.put hwn _,tb5.put hw5,by rw [ae,eS],by rw [List.length_append,wl3]; rfl,fun j row' hj hr'=>?_⟩
      rcases Nat.lt_or_ge j i with c | c
      · rw [List.getElem?_append_left (by omega)]; exact h j row' c hr'
      · have : j = i:=by omega
        subst this
        rw [hrow] at hr'
        cases hr'
        rw [dU wl3,eu,ho]
        exact ⟨fun z=>by obtain ⟨w,k1,k2,k3⟩:=hp.1 z; exact ⟨w,k1,k2,by rw [k3]⟩,fun z=>by rw [hp.2 z]⟩
    refine ⟨_,rfl,t,_,_,_,rfl,rfl,SqT.of (S4.tup ht1),aj (j:=0) rfl,rfl,_,rfl,?_⟩
    have wll : (tV ws).length ≤ 1000:=by rw [aX]; omega
    refine bf (fun c=>?_) (fun c=>?_)
    · have c : row.1 = 0:=by have:=of_decide_eq_true c; injection this
      refine ⟨_,rfl,_,rfl,?_⟩
      cases u with
      | none =>
        refine bp ?_
        exact ⟨_,rfl,.inl ⟨rfl,_,SqL.of hw4⟩,_,rfl,wa,_,_,rfl,rfl,hw4,d8 (m:=1000) wll,fin o H4 _ _ _ S4 tb4 hw4 ⟨fun z=>absurd rfl z.2,fun _=>rfl⟩⟩
      | some u =>
        refine dy ?_
        have rg : ∀ y ∈ row.2,0 ≤ y.1∧y.1 < TT.length:=fun y hy=>by have:=gk.2.2 y hy; omega
        refine ⟨_,rfl,.inl ⟨rfl,_,SqL.of hw4⟩,_,rfl,t,_,_,_,rfl,rfl,SqT.of (S4.tup ht1),aj (j:=1) rfl,_,rfl,.ref wl,ta,row.2,TT,rfl,mono_ws.up S4 hw1,S4 _ _ ‹nt H1 ta = _›,gk.1,rg,tb4,fun wt wy H5 S5 tb5 hwy best hwt=>?_⟩
        have hw5:=S5.lst (bo hw4)
        refine ⟨wt,_,_,_,rfl,rfl,SqT.of (ak _ _ hwt),aj (j:=0) rfl,wa,_,_,rfl,rfl,hw5,d8 (m:=1000) wll,fin (some wy.1) H5 _ _ _ (S4.trans S5) tb5 hw5 ⟨fun _=>⟨wy,hwy,fun w' hw'=>?_,rfl⟩,fun z=>absurd ⟨c,fun z=>by cases z⟩ z⟩⟩
        have:=best w' hw'
        rwa [if_neg (by decide)] at this
    · have c : ¬ row.1 = 0:=fun z=>c (decide_eq_true (by rw [z]))
      refine bp ?_
      exact ⟨_,rfl,.inl ⟨rfl,_,SqL.of hw4⟩,_,rfl,wa,_,_,rfl,rfl,hw4,d8 (m:=1000) wll,fin o H4 _ _ _ S4 tb4 hw4 ⟨fun z=>absurd z.1 c,fun _=>rfl⟩⟩
  · obtain ⟨ws,y1,y2,y3,rfl,S3,tb3,hw3,wl3,h⟩:=h
    rw [ul] at wl3 h
    refine ⟨_,rfl,_,rfl,(by show 2 ≤ sizeLine; decide),fun t ht=>?_⟩
    have s4:=ag ht (.tup [V.ref ta,V.ref wa])
    exact q t ta wa TT ws _ ((S1.trans S3).trans (Sm.of s4)) (tb3.up s4) (eA ae) ((S3.trans (Sm.of s4)) _ _ ht1) (bo (s4 _ _ hw3)) ⟨r,tl,rl,N,bt,wl3,fun i row hrow=>h i row (List.getElem?_eq_some_iff.mp hrow).1 hrow⟩
def dM (G : List eT) : List eT:=G.map fun r=>(1 - r.1,r.2.map (twn G.length))
theorem eG (G : List eT) : (dM G).length = G.length:=List.length_map _
def p9 (K : PySem.W.Frag) : Sp:=fun vs H Q E=>∃ (v : V) (G : List eT),vs = [v]∧rPG H G v∧G.length ≤ 16∧(∀ r ∈ G,r.2.length ≤ 60)∧ij (dM G)∧∀ (u : V) (H' : Hp),Same H H'→rPG H' (dM G) u→Q u H'
theorem nJ (F : DefAt K mg "turned_purses" bc ["game"]) (T : Txt mg) (XC : XT K mg "GarthError" xRs xNs) (D_purse_game : DnX P w K mg base "purse_game" 6 ["rows"] (jH K)) : DnX P w K mg base "turned_purses" 7 ["game"] (p9 K):=by
  have sc:=fH
  refine F.okX sc (fun vs H Q E h=>?_) (fun f cdv A outer s H vs Q E hr h=>?_)
  · obtain ⟨_,_,rfl,_⟩:=h; rfl
  obtain ⟨v,G,rfl,hG,h16,hrk,hgood,q⟩:=h
  obtain ⟨g0,gv,rfl,hg0,hgl,hrow⟩:=dB hG
  refine ⟨_,(af (aq (i:=1) sc.nd rfl (Or.inr rfl) (au (bI (K:=K) rfl) rfl T.b_len PySem.boot_len (aa (pv 0) ac)))
      (ah (aA (cr fw D_purse_game hr (aa (kx (ai bc) ["game","count"] ["hand","ways","count"] 2 [1] (bj (pv 0)) (fun _ _ _ _ _ _=>(nB (K:=K) rfl rfl (show List.Nodup (["hand","ways","count"] : List Str) by decide +kernel) rfl rfl rfl rfl)) (fun _ _ _ _ _ _=>bE) (fun _ _ _ _ _ _=>(br (aa (ao fQ ad (pv 0)) (aa (by exact (gD  ["hand","ways","count"] ["place","amount","count"] 2 [2] (fD (pv 1)) (fun _ _ _ _ _ _=>(nB (K:=K) rfl rfl (show List.Nodup (["place","amount","count"] : List Str) by decide +kernel) rfl rfl rfl rfl)) (fun _ _ _ _ _ _=>bE) (fun _ _ _ _ _ _=>(br (aa (pv 0) (aa (ao fQ (ao dt (p8 lp (pv 2)) (pv 1)) ad) ac)))))) ac))))) ac))))),?_⟩
  refine ⟨_,rfl,g0,_,rfl,.inl (SqL.of hg0),?_⟩
  refine ⟨_,rfl,g0,rfl,⟨_,SqL.of hg0⟩,aP (K:=K) (a:=g0) (xs:=gv) (fun i ys H2=>Same H H2∧Paired (rPR H2) ((dM G).take i) ys) ⟨Same.refl _,.nil⟩ (bW (m:=1000) (by omega)) (fun i ys H2 hi h=>?_) (fun i x ys H2 hi h=>?_) (fun ys H2 h p hp=>?_)⟩
  · exact ⟨SqL.of (h.1 _ _ hg0),by have:=h.2.length; rw [List.length_take] at this; omega⟩
  · obtain ⟨s2,pr⟩:=h
    have hil : i < G.length:=by have:=(List.getElem?_eq_some_iff.mp hi).1; omega
    obtain ⟨row,hrw⟩ : ∃ row,G[i]? = some row:=⟨G[i],by simp⟩
    obtain ⟨t,wa,p1,p2,p3⟩:=hrow i row hrw
    rw [hi] at p1; cases p1
    have k60:=hrk row (List.mem_of_getElem? hrw)
    obtain ⟨_,wus,e0,hwl,wul,wat⟩:=c8 p3
    cases e0
    refine cq (SqT.of (s2 _ _ p2)) rfl ?_
    refine ⟨_,rfl,_,_,rfl,rfl,_,rfl,wa,rfl,⟨_,SqL.of (s2 _ _ hwl)⟩,aP (K:=K0) (a:=wa) (xs:=wus) (fun j zs H3=>∃ us : List (Addr × Int × Int),Same H2 H3∧zs = us.map (fun u=>V.ref u.1)∧us.map (fun u=>u.2) = (row.2.take j).map (twn G.length)∧∀ u ∈ us,H3 u.1 = some (.tup [.int u.2.1,.int u.2.2])) ⟨[],Same.refl _,rfl,rfl,fun _ z=>by cases z⟩ (bW (m:=1000) (by omega)) (fun j zs H3 hj h=>?_) (fun j x zs H3 hj h=>?_) (fun zs H3 h p hp=>?_)⟩
    · obtain ⟨us,s3,rfl,e2,_⟩:=h
      refine ⟨SqL.of ((s2.trans s3) _ _ hwl),?_⟩
      have:=congrArg List.length e2
      rw [List.length_map,List.length_map,List.length_take] at this
      rw [List.length_map]; omega
    · obtain ⟨us,s3,rfl,e2,e3⟩:=h
      have jl : j < row.2.length:=by rw [← wul]; exact (List.getElem?_eq_some_iff.mp hj).1
      obtain ⟨t2,hu2,ht2⟩:=wat j _ (List.getElem?_eq_getElem jl)
      rw [hj] at hu2
      injection hu2 with hu2
      subst hu2
      refine cq (SqT.of ((s2.trans s3) _ _ ht2)) rfl ?_
      refine ⟨_,rfl,_,rfl,_,rfl,_,rfl,_,_,rfl,rfl,.inl ⟨by omega,by omega⟩,_,_,rfl,rfl,(by show 2 ≤ sizeLine; decide),fun u hu=>?_⟩
      refine ⟨us ++ [(u,twn G.length row.2[j])],s3.trans (ag hu _),by rw [List.map_append]; rfl,?_,fun v hv=>?_⟩
      · rw [List.map_append,e2,List.take_add_one,List.getElem?_eq_getElem jl,List.map_append]; rfl
      · rcases List.mem_append.mp hv with h | h
        · exact ag hu _ _ _ (e3 v h)
        · rw [List.mem_singleton.mp h,ae,hgl]; rfl
    obtain ⟨us,s3,rfl,e2,e3⟩:=h
    rw [wul,List.take_length] at e2
    refine ⟨(by show 2 ≤ sizeLine; decide),fun t3 ht3=>?_⟩
    have sA:=(ag hp (.lst (us.map fun u=>V.ref u.1))).trans (ag ht3 (.tup [.int (1 - row.1),.ref p]))
    refine ⟨(s2.trans s3).trans sA,?_⟩
    rw [List.take_add_one,show (dM G)[i]? = some (1 - row.1,row.2.map (twn G.length)) by unfold dM; rw [List.getElem?_map,hrw]; rfl]
    refine Paired.app (aH dq (s3.trans sA) pr) (.cons ?_ .nil)
    refine ⟨t3,_,_,rfl,ae,rfl,?_⟩
    have hw : WaysAt (upd (upd H3 p (.lst (us.map fun u=>V.ref u.1))) t3 (.tup [.int (1 - row.1),.ref p])) p us:=⟨ag ht3 _ _ _ ae,fun u hu=>sA _ _ (e3 u hu)⟩
    have:=hw.rel
    rw [e2] at this; exact this
  obtain ⟨s2,pr⟩:=h
  rw [hgl,← eG G,List.take_length] at pr
  have s3:=s2.trans (ag hp (.lst ys))
  refine ⟨_,dM G,rfl,⟨p,ys,rfl,ae,aH dq (ag hp _) pr⟩,by rw [eG]; omega,.inr ⟨hgood,fun g gv' H1 s1 hg pr1=>?_⟩⟩
  have s4:=ag hg (.lst gv')
  exact q _ _ ((s3.trans s1).trans s4) ⟨g,gv',rfl,ae,aH dq ((dE _ _).trans s4) pr1⟩
def aS (G : List Row) (h : Int) : List eT:=if h = 0 then dv G else dM (dv G)
structure GameOk (G : List Row) : Prop where
  few : G.length ≤ 16
  rks : ∀ r ∈ G,0 ≤ r.2.1∧r.2.1 ≤ 1000∧r.2.2.length ≤ 60
  am : ij (dv G)
  tu : ij (dM (dv G))
def u7 (K : PySem.W.Frag) : Sp:=fun vs H Q E=>∃ (v : V) (h : Int) (G : List Row),vs = [v,.int h]∧cL H G v∧GameOk G∧∀ (u : V) (H' : Hp),Same H H'→rPG H' (aS G h) u→Q u H'
theorem rJ (F : DefAt K mg "hand_amounts" bH ["game","hand"]) (T : Txt mg) (XC : XT K mg "GarthError" xRs xNs) (D_amounts_of : DnX P w K mg base "amounts_of" 7 ["game"] (qW K)) (D_turned_purses : DnX P w K mg base "turned_purses" 7 ["game"] (p9 K)) : DnX P w K mg base "hand_amounts" 8 ["game","hand"] (u7 K):=by
  have sc:=gu
  refine F.okX sc (fun vs H Q E h=>?_) (fun f cdv A outer s H vs Q E hr h=>?_)
  · obtain ⟨_,_,_,rfl,_⟩:=h; rfl
  obtain ⟨v,h,G,rfl,hG,ok,q⟩:=h
  refine ⟨_,(af (aq (i:=2) sc.nd rfl (Or.inl rfl) (cr fw D_amounts_of hr (aa (pv 0) ac)))
      (ah (aA (b9 (ay cN (pv 1) ad (aD _)) (pv 2) (cr fw D_turned_purses hr (aa (pv 2) ac)))))),?_⟩
  refine ⟨_,rfl,v,G,rfl,hG,by have:=ok.few; omega,ok.rks,.inr ⟨ok.am,fun g gv H1 s1 hg pr=>?_⟩⟩
  have s2:=ag hg (.lst gv)
  have hA : rPG (upd H1 g (.lst gv)) (dv G) (.ref g):=⟨g,gv,rfl,ae,aH dq ((dE _ _).trans s2) pr⟩
  have s3:=s1.trans s2
  generalize upd H1 g (.lst gv) = H2 at hA s3 ⊢
  refine ⟨_,rfl,rfl,_,rfl,?_⟩
  refine bf (fun c=>?_) (fun c=>?_)
  · have c : h = 0:=by have:=of_decide_eq_true c; injection this
    refine ⟨_,rfl,q _ _ s3 ?_⟩
    unfold aS
    rw [if_pos c]; exact hA
  · have c : ¬ h = 0:=fun z=>c (decide_eq_true (by rw [z]))
    refine ⟨_,rfl,_,dv G,rfl,hA,by rw [cf]; exact ok.few,fun r hr=>?_,ok.tu,fun u H' s' hu=>q u H' (s3.trans s') ?_⟩
    · obtain ⟨r0,h0,rfl⟩:=List.mem_map.mp hr
      rw [List.length_map]
      exact (ok.rks r0 h0).2.2
    · unfold aS
      rw [if_neg c]; exact hu
theorem mD {H : Hp} {G : List Row} {v : V} (h : cL H G v) : cL (nt H) G v:=by
  obtain ⟨a,us,rfl,h,p⟩:=h
  refine ⟨a,us,rfl,bo h,eL (fun H x v r=>?_) p⟩
  obtain ⟨t,y1,y2,y3,e,ht,r1,r2,wa,ws,e2,hw,r3⟩:=r
  exact ⟨t,y1,y2,y3,e,eA ht,r1,r2,wa,ws,e2,bo hw,eL (fun _ _ _ r=>r) r3⟩
def aO (T : List (Option Int)) (i : Nat) : Int:=if tbF T (i : Int) = none then 1 else 0
def BH (G : List Row) (H2 : Hp) (j : Nat) (y : V) : Prop:=∃ (b ta wa : Addr) (T ws : List (Option Int)),y = .ref b∧nt H2 b = some (.tup [.ref ta,.ref wa])∧nt H2 ta = some (.lst (tV T))∧nt H2 wa = some (.lst (tV ws))∧jT (aS G (j : Int)) T ws
theorem BH.up {G : List Row} {H2 H3 : Hp} {j : Nat} {y : V} (h : BH G H2 j y) (s : Sm H2 H3) : BH G H3 j y:=by
  obtain ⟨b,ta,wa,T,ws,e,h1,h2,h3,h4⟩:=h
  exact ⟨b,ta,wa,T,ws,e,s _ _ h1,s _ _ h2,s _ _ h3,h4⟩
def WonP (G : List Row) (hs : List Int) (ws : List (Option Int)) : Prop:=∃ T0 w0 T1 w1,jT (aS G 0) T0 w0∧jT (aS G 1) T1 w1∧hs.length = G.length∧ws.length = G.length∧∀ (i : Nat) row,G[i]? = some row→hs[i]? = some (aO T0 i)∧ws[i]? = some (if row.1 = aO T0 i then (if aO T0 i = 0 then (w0[i]?).getD none else (w1[i]?).getD none) else none)
def sV (K : PySem.W.Frag) : Sp:=fun vs H Q E=>∃ (v : V) (G : List Row),vs = [v]∧cL (nt H) G v∧GameOk G∧(∀ h : Int,GPk (aS G h)∧ChB (aS G h))∧Tbs K H∧∀ (t ha wa : Addr) (hs : List Int) (ws : List (Option Int)) (H' : Hp),Sm H H'→Tbs K H'→nt H ha = none→nt H wa = none→ha ≠ wa→nt H' t = some (.tup [.ref ha,.ref wa])→nt H' ha = some (.lst (hs.map V.int))→nt H' wa = some (.lst (tV ws))→WonP G hs ws→Q (.ref t) H'
theorem bX (G : List Row) (h : Int) : (aS G h).length = G.length:=by unfold aS; split <;> simp [cf,eG]
theorem qO {G : List Row} (ok : GameOk G) (h : Int) : ∀ row ∈ aS G h,row.2.length ≤ 100:=fun row hr=>by
  unfold aS at hr
  split at hr
  · have:=(ok.am.2 row hr).2.2.2.2; omega
  · have:=(ok.tu.2 row hr).2.2.2.2; omega
theorem um (F : DefAt K mg "solved_by_purses" aI ["game"]) (T : Txt mg) (XC : XT K mg "GarthError" xRs xNs) (D_solved_purses : Dn P w K mg base "solved_purses" 8 ["game"] (pj K)) (D_hand_amounts : DnX P w K mg base "hand_amounts" 8 ["game","hand"] (u7 K)) : DnX P w K mg base "solved_by_purses" 9 ["game"] (sV K):=by
  have sc:=eU
  refine F.okX sc (fun vs H Q E h=>?_) (fun f cdv A outer s H vs Q E hr h=>?_)
  · obtain ⟨_,_,rfl,_⟩:=h; rfl
  obtain ⟨v,G,rfl,hG,ok,gp,tb,q⟩:=h
  have few:=ok.few
  obtain ⟨g0,gv,rfl,hg0,hgl,hrow⟩:=bY hG
  refine ⟨_,(af (uj (i:=1) (ai aI) ["game","by_hand","hands","ways","place","winner","own"] ["hand","game"] 1 [0] sc.nd rfl rfl (uw (br (aa ad (aa ad ac)))) (fun _ _ _ _ _ _ _=>(db (show List.Nodup (["hand","game"] : List Str) by decide +kernel) rfl rfl)) (fun _ _ _ _ _ _ _=>bE) (fun _ _ _ _ _ _ _ hp=>(aE D_solved_purses hr (aa (cr hp D_hand_amounts hr (aa (pv 1) (aa (pv 0) ac))) ac))))
      (af (mt (i:=2) (ai aI) ["game","by_hand","hands","ways","place","winner","own"] ["purse"] 1 [] sc.nd rfl rfl (bj (al (ixT (K:=K) rfl) (al (ixL (K:=K) rfl) (pv 1) ad (fun _ _=>rfl)) ad (fun _ _=>rfl))) (fun _ _ _ _ _ _=>(db (show List.Nodup (["purse"] : List Str) by decide +kernel) rfl rfl)) (fun _ _ _ _ _ _=>bE) (fun _ _ _ _ _ _=>(b9 (cJ (dW (pv 0))) ad ad)))
      (af (aq (i:=3) sc.nd rfl (Or.inl rfl) (bC ac))
      (af (aZ PassesOwn.leaving rfl (mJ (K:=K) rfl rfl T.b_enumerate (aa (pv 2) ac)) (cA rfl (aB (av (i:=4) sc.nd rfl (Or.inl rfl)) (aB (av (i:=5) sc.nd rfl (Or.inl rfl)) bR)))
      (af (aq (i:=6) sc.nd rfl (Or.inl rfl) (gH cN (al (ixT (K:=K) rfl) (al (ixL (K:=K) rfl) (pv 0) (pv 4) (fun _ _=>rfl)) ad (fun _ _=>rfl)) (pv 5) (aD _)))
      (ah (aM (di PySem.F.plainAttrs_list PySem.F.slot_list_append PySem.F.type_list_append aU (pv 3) (aa (b9 (bJ (pv 6)) (al (ixL (K:=K) rfl) (al (ixT (K:=K) rfl) (al (ixL (K:=K) rfl) (pv 1) (pv 5) (fun _ _=>rfl)) ad (fun _ _=>rfl)) (pv 4) (fun _ _=>rfl)) fM) ac))))))
      (ah (aA (br (aa (pv 2) (aa (pv 3) ac))))))))),?_⟩
  refine ⟨(by show 2 ≤ sizeLine; decide),fun t ht=>⟨t,rfl,⟨_,SqT.of ae⟩,n0 (K:=K) (a:=t) (xs:=[.int 0,.int 1]) (fun i ys H2=>Sm H H2∧Tbs K H2∧nt H2 t = some (.tup [.int 0,.int 1])∧ys.length = i∧∀ j,j < i→∃ y,ys[j]? = some y∧BH G H2 j y) ⟨Sm.of (ag ht _),tb.up (ag ht _),eA ae,rfl,fun j hj=>absurd hj (Nat.not_lt_zero j)⟩ (by show 2 ≤ sizeLine; decide) (fun i ys H2 hi h=>?_) (fun i x ys H2 hi h=>?_) (fun ys H2 h bl hbl=>?_)⟩⟩
  · obtain ⟨_,_,h3,h4,_⟩:=h
    exact ⟨SqT.of (ak _ _ h3),by omega⟩
  · obtain ⟨S2,tb2,ht2,yl,hb⟩:=h
    obtain ⟨k,rfl,rfl⟩ : ∃ k : Nat,x = .int (k : Int)∧i = k:=by
      match i,hi with
      | 0,hi=>cases hi; exact ⟨0,rfl,rfl⟩
      | 1,hi=>cases hi; exact ⟨1,rfl,rfl⟩
    refine cV ?_
    refine ⟨_,rfl,_,rfl,.ref g0,(i : Int),G,rfl,mono_game.up ak (mono_game.up S2 hG),ok,fun u H3 s3 hu=>?_⟩
    refine ⟨u,aS G (i : Int),rfl,uG hu,(gp _).1,by rw [bX]; exact few,qO ok _,(gp _).2,tb2.up s3,fun b ta wa TT ws H4 S4 tb4 hb4 hta hwa sol=>?_⟩
    have S34:=(Sm.of s3).trans S4
    refine ⟨S2.trans S34,tb4,S34 _ _ ht2,by rw [List.length_append,yl]; rfl,fun j hj=>?_⟩
    rcases Nat.lt_or_ge j i with c | c
    · obtain ⟨y,hy,hbh⟩:=hb j c
      exact ⟨y,by rw [List.getElem?_append_left (by omega)]; exact hy,hbh.up S34⟩
    · have : j = i:=by omega
      subst this
      exact ⟨.ref b,dU yl,b,ta,wa,TT,ws,rfl,hb4,hta,hwa,sol⟩
  obtain ⟨S2,tb2,_,yl,hb⟩:=h
  obtain ⟨y0,hy0,b0,ta0,wa0,T0,w0,rfl,hb0,ht0,hw0,sol0⟩:=hb 0 (by show 0 < 2; decide)
  obtain ⟨y1,hy1,b1,ta1,wa1,T1,w1,rfl,hb1,ht1,hw1,sol1⟩:=hb 1 (by show 1 < 2; decide)
  have s3:=ag hbl (.lst ys)
  have S3:=S2.trans (Sm.of s3)
  have tb3:=tb2.up s3
  have hbl3 : nt (upd H2 bl (.lst ys)) bl = some (.lst ys):=bo ae
  have hb0:=(Sm.of s3) _ _ hb0
  have ht0:=(Sm.of s3) _ _ ht0
  have hw0:=(Sm.of s3) _ _ hw0
  have hb1:=(Sm.of s3) _ _ hb1
  have hw1:=(Sm.of s3) _ _ hw1
  have tl0 : T0.length = G.length:=by obtain ⟨_,h,_⟩:=id sol0; rw [h,bX]
  have wl0 : w0.length = G.length:=by obtain ⟨_,_,_,_,_,h,_⟩:=id sol0; rw [h,bX]
  have wl1 : w1.length = G.length:=by obtain ⟨_,_,_,_,_,h,_⟩:=id sol1; rw [h,bX]
  generalize upd H2 bl (.lst ys) = H3 at S3 tb3 hbl3 hb0 ht0 hw0 hb1 hw1 ⊢
  clear S2 tb2 s3 hb ht1 hbl
  refine ⟨_,rfl,bl,_,_,_,rfl,rfl,SqL.of (ak _ _ hbl3),aj (j:=0) hy0,b0,_,_,_,rfl,rfl,SqT.of (ak _ _ hb0),aj (j:=0) rfl,ta0,rfl,⟨_,SqL.of (ak _ _ ht0)⟩,aP (K:=K) (a:=ta0) (xs:=tV T0) (fun i ys H4=>H4 = H3∧ys = ((List.range i).map (aO T0)).map V.int) ⟨rfl,rfl⟩ (bW (m:=1000) (by rw [aX]; omega)) (fun i ys H4 hi h=>?_) (fun i x ys H4 hi h=>?_) (fun ys H4 h ha hha=>?_)⟩
  · obtain ⟨rfl,rfl⟩:=h
    exact ⟨SqL.of (ak _ _ ht0),by simp⟩
  · obtain ⟨rfl,rfl⟩:=h
    obtain ⟨o,ho,rfl⟩:=gj hi
    have eo : tbF T0 (i : Int) = o:=by rw [gz,ho]; rfl
    refine cV ?_
    refine ⟨_,rfl,_,rfl,?_⟩
    cases o with
    | none=>exact dy ⟨rfl,by rw [List.range_succ,List.map_append,List.map_append]; show _ ++ [V.int 1] = _ ++ [V.int (aO T0 i)]; unfold aO; rw [if_pos eo]⟩
    | some z=>exact bp ⟨rfl,by rw [List.range_succ,List.map_append,List.map_append]; show _ ++ [V.int 0] = _ ++ [V.int (aO T0 i)]; unfold aO; rw [if_neg (by rw [eo]; simp)]⟩
  obtain ⟨rfl,rfl⟩:=h
  rw [aX,tl0]
  have s5:=ag hha (.lst (((List.range G.length).map (aO T0)).map V.int))
  have hh5 : nt (upd H4 ha (.lst (((List.range G.length).map (aO T0)).map V.int))) ha = some (.lst (((List.range G.length).map (aO T0)).map V.int)):=bo ae
  have han : nt H ha = none:=S3.free (dZ hha)
  have S5:=S3.trans (Sm.of s5)
  have tb5:=tb3.up s5
  have hbl5:=(Sm.of s5) _ _ hbl3
  have hb0:=(Sm.of s5) _ _ hb0
  have hw0:=(Sm.of s5) _ _ hw0
  have hb1:=(Sm.of s5) _ _ hb1
  have hw1:=(Sm.of s5) _ _ hw1
  generalize upd H4 ha (.lst (((List.range G.length).map (aO T0)).map V.int)) = H5 at hh5 S5 tb5 hbl5 hb0 hw0 hb1 hw1 ⊢
  clear S3 tb3 hbl3 s5 ht0
  refine ⟨Nat.zero_le _,fun wa hwa=>?_⟩
  have s6:=ag hwa (.lst [])
  have hwn : nt H5 wa = none:=dZ hwa
  have hw6 : upd H5 wa (.lst []) wa = some (.lst (tV [])):=ae
  have S6:=Sm.of s6
  have tb6:=tb5.up s6
  generalize upd H5 wa (.lst []) = H6 at hw6 S6 tb6 ⊢
  clear s6
  have hlen : (((List.range G.length).map (aO T0)).map V.int).length = G.length:=by rw [List.length_map,List.length_map,List.length_range]
  refine ⟨_,rfl,ha,rfl,⟨_,SqL.of (S6.lst hh5)⟩,kD (K:=K) (a:=ha) (xs:=((List.range G.length).map (aO T0)).map V.int) (fun i σ H7=>∃ (ws : List (Option Int)) (y1 y2 y3 : Option V),σ = [some (.ref g0),some (.ref bl),some (.ref ha),some (.ref wa),y1,y2,y3]∧Sm H5 H7∧Tbs K H7∧H7 wa = some (.lst (tV ws))∧ws.length = i∧∀ (j : Nat) row,j < i→G[j]? = some row→ws[j]? = some (if row.1 = aO T0 j then (if aO T0 j = 0 then (w0[j]?).getD none else (w1[j]?).getD none) else none))
    ⟨[],_,_,_,rfl,S6,tb6,hw6,rfl,fun j row hj=>absurd hj (Nat.not_lt_zero j)⟩ (fun i σ H7 _ h=>?_) (fun i x σ H7 tt hi h htt=>?_) (fun σ H7 h=>?_)⟩
  · obtain ⟨_,_,_,_,_,S7,_⟩:=h
    exact SqL.of (S7.lst hh5)
  · clear S6 tb6 hw6
    obtain ⟨ws,y1,y2,y3,rfl,S7,tb7,hw7,wl7,h⟩:=h
    have il : i < G.length:=by rw [← hlen]; exact (List.getElem?_eq_some_iff.mp hi).1
    have hrw:=List.getElem?_eq_getElem il
    obtain ⟨t9,wt9,p1,p2,p3⟩:=hrow i _ hrw
    generalize G[i] = row at hrw p2 p3
    obtain rfl : x = .int (aO T0 i):=by
      rw [List.getElem?_map,List.getElem?_map,List.getElem?_range il] at hi
      cases hi; rfl
    have s8:=ag htt (.tup [V.int ((i : Nat) : Int),.int (aO T0 i)])
    have S8:=S7.trans (Sm.of s8)
    have tb8:=tb7.up s8
    have hw8:=s8 _ _ hw7
    have S58:=S5.trans S8
    refine ⟨tt,_,rfl,SqT.of ae,rfl,_,_,rfl,_,_,rfl,rfl,?_⟩
    generalize upd H7 tt (.tup [V.int ((i : Nat) : Int),.int (aO T0 i)]) = H8 at S8 tb8 hw8 S58 ⊢
    clear S7 tb7 hw7 s8 htt
    refine ⟨_,rfl,_,rfl,g0,_,_,_,rfl,rfl,SqL.of (S58.lst hg0),aj p1,t9,_,_,_,rfl,rfl,SqT.of (S58.tup p2),aj (j:=0) rfl,_,rfl,rfl,?_⟩
    refine ⟨_,rfl,.inl ⟨rfl,_,SqL.of hw8⟩,_,rfl,_,rfl,?_⟩
    have wll : (tV ws).length ≤ 1000:=by rw [aX]; omega
    have fin : ∀ (o : Option Int) (y1 y2 y3 : Option V),o = (if row.1 = aO T0 i then (if aO T0 i = 0 then (w0[i]?).getD none else (w1[i]?).getD none) else none)→∃ (ws' : List (Option Int)) (z1 z2 z3 : Option V),[some (V.ref g0),some (.ref bl),some (.ref ha),some (.ref wa),y1,y2,y3] = [some (V.ref g0),some (.ref bl),some (.ref ha),some (.ref wa),z1,z2,z3]∧Sm H5 (upd H8 wa (.lst (tV ws ++ [oV o])))∧Tbs K (upd H8 wa (.lst (tV ws ++ [oV o])))∧upd H8 wa (.lst (tV ws ++ [oV o])) wa = some (.lst (tV ws'))∧ws'.length = i + 1∧∀ (j : Nat) row,j < i + 1→G[j]? = some row→ws'[j]? = some (if row.1 = aO T0 j then (if aO T0 j = 0 then (w0[j]?).getD none else (w1[j]?).getD none) else none):=fun o y1 y2 y3 ho=>by
      refine ⟨ws ++ [o],y1,y2,y3,rfl,S8.put hwn _,tb8.put hw8,by rw [ae,eS],by rw [List.length_append,wl7]; rfl,fun j row' hj hr'=>?_⟩
      rcases Nat.lt_or_ge j i with c | c
      · rw [List.getElem?_append_left (by omega)]; exact h j row' c hr'
      · have : j = i:=by omega
        subst this
        rw [hrw] at hr'
        cases hr'
        rw [dU wl7,ho]
    refine bf (fun c=>?_) (fun c=>?_)
    · have c : row.1 = aO T0 i:=by have:=of_decide_eq_true c; injection this
      have wv : aO T0 i = 0 ∨ aO T0 i = 1:=by unfold aO; split <;> simp
      rcases wv with e | e
      · have ew : (w0[i]?).getD none = tbF w0 (i : Int):=(gz w0 i).symm
        refine ⟨_,rfl,_,rfl,bl,_,_,_,rfl,rfl,SqL.of (S8.lst hbl5),(by rw [e]; exact aj (j:=0) hy0),b0,_,_,_,rfl,rfl,SqT.of (S8.tup hb0),aj (j:=1) rfl,_,rfl,wa0,_,_,_,rfl,rfl,SqL.of (S8.lst hw0),gb (by omega) (by omega),wa,_,_,rfl,rfl,hw8,d8 (m:=1000) wll,fin _ _ _ _ ?_⟩
        rw [if_pos c,if_pos e,ew]
      · have ew : (w1[i]?).getD none = tbF w1 (i : Int):=(gz w1 i).symm
        refine ⟨_,rfl,_,rfl,bl,_,_,_,rfl,rfl,SqL.of (S8.lst hbl5),(by rw [e]; exact aj (j:=1) hy1),b1,_,_,_,rfl,rfl,SqT.of (S8.tup hb1),aj (j:=1) rfl,_,rfl,wa1,_,_,_,rfl,rfl,SqL.of (S8.lst hw1),gb (by omega) (by omega),wa,_,_,rfl,rfl,hw8,d8 (m:=1000) wll,fin _ _ _ _ ?_⟩
        rw [if_pos c,if_neg (by rw [e]; decide),ew]
    · have c : ¬ row.1 = aO T0 i:=fun z=>c (decide_eq_true (by rw [z]))
      refine ⟨wa,_,_,rfl,rfl,hw8,d8 (m:=1000) wll,fin none _ _ _ ?_⟩
      rw [if_neg c]
  · obtain ⟨ws,y1,y2,y3,rfl,S7,tb7,hw7,wl7,h⟩:=h
    rw [hlen] at wl7 h
    refine ⟨_,rfl,_,rfl,(by show 2 ≤ sizeLine; decide),fun t9 ht9=>?_⟩
    have s8:=ag ht9 (.tup [V.ref ha,V.ref wa])
    refine q t9 ha wa ((List.range G.length).map (aO T0)) ws _ ((S5.trans S7).trans (Sm.of s8)) (tb7.up s8) han (S5.free hwn) (fun z=>by rw [z,hwn] at hh5; cases hh5) (eA ae) ((S7.trans (Sm.of s8)) _ _ hh5) (bo (s8 _ _ hw7)) ⟨T0,w0,T1,w1,sol0,sol1,by rw [List.length_map,List.length_range],wl7,fun i row hr'=>⟨?_,h i row (List.getElem?_eq_some_iff.mp hr').1 hr'⟩⟩
    rw [List.getElem?_map,List.getElem?_range (List.getElem?_eq_some_iff.mp hr').1]; rfl
theorem cB {A : List aF} {T ws : List (Option Int)} (g : GPk A) (s : jT A T ws) {i : Nat} {row : aF} (hr : A[i]? = some row) (ht : tbF T (i : Int) ≠ none) : (row.1 = 0→∃ w ∈ row.2,ws[i]? = some (some w.1)∧leO (ax (tbF T) w) (tbF T (i : Int)))∧(row.1 = 1→∀ w ∈ row.2,leO (ax (tbF T) w) (tbF T (i : Int))):=by
  obtain ⟨r,tl,rl,N,bt,wl,h⟩:=s
  have il:=(List.getElem?_eq_some_iff.mp hr).1
  refine ⟨fun e=>?_,fun e w hw=>bt.last g N hr e hw⟩
  obtain ⟨w,hw,best,hws⟩:=(h i row hr).1 ⟨e,ht⟩
  refine ⟨w,hw,hws,?_⟩
  cases et : tbF T (i : Int) with
  | none=>exact absurd et ht
  | some v =>
    obtain ⟨w',hw',hle⟩:=N.way (i : Int) v (by omega) (by omega) et
    rw [cS rl hr (by rw [e]; decide)] at hw'
    exact (best w' hw').trans hle
theorem km {a b : Option Int} (h : leO a b) (hb : b ≠ none) : a ≠ none:=fun z=>by
  subst z
  cases b with
  | none=>exact hb rfl
  | some v=>exact h.elim
theorem jx {T : Tb} {w : Wy} (h : ax T w ≠ none) : T w.1 ≠ none:=fun z=>h (by unfold ax; rw [z]; rfl)
def rkG (G : List Row) (x : Int) : Int:=((G[x.toNat]?).map fun r=>r.2.1).getD 0
theorem ik {G : List Row} {i : Nat} {row : Row} (h : G[i]? = some row) : rkG G (i : Int) = row.2.1:=by unfold rkG; rw [show ((i : Int)).toNat = i from rfl,h]; rfl
theorem jh {G : List Row} {i : Nat} {row : Row} (h : G[i]? = some row) : (aS G 0)[i]? = some (row.1,row.2.2.map fun p=>(p,amt G.length row.2.1)):=by unfold aS; rw [if_pos rfl]; unfold dv; rw [List.getElem?_map,h]; rfl
theorem kA {G : List Row} {i : Nat} {row : Row} (h : G[i]? = some row) : (aS G 1)[i]? = some (1 - row.1,(row.2.2.map fun p=>(p,amt G.length row.2.1)).map (twn G.length)):=by unfold aS; rw [if_neg (by decide)]; unfold dM; rw [cf]; unfold dv; rw [List.getElem?_map,List.getElem?_map,h]; rfl
def lfO (row : Row) : Option Int→List Int
  | none=>row.2.2
  | some z=>[z]
def bD (G : List Row) (ws : List (Option Int)) : List (List Int):=List.zipWith lfO G ws
theorem gJ {G : List Row} {ws : List (Option Int)} {i : Nat} {row : Row} {o : Option Int} (h1 : G[i]? = some row) (h2 : ws[i]? = some o) : (bD G ws)[i]? = some (lfO row o):=by unfold bD; rw [List.getElem?_zipWith,h1,h2]
section
variable {G : List Row} {hs : List Int} {ws : List (Option Int)} {T0 w0 T1 w1 : List (Option Int)}
structure Two (G : List Row) (ws T0 w0 T1 w1 : List (Option Int)) : Prop where
  g0 : GPk (aS G 0)
  g1 : GPk (aS G 1)
  s0 : jT (aS G 0) T0 w0
  s1 : jT (aS G 1) T1 w1
  hd : ∀ r ∈ G,r.1 = 0 ∨ r.1 = 1
  ws : ∀ (i : Nat) row,G[i]? = some row→ws[i]? = some (if row.1 = aO T0 i then (if aO T0 i = 0 then (w0[i]?).getD none else (w1[i]?).getD none) else none)
theorem Two.or (t : Two G ws T0 w0 T1 w1) {i : Nat} {row : Row} (hr : G[i]? = some row) (e0 : tbF T0 (i : Int) = none) : tbF T1 (i : Int) ≠ none:=fun e1=>by
  obtain ⟨g0,g1,⟨r0,_,rl0,N0,_⟩,⟨r1,_,rl1,N1,_⟩,hd,_⟩:=t
  rw [bX] at N0 N1
  have il:=(List.getElem?_eq_some_iff.mp hr).1
  have i0:=fk g0 rl0
  rw [bX] at i0
  refine oU i0 N0 N1 (fun x x0 x1=>?_) (x:=(i : Int)) (by omega) (by omega) e0 e1
  obtain ⟨k,rfl⟩ : ∃ k : Nat,x = (k : Int):=⟨x.toNat,by omega⟩
  have kl : k < G.length:=by omega
  have hk:=List.getElem?_eq_getElem kl
  have hdk:=hd _ (List.getElem_mem kl)
  generalize G[k] = rw_ at hk hdk
  have a0:=jh hk
  have a1:=kA hk
  rcases hdk with e | e
  · obtain ⟨w2,hw2,h2⟩:=(rl1.2 k _ a1).2 (by show 1 - rw_.1 = 1; omega)
    rw [cS rl0 a0 (by show rw_.1 ≠ 1; omega),bL g1 a1 hw2 h2]
    obtain ⟨w,hw,rfl⟩:=List.mem_map.mp hw2
    exact ⟨w,hw,List.mem_singleton.mpr rfl⟩
  · obtain ⟨w,hw,h2⟩:=(rl0.2 k _ a0).2 e
    rw [bL g0 a0 hw h2,cS rl1 a1 (by show 1 - rw_.1 ≠ 1; omega)]
    exact ⟨w,List.mem_singleton.mpr rfl,List.mem_map.mpr ⟨w,hw,rfl⟩⟩
theorem qX (g0 : GPk (aS G 0)) (g1 : GPk (aS G 1)) (s0 : jT (aS G 0) T0 w0) (s1 : jT (aS G 1) T1 w1) (hd : ∀ r ∈ G,r.1 = 0 ∨ r.1 = 1) {x : Int} (x0 : 0 ≤ x) (x1 : x < (G.length : Int)) (e0 : tbF T0 x ≠ none) (e1 : tbF T1 x ≠ none) : False:=by
  refine om (n:=G.length) (fun x x0 x1 h0 h1=>?_) x0 x1 e0 e1
  obtain ⟨k,rfl⟩ : ∃ k : Nat,x = (k : Int):=⟨x.toNat,by omega⟩
  have kl : k < G.length:=by omega
  have hk:=List.getElem?_eq_getElem kl
  have hdk:=hd _ (List.getElem_mem kl)
  generalize G[k] = rw_ at hk hdk
  have a0:=jh hk
  have a1:=kA hk
  have b0:=(g0 _ (List.mem_of_getElem? a0)).2.2
  rw [bX] at b0
  rcases hdk with e | e
  · obtain ⟨w,hw,_,hle⟩:=(cB g0 s0 a0 h0).1 e
    exact ⟨w,b0 w hw,hle,(cB g1 s1 a1 h1).2 (by show 1 - rw_.1 = 1; omega) _ (List.mem_map.mpr ⟨w,hw,rfl⟩)⟩
  · obtain ⟨w2,hw2,_,hle⟩:=(cB g1 s1 a1 h1).1 (by show 1 - rw_.1 = 0; omega)
    obtain ⟨w,hw,rfl⟩:=List.mem_map.mp hw2
    exact ⟨w,b0 w hw,(cB g0 s0 a0 h0).2 e _ hw,hle⟩
theorem Two.nb (t : Two G ws T0 w0 T1 w1) {x : Int} (x0 : 0 ≤ x) (x1 : x < (G.length : Int)) (e0 : tbF T0 x ≠ none) (e1 : tbF T1 x ≠ none) : False:=qX t.g0 t.g1 t.s0 t.s1 t.hd x0 x1 e0 e1
theorem win_0 {T : List (Option Int)} {i : Nat} : aO T i = 0 ↔ tbF T (i : Int) ≠ none:=by unfold aO; split <;> simp_all
theorem win_1 {T : List (Option Int)} {i : Nat} : aO T i = 1 ↔ tbF T (i : Int) = none:=by unfold aO; split <;> simp_all
theorem d9 (T : List (Option Int)) (i : Nat) : aO T i = 0 ∨ aO T i = 1:=by unfold aO; split <;> simp
theorem Two.own (t : Two G ws T0 w0 T1 w1) {i : Nat} {row : Row} (hr : G[i]? = some row) (e : row.1 = aO T0 i) : ∃ z ∈ row.2.2,ws[i]? = some (some z):=by
  have h:=t.ws i row hr
  rw [if_pos e] at h
  rcases d9 T0 i with z | z
  · rw [if_pos z] at h
    obtain ⟨w,hw,h2,_⟩:=(cB t.g0 t.s0 (jh hr) (win_0.mp z)).1 (by show row.1 = 0; omega)
    rw [h2] at h
    obtain ⟨p,hp,rfl⟩:=List.mem_map.mp hw
    exact ⟨p,hp,h⟩
  · rw [if_neg (by omega)] at h
    obtain ⟨w,hw,h2,_⟩:=(cB t.g1 t.s1 (kA hr) (t.or hr (win_1.mp z))).1 (by show 1 - row.1 = 0; omega)
    rw [h2] at h
    obtain ⟨w',hw',rfl⟩:=List.mem_map.mp hw
    obtain ⟨p,hp,rfl⟩:=List.mem_map.mp hw'
    exact ⟨p,hp,h⟩
theorem Two.other (t : Two G ws T0 w0 T1 w1) {i : Nat} {row : Row} (hr : G[i]? = some row) (e : row.1 ≠ aO T0 i) : ws[i]? = some none:=by
  have h:=t.ws i row hr
  rwa [if_neg e] at h
theorem Two.step (t : Two G ws T0 w0 T1 w1) {i : Nat} {row : Row} (hr : G[i]? = some row) {l : List Int} (hl : (bD G ws)[i]? = some l) {p : Int} (hp : p ∈ l) : p ∈ row.2.2∧(aO T0 i = 0→leO (ax (tbF T0) (p,amt G.length row.2.1)) (tbF T0 (i : Int)))∧(aO T0 i = 1→leO (ax (tbF T1) (twn G.length (p,amt G.length row.2.1))) (tbF T1 (i : Int))):=by
  have hh:=t.hd _ (List.mem_of_getElem? hr)
  by_cases e : row.1 = aO T0 i
  · have h:=t.ws i row hr
    rw [if_pos e] at h
    rcases d9 T0 i with z | z
    · rw [if_pos z] at h
      obtain ⟨w,hw,h2,hle⟩:=(cB t.g0 t.s0 (jh hr) (win_0.mp z)).1 (by show row.1 = 0; omega)
      rw [h2] at h
      obtain ⟨p',hp',rfl⟩:=List.mem_map.mp hw
      rw [gJ hr h] at hl
      cases hl
      rw [List.mem_singleton.mp hp]
      exact ⟨hp',fun _=>hle,fun y=>by omega⟩
    · rw [if_neg (by omega)] at h
      obtain ⟨w,hw,h2,hle⟩:=(cB t.g1 t.s1 (kA hr) (t.or hr (win_1.mp z))).1 (by show 1 - row.1 = 0; omega)
      rw [h2] at h
      obtain ⟨w',hw',rfl⟩:=List.mem_map.mp hw
      obtain ⟨p',hp',rfl⟩:=List.mem_map.mp hw'
      rw [gJ hr h] at hl
      cases hl
      rw [show p = p' from List.mem_singleton.mp hp]
      exact ⟨hp',fun y=>by omega,fun _=>hle⟩
  · have h:=t.other hr e
    rw [gJ hr h] at hl
    cases hl
    refine ⟨hp,fun z=>?_,fun z=>?_⟩
    · exact (cB t.g0 t.s0 (jh hr) (win_0.mp z)).2 (by show row.1 = 1; omega) _ (List.mem_map.mpr ⟨p,hp,rfl⟩)
    · exact (cB t.g1 t.s1 (kA hr) (t.or hr (win_1.mp z))).2 (by show 1 - row.1 = 1; omega) _ (List.mem_map.mpr ⟨_,List.mem_map.mpr ⟨p,hp,rfl⟩,rfl⟩)
theorem Two.shut (t : Two G ws T0 w0 T1 w1) {i : Nat} {row : Row} (hr : G[i]? = some row) {l : List Int} (hl : (bD G ws)[i]? = some l) {p : Int} (hp : p ∈ l) : (0 ≤ p∧p < (G.length : Int))∧aO T0 p.toNat = aO T0 i:=by
  obtain ⟨h1,h2,h3⟩:=t.step hr hl hp
  have b0:=(t.g0 _ (List.mem_of_getElem? (jh hr))).2.2 (p,amt G.length row.2.1) (List.mem_map.mpr ⟨p,h1,rfl⟩)
  rw [bX] at b0
  have b0 : 0 ≤ p∧p < (G.length : Int):=b0
  refine ⟨b0,?_⟩
  have ep : ((p.toNat : Nat) : Int) = p:=by omega
  rcases d9 T0 i with z | z
  · rw [z,win_0,ep]
    exact jx (km (h2 z) (win_0.mp z))
  · rw [z,win_1,ep]
    have n1:=jx (km (h3 z) (t.or hr (win_1.mp z)))
    exact Classical.byContradiction fun y=>t.nb b0.1 b0.2 y n1
theorem Two.ring (t : Two G ws T0 w0 T1 w1) (hrk : ∀ r ∈ G,0 ≤ r.2.1) {q : Nat} (ql : q < G.length) {s : List Wy} (hs : s ≠ []) (hw : WkR (fun x w=>(0 ≤ x∧∃ l,(bD G ws)[x.toNat]? = some l∧w.1 ∈ l)∧w.2 = amt G.length (rkG G x)) (q : Int) s (q : Int)) (hm : ∀ w ∈ s,rkG G w.1 ≤ rkG G (q : Int)) : rkG G (q : Int) % 2 = aO T0 q:=by
  have inn : ∀ {x : Int} {l : List Int},0 ≤ x→(bD G ws)[x.toNat]? = some l→∃ (k : Nat) (row : Row),x = (k : Int)∧G[k]? = some row∧(bD G ws)[k]? = some l:=fun {x l} x0 hl=>by
    have xl : x.toNat < G.length:=by
      have:=(List.getElem?_eq_some_iff.mp hl).1
      unfold bD at this
      rw [List.length_zipWith] at this; omega
    exact ⟨x.toNat,_,by omega,List.getElem?_eq_getElem xl,hl⟩
  have h0 : ∀ w ∈ s,0 ≤ rkG G w.1:=fun w _=>by
    unfold rkG
    cases e : G[w.1.toNat]? with
    | none=>exact Int.le_refl _
    | some r=>exact hrk r (List.mem_of_getElem? e)
  have sp:=fV (C:=fun x=>0 ≤ x∧aO T0 x.toNat = aO T0 q) (fun x w h c=>by
    obtain ⟨⟨x0,l,hl,hp⟩,_⟩:=h
    obtain ⟨k,row,rfl,hr,hl⟩:=inn x0 hl
    obtain ⟨b,e⟩:=t.shut hr hl hp
    exact ⟨b.1,e.trans c.2⟩) hw ⟨by omega,rfl⟩
  have hwc : WkR (fun x w=>((0 ≤ x∧∃ l,(bD G ws)[x.toNat]? = some l∧w.1 ∈ l)∧w.2 = amt G.length (rkG G x))∧aO T0 x.toNat = aO T0 q) (q : Int) s (q : Int):=hw.and fun a w b e tt ha hR=>⟨hR,((fV (C:=fun x=>0 ≤ x∧aO T0 x.toNat = aO T0 q) (fun x w h c=>by
    obtain ⟨⟨x0,l,hl,hp⟩,_⟩:=h
    obtain ⟨k,row,rfl,hr,hl⟩:=inn x0 hl
    obtain ⟨b,e⟩:=t.shut hr hl hp
    exact ⟨b.1,e.trans c.2⟩) ha ⟨by omega,rfl⟩).1).2⟩
  have hr2:=Int.emod_two_eq (rkG G (q : Int))
  rcases d9 T0 q with z | z
  · have:=kT (n:=G.length) (rk:=rkG G) (T:=tbF T0) hs (hwc.and fun a w b _ tt _ hR=>by
      obtain ⟨⟨⟨x0,l,hl,hp⟩,ha⟩,e⟩:=hR
      obtain ⟨k,row,rfl,hr,hl⟩:=inn x0 hl
      have e : aO T0 k = aO T0 q:=e
      obtain ⟨h1,h2,h3⟩:=t.step hr hl hp
      rw [ik hr] at ha ⊢
      have ew : (w.1,amt G.length row.2.1) = w:=by rw [← ha]
      rw [ew] at h2
      exact ⟨⟨ha,(t.shut hr hl hp).1⟩,h2 (by omega),win_0.mp (by omega)⟩) h0 hm
    omega
  · have:=lE (n:=G.length) (rk:=rkG G) (T:=tbF T1) hs (hwc.and fun a w b _ tt _ hR=>by
      obtain ⟨⟨⟨x0,l,hl,hp⟩,ha⟩,e⟩:=hR
      obtain ⟨k,row,rfl,hr,hl⟩:=inn x0 hl
      have e : aO T0 k = aO T0 q:=e
      obtain ⟨h1,h2,h3⟩:=t.step hr hl hp
      rw [ik hr] at ha ⊢
      have ew : (w.1,amt G.length row.2.1) = w:=by rw [← ha]
      rw [ew] at h3
      exact ⟨⟨ha,(t.shut hr hl hp).1⟩,h3 (by omega),t.or hr (win_1.mp (by omega))⟩) h0 hm
    omega
end
structure Told (G : List Row) (hs : List Int) (ws : List (Option Int)) : Prop where
  hl : hs.length = G.length
  wl : ws.length = G.length
  few : G.length ≤ 16
  at_ : ∀ (i : Nat) row,G[i]? = some row→∃ h,hs[i]? = some h∧0 ≤ h∧h ≤ 1∧(row.1 ≠ h→ws[i]? = some none)∧(row.1 = h→∃ z ∈ row.2.2,ws[i]? = some (some z))
def pE : Sp:=fun vs H Q _=>∃ (t ha wa : Addr) (v : V) (G : List Row) (hs : List Int) (ws : List (Option Int)),vs = [.ref t,v]∧H t = some (.tup [.ref ha,.ref wa])∧H ha = some (.lst (hs.map V.int))∧H wa = some (.lst (tV ws))∧cL H G v∧Told G hs ws∧∀ H',Same H H'→Q (.bl true) H'
theorem rY (F : DefAt K mg "_law_is_told" bV ["_law_found","_law_game_here"]) (T : Txt mg) (D_law_whole : Dn P w K mg base "_law_whole" 1 ["_law_found"] dY) : Dn P w K mg base "_law_is_told" 2 ["_law_found","_law_game_here"] pE:=by
  have sc:=gO
  refine F.ok sc (fun vs H Q E h=>?_) (fun f cdv A outer s H vs Q E hr h=>?_)
  · obtain ⟨_,_,_,_,_,_,_,rfl,_⟩:=h; rfl
  obtain ⟨t,ha,wa,v,G,hs,ws,rfl,ht,hha,hwa,hG,to,q⟩:=h
  have few:=to.few
  have hl:=to.hl
  have wl:=to.wl
  obtain ⟨g0,gv,rfl,hg0,hgl,hrow⟩:=bY hG
  refine ⟨_,(af (aL (PW.pt (eH (cz (bJ (au (fX (K:=K) rfl (T := "tuple")) rfl T.b_isinstance PyProof.Rows.boot_isinstance (aa (pv 0) (aa (dj (v:=.ty "tuple") rfl T.b_tuple PyProof.Rows.boot_tuple rfl) ac))))) (cZ (ay gc (au (bI (K:=K) rfl) rfl T.b_len PySem.boot_len (aa (pv 0) ac)) ad (aD _)))))
      (ah (aA cK))
      az)
      (af (aL (PW.pt (eH (cz (bJ (au (fX (K:=K) rfl (T := "list")) rfl T.b_isinstance PyProof.Rows.boot_isinstance (aa (al (ixT (K:=K) rfl) (pv 0) ad (fun _ _=>rfl)) (aa (dj (v:=.ty "list") rfl T.b_list PyProof.Rows.boot_list rfl) ac))))) (cZ (cz (bJ (au (fX (K:=K) rfl (T := "list")) rfl T.b_isinstance PyProof.Rows.boot_isinstance (aa (al (ixT (K:=K) rfl) (pv 0) ad (fun _ _=>rfl)) (aa (dj (v:=.ty "list") rfl T.b_list PyProof.Rows.boot_list rfl) ac))))))))
      (ah (aA cK))
      az)
      (af (aL (PW.pt (eH (ay gc (au (bI (K:=K) rfl) rfl T.b_len PySem.boot_len (aa (al (ixT (K:=K) rfl) (pv 0) ad (fun _ _=>rfl)) ac)) (au (bI (K:=K) rfl) rfl T.b_len PySem.boot_len (aa (pv 1) ac)) (aD _)) (cZ (ay gc (au (bI (K:=K) rfl) rfl T.b_len PySem.boot_len (aa (al (ixT (K:=K) rfl) (pv 0) ad (fun _ _=>rfl)) ac)) (au (bI (K:=K) rfl) rfl T.b_len PySem.boot_len (aa (pv 1) ac)) (aD _)))))
      (ah (aA cK))
      az)
      (af (aZ PassesOwn.never rfl (na (K:=K) rfl rfl T.b_zip (aa (al (ixT (K:=K) rfl) (pv 0) ad (fun _ _=>rfl)) (aa (al (ixT (K:=K) rfl) (pv 0) ad (fun _ _=>rfl)) (aa (pv 1) ac)))) (cA rfl (aB (av (i:=2) sc.nd rfl (Or.inl rfl)) (aB (av (i:=3) sc.nd rfl (Or.inl rfl)) (aB (av (i:=4) sc.nd rfl (Or.inl rfl)) bR))))
      (af (aL (PW.pt (eH (cz (bJ (aE D_law_whole hr (aa (pv 2) ac)))) (cZ (cz (pW mz mz ad (pv 2) ad)))))
      (ah (aA cK))
      az)
      (af (aL (PW.pt (eI (ay gc (pv 2) (al (ixT (K:=K) rfl) (pv 4) ad (fun _ _=>rfl)) (aD _)) (dn (cJ (j6 (pv 3))))))
      (ah (aA cK))
      az)
      (ah (aL (PW.pt (eI (ay cN (pv 2) (al (ixT (K:=K) rfl) (pv 4) ad (fun _ _=>rfl)) (aD _)) (dn (PW.pt (eH (cz (bJ (aE D_law_whole hr (aa (pv 3) ac)))) (cZ (ay (gM (K:=K) rfl) (pv 3) (al (ixT (K:=K) rfl) (pv 4) ad (fun _ _=>rfl)) rfl)))))))
      (ah (aA cK))
      az)))))
      (ah (aA cK)))))),?_⟩
  refine ⟨_,rfl,_,"tuple",_,rfl,.inr (.inl ⟨rfl,_,ht⟩),dQ _,_,rfl,?_⟩
  refine bp ?_
  refine ⟨_,rfl,t,_,rfl,.inr (SqT.of ht),rfl,_,rfl,?_⟩
  refine bp ?_
  refine ⟨_,rfl,t,_,_,_,rfl,rfl,SqT.of ht,aj (j:=0) rfl,_,"list",_,rfl,.inl ⟨rfl,.inl ⟨_,hha⟩⟩,dQ _,_,rfl,?_⟩
  refine bp ?_
  refine ⟨_,rfl,t,_,_,_,rfl,rfl,SqT.of ht,aj (j:=1) rfl,_,"list",_,rfl,.inl ⟨rfl,.inl ⟨_,hwa⟩⟩,dQ _,_,rfl,?_⟩
  refine bp ?_
  refine ⟨_,rfl,t,_,_,_,rfl,rfl,SqT.of ht,aj (j:=0) rfl,ha,_,rfl,.inl (SqL.of hha),_,rfl,g0,_,rfl,.inl (SqL.of hg0),rfl,_,rfl,?_⟩
  refine bf (fun c=>?_) (fun c=>?_)
  · exfalso; simp [hl,hgl] at c
  refine ⟨_,rfl,t,_,_,_,rfl,rfl,SqT.of ht,aj (j:=1) rfl,wa,_,rfl,.inl (SqL.of hwa),_,rfl,g0,_,rfl,.inl (SqL.of hg0),rfl,_,rfl,?_⟩
  refine bf (fun c=>?_) (fun c=>?_)
  · exfalso; simp [aX,wl,hgl] at c
  refine ⟨_,rfl,t,_,_,_,rfl,rfl,SqT.of ht,aj (j:=0) rfl,_,rfl,t,_,_,_,rfl,rfl,SqT.of ht,aj (j:=1) rfl,_,rfl,ha,wa,g0,rfl,⟨_,SqL.of hha⟩,⟨_,SqL.of hwa⟩,⟨_,SqL.of hg0⟩,li (K:=K) (a:=ha) (b:=wa) (d:=g0) (xs:=hs.map V.int) (ys:=tV ws) (zs:=gv) (by rw [List.length_map,aX,hl,wl]) (by rw [List.length_map,hl,hgl]) (fun i σ H2=>Same H H2∧∃ y1 y2 y3 : Option V,σ = [some (.ref t),some (.ref g0),y1,y2,y3])
    ⟨Same.refl _,_,_,_,rfl⟩ (fun i σ H2 _ h=>⟨SqL.of (h.1 _ _ hha),SqL.of (h.1 _ _ hwa),SqL.of (h.1 _ _ hg0)⟩) (fun i x y z σ H2 Tt hx hy hz h hT=>?_) (fun σ H2 h=>?_)⟩
  · obtain ⟨s2,y1,y2,y3,rfl⟩:=h
    have il : i < G.length:=by have:=(List.getElem?_eq_some_iff.mp hz).1; omega
    have hr':=List.getElem?_eq_getElem il
    obtain ⟨t9,wt9,p1,p2,p3⟩:=hrow i _ hr'
    obtain ⟨hv,hh,h0,h1,ho,hi⟩:=to.at_ i _ hr'
    generalize G[i] = row at hr' p2 p3 ho hi
    rw [hz] at p1
    injection p1 with p1
    subst p1
    obtain rfl : x = .int hv:=by
      rw [List.getElem?_map,hh] at hx
      cases hx; rfl
    obtain ⟨o,hw,rfl⟩:=gj hy
    have s3:=s2.trans (ag hT (.tup [V.int hv,oV o,.ref t9]))
    refine ⟨Tt,_,rfl,SqT.of ae,rfl,_,_,rfl,_,_,rfl,_,_,rfl,rfl,?_⟩
    generalize upd H2 Tt (.tup [V.int hv,oV o,.ref t9]) = H3 at s3 ⊢
    refine ⟨_,rfl,hv,rfl,_,rfl,?_⟩
    refine bp ?_
    refine ⟨_,rfl,_,_,rfl,rfl,_,rfl,?_⟩
    rw [decide_eq_true h0]
    refine dy ?_
    refine ⟨_,_,rfl,rfl,_,rfl,?_⟩
    rw [decide_eq_true h1]
    refine bp ?_
    refine ⟨_,rfl,_,rfl,t9,_,_,_,rfl,rfl,SqT.of (s3 _ _ p2),aj (j:=0) rfl,rfl,_,rfl,?_⟩
    by_cases c : row.1 = hv
    · obtain ⟨zz,hzz,hzw⟩:=hi c
      rw [hw] at hzw
      injection hzw with hzw
      subst hzw
      refine bf (fun d=>?_) (fun d=>?_)
      · exfalso; simp [c] at d
      refine bp ?_
      refine ⟨_,rfl,_,rfl,t9,_,_,_,rfl,rfl,SqT.of (s3 _ _ p2),aj (j:=0) rfl,rfl,_,rfl,?_⟩
      refine bf (fun d=>?_) (fun d=>?_)
      · refine ⟨_,rfl,zz,rfl,_,rfl,?_⟩
        refine bp ?_
        refine ⟨_,rfl,_,rfl,t9,_,_,_,rfl,rfl,SqT.of (s3 _ _ p2),aj (j:=2) rfl,wt9,_,rfl,.inl (SqL.of (s3 _ _ p3)),rfl,eO _,_,rfl,?_⟩
        show if (!inV (.int zz) (row.2.2.map V.int)) = true then _ else _
        rw [er]
        refine bf (fun c=>?_) (fun c=>?_)
        · exfalso; simp [hzz] at c
        · exact ⟨s3,_,_,_,rfl⟩
      · exact bp ⟨s3,_,_,_,rfl⟩
    · have hn:=ho c
      rw [hw] at hn
      injection hn with hn
      subst hn
      refine bf (fun d=>?_) (fun d=>?_)
      · refine ⟨_,rfl,_,rfl,?_⟩
        refine bp ?_
        refine ⟨_,rfl,_,rfl,t9,_,_,_,rfl,rfl,SqT.of (s3 _ _ p2),aj (j:=0) rfl,rfl,_,rfl,?_⟩
        refine bf (fun d2=>?_) (fun d2=>?_)
        · exfalso; exact c (by have:=of_decide_eq_true d2; injection this with e; exact e.symm)
        · exact bp ⟨s3,_,_,_,rfl⟩
      · exfalso; simp at d; exact c d.symm
  · exact q _ h.1
abbrev rLL : Rel (List (List Int)):=d4 (d4 cu)
theorem mono_ll : MonoR rLL:=bw (bw bg)
def m7 : Sp:=fun vs H Q _=>∃ (wa : Addr) (v : V) (G : List Row) (ws : List (Option Int)),vs = [v,.ref wa]∧H wa = some (.lst (tV ws))∧cL H G v∧ws.length = G.length∧G.length ≤ 16∧∀ (u : V) (H' : Hp),Same H H'→rLL H' (bD G ws) u→Q u H'
theorem ir {G : List Row} {r : List (Option Int)} {i : Nat} {row : Row} {o : Option Int} (h1 : G[i]? = some row) (h2 : r[i]? = some o) : bD (G.take (i + 1)) (r.take (i + 1)) = bD (G.take i) (r.take i) ++ [lfO row o]:=by
  have l1:=(List.getElem?_eq_some_iff.mp h1).1
  have l2:=(List.getElem?_eq_some_iff.mp h2).1
  unfold bD
  rw [List.take_succ,List.take_succ,h1,h2,List.zipWith_append (by rw [List.length_take,List.length_take]; omega)]; rfl
theorem pc (F : DefAt K mg "_law_left" cY ["_law_game_here","_law_places"]) (T : Txt mg) : Dn P w K mg base "_law_left" 1 ["_law_game_here","_law_places"] m7:=by
  have sc:=lf
  refine F.ok sc (fun vs H Q E h=>?_) (fun f cdv A outer s H vs Q E hr h=>?_)
  · obtain ⟨_,_,_,_,rfl,_⟩:=h; rfl
  obtain ⟨wa,v,G,ws,rfl,hwa,hG,wl,few,q⟩:=h
  obtain ⟨g0,gv,rfl,hg0,hgl,hrow⟩:=bY hG
  refine ⟨_,(af (aq (i:=2) sc.nd rfl (Or.inl rfl) (bC ac))
      (af (aZ PassesOwn.never rfl (gY (K:=K) rfl rfl T.b_zip (aa (pv 0) (aa (pv 1) ac))) (cA rfl (aB (av (i:=3) sc.nd rfl (Or.inl rfl)) (aB (av (i:=4) sc.nd rfl (Or.inl rfl)) bR)))
      (ah (aL (cJ (dW (pv 4)))
      (ah (aM (di PySem.F.plainAttrs_list PySem.F.slot_list_append PySem.F.type_list_append aU (pv 2) (aa (al (ixT (K:=K) rfl) (pv 3) ad (fun _ _=>rfl)) ac))))
      (ah (aM (di PySem.F.plainAttrs_list PySem.F.slot_list_append PySem.F.type_list_append aU (pv 2) (aa (bC (aa (pv 4) ac)) ac)))))))
      (ah (aA (pv 2))))),?_⟩
  refine ⟨Nat.zero_le _,fun gl hgl0=>?_⟩
  have s1:=ag hgl0 (.lst [])
  refine ⟨_,rfl,_,rfl,g0,wa,rfl,⟨_,SqL.of (s1 _ _ hg0)⟩,⟨_,SqL.of (s1 _ _ hwa)⟩,fv (K:=K) (a:=g0) (b:=wa) (xs:=gv) (ys:=tV ws) (by rw [aX,hgl,wl]) (fun i σ H2=>∃ y1 y2 : Option V,σ = [some (.ref g0),some (.ref wa),some (.ref gl),y1,y2]∧Bd (d4 cu) H H2 gl (bD (G.take i) (ws.take i))) ⟨_,_,rfl,Bd.start hgl0⟩ (fun i σ H2 _ h=>?_) (fun i x y σ H2 tt hx hy h htt=>?_) (fun σ H2 h=>?_)⟩
  · obtain ⟨_,_,_,b⟩:=h
    exact ⟨SqL.of (b.s _ _ hg0),SqL.of (b.s _ _ hwa)⟩
  · obtain ⟨y1,y2,rfl,b⟩:=h
    have il : i < G.length:=by rw [← hgl]; exact (List.getElem?_eq_some_iff.mp hx).1
    have hr':=List.getElem?_eq_getElem il
    obtain ⟨t9,wt9,p1,p2,p3⟩:=hrow i _ hr'
    generalize G[i] = row at hr' p2 p3
    rw [hx] at p1
    injection p1 with p1
    subst p1
    obtain ⟨o,hw,rfl⟩:=gj hy
    have s3:=ag htt (.tup [V.ref t9,oV o])
    have b3:=b.go (bw bg) s3
    obtain ⟨gvs,hgv,gvl⟩:=b3.sq
    have gll : (bD (G.take i) (ws.take i)).length ≤ 16:=by unfold bD; rw [List.length_zipWith,List.length_take,List.length_take]; omega
    refine ⟨tt,_,rfl,SqT.of ae,rfl,_,_,rfl,_,_,rfl,rfl,?_⟩
    refine ⟨_,rfl,_,rfl,?_⟩
    have hgv2 : H2 gl = some (.lst gvs):=by
      obtain ⟨vs9,h9,_⟩:=b.ex
      have:=s3 _ _ h9
      rw [hgv] at this; cases this; exact h9
    cases o with
    | none =>
      refine dy ?_
      obtain ⟨vs5,k1,k2,b5⟩:=b.push (bw bg) s3 (x:=row.2.2) (v:=.ref wt9) (rLst_ints.mpr ⟨wt9,rfl,b3.old _ _ p3⟩)
      refine ⟨_,rfl,.inl ⟨rfl,_,SqL.of hgv⟩,_,rfl,t9,_,_,_,rfl,rfl,SqT.of (b3.s _ _ p2),aj (j:=2) rfl,gl,vs5,_,rfl,rfl,k1,d8 (m:=1000) (by omega),_,_,rfl,?_⟩
      rw [ir hr' hw]
      exact b5
    | some z =>
      refine bp ?_
      refine ⟨_,rfl,.inl ⟨rfl,_,SqL.of hgv⟩,_,rfl,(by show 1 ≤ sizeLine; decide),fun lc hlc=>?_⟩
      have nlc : lc ≠ gl:=fun z=>by rw [z,hgv] at hlc; cases hlc
      obtain ⟨vs5,k1,k2,b5⟩:=b.push (bw bg) (s3.trans (ag hlc (.lst [V.int z]))) (x:=[z]) (v:=.ref lc) (rLst_ints.mpr ⟨lc,rfl,by rw [cw nlc]; exact ae⟩)
      refine ⟨gl,vs5,_,rfl,rfl,k1,d8 (m:=1000) (by omega),_,_,rfl,?_⟩
      rw [ir hr' hw]
      exact b5
  · obtain ⟨_,_,rfl,b⟩:=h
    rw [hgl,List.take_length,show G.length = ws.length from wl.symm,List.take_length] at b
    exact ⟨_,rfl,q _ _ b.s (b.done (bw bg))⟩
def StL (G : List Row) (L : List (List Int)) : Int→Wy→Prop:=fun x w=>(0 ≤ x∧∃ l,L[x.toNat]? = some l∧w.1 ∈ l)∧w.2 = amt G.length (rkG G x)
def Rc (G : List Row) (L : List (List Int)) (q p : Int) : Prop:=∃ s,WkR (StL G L) q s p∧∀ w ∈ s,rkG G w.1 ≤ rkG G q
theorem kM {R : Int→Wy→Prop} : ∀ {x y : Int} {s : List Wy} {w : Wy},WkR R x s y→R y w→WkR R x (s ++ [w]) w.1
  | _,_,[],_,h,hw=>by
    have h : _ = _:=h
    subst h
    exact ⟨hw,rfl⟩
  | _,_,_ :: _,_,h,hw=>⟨h.1,kM h.2 hw⟩
theorem Rc.step {G : List Row} {L : List (List Int)} {q p z : Int} (h : Rc G L q p) (p0 : 0 ≤ p) {l : List Int} (hl : L[p.toNat]? = some l) (hz : z ∈ l) (hr : rkG G z ≤ rkG G q) : ∃ s,s ≠ []∧WkR (StL G L) q s z∧∀ w ∈ s,rkG G w.1 ≤ rkG G q:=by
  obtain ⟨s,h1,h2⟩:=h
  refine ⟨s ++ [(z,amt G.length (rkG G p))],by simp,kM (w:=(z,amt G.length (rkG G p))) h1 ⟨⟨p0,l,hl,hz⟩,rfl⟩,fun w hw=>?_⟩
  rcases List.mem_append.mp hw with e | e
  · exact h2 w e
  · rw [List.mem_singleton.mp e]; exact hr
theorem k9 {H : Hp} {L : List (List Int)} {v : V} (h : rLL H L v) : ∃ a us,v = .ref a∧H a = some (.lst us)∧us.length = L.length∧∀ (i : Nat) (l : List Int),L[i]? = some l→∃ u,us[i]? = some (.ref u)∧H u = some (.lst (l.map V.int)):=by
  obtain ⟨a,us,rfl,h,p⟩:=h
  refine ⟨a,us,rfl,h,p.length.symm,fun i l hl=>?_⟩
  obtain ⟨y,hy,r⟩:=L2.Paired.at p hl
  obtain ⟨u,rfl,hu⟩:=rLst_ints.mp r
  exact ⟨u,hy,hu⟩
def u6 : Sp:=fun vs H Q _=>∃ (v lv : V) (q : Int) (G : List Row) (L : List (List Int)),vs = [v,lv,.int q]∧cL H G v∧rLL H L lv∧L.length = G.length∧(∀ l ∈ L,∀ p ∈ l,0 ≤ p∧p < (G.length : Int))∧G.length ≤ 16∧0 ≤ q∧q < (G.length : Int)∧∀ (b : Bool) (H' : Hp),Same H H'→(b = true→∃ s,s ≠ []∧WkR (StL G L) q s q∧∀ w ∈ s,rkG G w.1 ≤ rkG G q)→Q (.bl b) H'
theorem uV (F : DefAt K mg "_law_comes_back" bn ["_law_game_here","_law_left_here","_law_start"]) (T : Txt mg) : Dn P w K mg base "_law_comes_back" 1 ["_law_game_here","_law_left_here","_law_start"] u6:=by
  have sc:=fg
  refine F.ok sc (fun vs H Q E h=>?_) (fun f cdv A outer s H vs Q E hr h=>?_)
  · obtain ⟨_,_,_,_,_,rfl,_⟩:=h; rfl
  obtain ⟨v,lv,z,G,L,rfl,hG,hL,ll,lin,few,z0,z1,q⟩:=h
  obtain ⟨g0,gv,rfl,hg0,hgl,hrow⟩:=bY hG
  obtain ⟨la,us,rfl,hla,ul,hus⟩:=k9 hL
  have zl : z.toNat < G.length:=by omega
  have hz:=List.getElem?_eq_getElem zl
  obtain ⟨t0,wt0,p1,p2,p3⟩:=hrow _ _ hz
  have ez : rkG G z = G[z.toNat].2.1:=by have:=ik hz; rwa [show ((z.toNat : Nat) : Int) = z by omega] at this
  refine ⟨_,(af (aq (i:=3) sc.nd rfl (Or.inl rfl) (al (ixT (K:=K) rfl) (al (ixL (K:=K) rfl) (pv 0) (pv 2) (fun _ _=>rfl)) ad (fun _ _=>rfl)))
      (af (aq (i:=4) sc.nd rfl (Or.inl rfl) (bC ac))
      (af (aq (i:=5) sc.nd rfl (Or.inl rfl) (bC (aa (pv 2) ac)))
      (af (kK PassesOwn.never (ay ml (au (bI (K:=K) rfl) rfl T.b_len PySem.boot_len (aa (pv 5) ac)) ad (aD _))
      (ah (aZ PassesOwn.never rfl (bj (al (ixL (K:=K) rfl) (pv 1) (pb PySem.F.plainAttrs_list PySem.F.slot_list_pop PySem.F.type_list_pop tN (pv 5)) (fun _ _=>rfl))) (av (i:=6) sc.nd rfl (Or.inl rfl))
      (af (aL (ay cN (pv 6) (pv 2) (aD _))
      (ah (aA cK))
      az)
      (ah (aL (PW.pt (eI (ay mz (al (ixT (K:=K) rfl) (al (ixL (K:=K) rfl) (pv 0) (pv 6) (fun _ _=>rfl)) ad (fun _ _=>rfl)) (pv 3) (aD _)) (dn (ay (gM (K:=K) rfl) (pv 6) (pv 4) rfl))))
      (af (aM (di PySem.F.plainAttrs_list PySem.F.slot_list_append PySem.F.type_list_append aU (pv 4) (aa (pv 6) ac)))
      (ah (aM (di PySem.F.plainAttrs_list PySem.F.slot_list_append PySem.F.type_list_append aU (pv 5) (aa (pv 6) ac)))))
      az))))))
      (ah (aA cK)))))),?_⟩
  refine ⟨_,rfl,_,rfl,g0,_,_,_,rfl,rfl,SqL.of hg0,gR z0 p1,t0,_,_,_,rfl,rfl,SqT.of p2,aj (j:=1) rfl,?_⟩
  rw [← ez]
  refine ⟨Nat.zero_le _,fun sa hsa=>?_⟩
  refine ⟨_,rfl,(by show 1 ≤ sizeLine; decide),fun wa hwa=>?_⟩
  have s2:=(ag hsa (.lst [])).trans (ag hwa (.lst [.int z]))
  have ne : sa ≠ wa:=fun e=>by rw [← e] at hwa; have:=hwa.symm.trans (ae (H:=H) (a:=sa) (o:=.lst [])); cases this
  have hwn : H wa = none:=(ag hsa (.lst [])).free hwa
  have hs2 : upd (upd H sa (.lst [])) wa (.lst [.int z]) sa = some (.lst (([] : List Int).map V.int)):=by rw [ar ne]; exact ae
  have hw2 : upd (upd H sa (.lst [])) wa (.lst [.int z]) wa = some (.lst (([z] : List Int).map V.int)):=ae
  generalize upd (upd H sa (.lst [])) wa (.lst [.int z]) = H2 at s2 hs2 hw2 ⊢
  refine ⟨fun m σ H3=>∃ (sn wt : List Int) (y : Option V),m = 2 * (G.length - sn.length) + wt.length∧m ≤ 33∧σ = [some (.ref g0),some (.ref la),some (.int z),some (.int (rkG G z)),some (.ref sa),some (.ref wa),y]∧Same H H3∧H3 sa = some (.lst (sn.map V.int))∧H3 wa = some (.lst (wt.map V.int))∧sn.Nodup∧(∀ p ∈ sn,0 ≤ p∧p < (G.length : Int))∧∀ p ∈ wt,(0 ≤ p∧p < (G.length : Int))∧Rc G L z p,
    ⟨_,[],[z],_,rfl,by simp; omega,rfl,s2,hs2,hw2,by simp,(fun _ h=>by cases h),fun p hp=>by rw [List.mem_singleton.mp hp]; exact ⟨⟨z0,z1⟩,[],rfl,fun _ h=>by cases h⟩⟩,fun m σ H3 h=>?_⟩
  clear hs2 hw2 s2
  obtain ⟨sn,wt,y,rfl,m33,rfl,s3,hs3,hw3,nd,sr,wr⟩:=h
  refine ⟨_,rfl,wa,_,rfl,.inl (SqL.of hw3),_,_,rfl,rfl,_,rfl,?_⟩
  refine bf (fun c=>?_) (fun c=>?_)
  · have wne : wt ≠ []:=fun e=>by subst e; simp at c
    obtain ⟨wt',p,rfl⟩ : ∃ wt' p,wt = wt' ++ [p]:=⟨wt.dropLast,wt.getLast wne,(List.dropLast_concat_getLast wne).symm⟩
    obtain ⟨pr,prc⟩:=wr p (by simp)
    have pl : p.toNat < L.length:=by omega
    have hl:=List.getElem?_eq_getElem pl
    have linp:=lin _ (List.getElem_mem pl)
    obtain ⟨u,hu1,hu2⟩:=hus _ _ hl
    generalize L[p.toNat] = l at hl linp hu2
    refine ⟨fun σ H4=>∃ (sn' wt2 : List Int) (y : Option V),2 * (G.length - sn'.length) + wt2.length < 2 * (G.length - sn.length) + (wt' ++ [p]).length∧σ = [some (.ref g0),some (.ref la),some (.int z),some (.int (rkG G z)),some (.ref sa),some (.ref wa),y]∧Same H H4∧H4 sa = some (.lst (sn'.map V.int))∧H4 wa = some (.lst (wt2.map V.int))∧sn'.Nodup∧(∀ p ∈ sn',0 ≤ p∧p < (G.length : Int))∧∀ p ∈ wt2,(0 ≤ p∧p < (G.length : Int))∧Rc G L z p,fun σ' H4 h=>?_,?_⟩
    · obtain ⟨sn',wt2,y,h1,rfl,h2,h3,h4,h5,h6,h7⟩:=h
      exact ⟨_,h1,sn',wt2,y,rfl,by omega,rfl,h2,h3,h4,h5,h6,h7⟩
    have em : (wt' ++ [p]).map V.int = wt'.map V.int ++ [V.int p]:=by rw [List.map_append]; rfl
    rw [em] at hw3
    have s4 : Same H (upd H3 wa (.lst (wt'.map V.int))):=s3.put hwn _
    have hs4 : upd H3 wa (.lst (wt'.map V.int)) sa = some (.lst (sn.map V.int)):=by rw [ar ne]; exact hs3
    have hw4 : upd H3 wa (.lst (wt'.map V.int)) wa = some (.lst (wt'.map V.int)):=ae
    refine ⟨_,rfl,_,rfl,.inl ⟨rfl,_,SqL.of hw3⟩,wa,_,_,rfl,rfl,hw3,(by rw [List.length_append,List.length_singleton,Nat.add_sub_cancel]; exact List.getElem?_concat_length ..),?_⟩
    rw [List.dropLast_concat]
    generalize upd H3 wa (.lst (wt'.map V.int)) = H4 at s4 hs4 hw4 ⊢
    refine ⟨la,_,_,_,rfl,rfl,SqL.of (s4 _ _ hla),gR pr.1 hu1,u,rfl,⟨_,SqL.of (s4 _ _ hu2)⟩,dJ (K:=K) (a:=u) (xs:=l.map V.int) (fun i σ H5=>∃ (sn' wt2 : List Int) (y : Option V),2 * (G.length - sn'.length) + wt2.length < 2 * (G.length - sn.length) + (wt' ++ [p]).length∧σ = [some (.ref g0),some (.ref la),some (.int z),some (.int (rkG G z)),some (.ref sa),some (.ref wa),y]∧Same H H5∧H5 sa = some (.lst (sn'.map V.int))∧H5 wa = some (.lst (wt2.map V.int))∧sn'.Nodup∧(∀ p ∈ sn',0 ≤ p∧p < (G.length : Int))∧∀ p ∈ wt2,(0 ≤ p∧p < (G.length : Int))∧Rc G L z p)
      ⟨sn,wt',_,by rw [List.length_append]; simp,rfl,s4,hs4,hw4,nd,sr,fun p hp=>wr p (List.mem_append_left _ hp)⟩ (fun i σ H5 _ h=>?_) (fun i x σ H5 hi h=>?_) (fun σ H5 h=>?_)⟩
    · obtain ⟨_,_,_,_,_,s5,_⟩:=h
      exact SqL.of (s5 _ _ hu2)
    · clear s4 hs4 hw4
      obtain ⟨sn',wt2,y',lt5,rfl,s5,hs5,hw5,nd5,sr5,wr5⟩:=h
      obtain ⟨d,hd,rfl⟩:=eP hi
      have dm : d ∈ l:=List.mem_of_getElem? hd
      obtain ⟨d0,d1⟩:=linp d dm
      refine ⟨_,rfl,_,rfl,rfl,_,rfl,?_⟩
      refine bf (fun c=>?_) (fun c=>?_)
      · have c : d = z:=by have:=of_decide_eq_true c; injection this
        refine q true _ s5 fun _=>?_
        exact prc.step pr.1 hl (by rw [← c]; exact dm) (Int.le_refl _)
      · have dl : d.toNat < G.length:=by omega
        have hdr:=List.getElem?_eq_getElem dl
        obtain ⟨t9,wt9,k1,k2,k3⟩:=hrow _ _ hdr
        have ed : rkG G d = G[d.toNat].2.1:=by have:=ik hdr; rwa [show ((d.toNat : Nat) : Int) = d by omega] at this
        refine ⟨_,rfl,_,rfl,g0,_,_,_,rfl,rfl,SqL.of (s5 _ _ hg0),gR d0 k1,t9,_,_,_,rfl,rfl,SqT.of (s5 _ _ k2),aj (j:=1) rfl,_,rfl,_,_,rfl,rfl,_,rfl,?_⟩
        rw [← ed]
        have no : ∀ y9 : Option V,∃ (sn' wt2 : List Int) (y : Option V),2 * (G.length - sn'.length) + wt2.length < 2 * (G.length - sn.length) + (wt' ++ [p]).length∧[some (V.ref g0),some (.ref la),some (.int z),some (.int (rkG G z)),some (.ref sa),some (.ref wa),y9] = [some (V.ref g0),some (.ref la),some (.int z),some (.int (rkG G z)),some (.ref sa),some (.ref wa),y]∧Same H H5∧H5 sa = some (.lst (sn'.map V.int))∧H5 wa = some (.lst (wt2.map V.int))∧sn'.Nodup∧(∀ p ∈ sn',0 ≤ p∧p < (G.length : Int))∧∀ p ∈ wt2,(0 ≤ p∧p < (G.length : Int))∧Rc G L z p:=fun y9=>⟨sn',wt2,y9,lt5,rfl,s5,hs5,hw5,nd5,sr5,wr5⟩
        refine bf (fun c2=>?_) (fun c2=>?_)
        · have c2 : rkG G d ≤ rkG G z:=of_decide_eq_true c2
          refine ⟨_,rfl,_,rfl,sa,_,rfl,.inl (SqL.of hs5),rfl,eO _,_,rfl,?_⟩
          show if (!inV (.int d) (sn'.map V.int)) = true then _ else _
          rw [er]
          refine bf (fun c3=>?_) (fun c3=>?_)
          · have c3 : d ∉ sn':=fun e=>by rw [decide_eq_true e] at c3; cases c3
            have nd6 : (sn' ++ [d]).Nodup:=by
              rw [List.nodup_append]
              refine ⟨nd5,by simp,fun x hx y hy=>?_⟩
              rw [List.mem_singleton.mp hy]
              exact fun e=>c3 (e ▸ hx)
            have sr6 : ∀ p ∈ sn' ++ [d],0 ≤ p∧p < (G.length : Int):=fun x hx=>by
              rcases List.mem_append.mp hx with e | e
              · exact sr5 x e
              · rw [List.mem_singleton.mp e]; exact ⟨d0,d1⟩
            have len6:=bZ nd6 sr6
            rw [List.length_append,List.length_singleton] at len6
            refine ⟨_,rfl,.inl ⟨rfl,_,SqL.of hs5⟩,_,rfl,sa,_,_,rfl,rfl,hs5,d8 (m:=1000) (by rw [List.length_map]; omega),?_⟩
            have s6 : Same H (upd H5 sa (.lst (sn'.map V.int ++ [V.int d]))):=s5.put hsa _
            have hw6 : upd H5 sa (.lst (sn'.map V.int ++ [V.int d])) wa = some (.lst (wt2.map V.int)):=by rw [ar (Ne.symm ne)]; exact hw5
            have hs6 : upd H5 sa (.lst (sn'.map V.int ++ [V.int d])) sa = some (.lst ((sn' ++ [d]).map V.int)):=by rw [ae,List.map_append]; rfl
            generalize upd H5 sa (.lst (sn'.map V.int ++ [V.int d])) = H6 at s6 hw6 hs6 ⊢
            refine ⟨_,rfl,.inl ⟨rfl,_,SqL.of hw6⟩,_,rfl,wa,_,_,rfl,rfl,hw6,d8 (m:=1000) (by rw [List.length_map]; omega),?_⟩
            refine ⟨sn' ++ [d],wt2 ++ [d],_,by rw [List.length_append,List.length_append,List.length_singleton]; omega,rfl,s6.put hwn _,by rw [ar ne]; exact hs6,by rw [ae,List.map_append]; rfl,nd6,sr6,fun x hx=>?_⟩
            rcases List.mem_append.mp hx with e | e
            · exact wr5 x e
            · rw [List.mem_singleton.mp e]
              obtain ⟨s9,_,h9⟩:=prc.step pr.1 hl dm c2
              exact ⟨⟨d0,d1⟩,s9,h9⟩
          · exact no _
        · exact bp (no _)
    · obtain ⟨sn',wt2,y',lt5,rfl,s5,hs5,hw5,nd5,sr5,wr5⟩:=h
      exact ⟨sn',wt2,y',lt5,rfl,s5,hs5,hw5,nd5,sr5,wr5⟩
  · exact q false _ s3 fun z=>by cases z
structure HoldOk (G : List Row) (hs : List Int) (ws : List (Option Int)) : Prop where
  told : Told G hs ws
  shut : ∀ (i : Nat) l,(bD G ws)[i]? = some l→∀ p ∈ l,(0 ≤ p∧p < (G.length : Int))∧hs[p.toNat]? = hs[i]?
  ring : ∀ (q : Nat) h s,hs[q]? = some h→s ≠ []→WkR (StL G (bD G ws)) (q : Int) s (q : Int)→(∀ w ∈ s,rkG G w.1 ≤ rkG G (q : Int))→rkG G (q : Int) % 2 = h
def mQ : Sp:=fun vs H Q _=>∃ (t ha wa : Addr) (v : V) (G : List Row) (hs : List Int) (ws : List (Option Int)),vs = [.ref t,v]∧H t = some (.tup [.ref ha,.ref wa])∧H ha = some (.lst (hs.map V.int))∧H wa = some (.lst (tV ws))∧cL H G v∧HoldOk G hs ws∧∀ H',Same H H'→Q (.bl true) H'
theorem jj {G : List Row} {ws : List (Option Int)} (h : ws.length = G.length) : (bD G ws).length = G.length:=by unfold bD; rw [List.length_zipWith]; omega
theorem o0 (F : DefAt K mg "_law_holds" cG ["_law_found","_law_game_here"]) (T : Txt mg) (D_law_is_told : Dn P w K mg base "_law_is_told" 2 ["_law_found","_law_game_here"] pE) (D_law_left : Dn P w K mg base "_law_left" 1 ["_law_game_here","_law_places"] m7) (D_law_comes_back : Dn P w K mg base "_law_comes_back" 1 ["_law_game_here","_law_left_here","_law_start"] u6) : Dn P w K mg base "_law_holds" 3 ["_law_found","_law_game_here"] mQ:=by
  have sc:=jA
  refine F.ok sc (fun vs H Q E h=>?_) (fun f cdv A outer s H vs Q E hr h=>?_)
  · obtain ⟨_,_,_,_,_,_,_,rfl,_⟩:=h; rfl
  obtain ⟨t,ha,wa,v,G,hs,ws,rfl,ht,hha,hwa,hG,ok,q⟩:=h
  have few:=ok.told.few
  have hl:=ok.told.hl
  have wl:=ok.told.wl
  have Ll:=jj wl
  refine ⟨_,(af (aL (cz (bJ (aE D_law_is_told hr (aa (pv 0) (aa (pv 1) ac)))))
      (ah (aA cK))
      az)
      (af (aq (i:=2) sc.nd rfl (Or.inl rfl) (al (ixT (K:=K) rfl) (pv 0) ad (fun _ _=>rfl)))
      (af (aq (i:=3) sc.nd rfl (Or.inl rfl) (aE D_law_left hr (aa (pv 1) (aa (al (ixT (K:=K) rfl) (pv 0) ad (fun _ _=>rfl)) ac))))
      (af (aZ PassesOwn.never rfl (b6 rfl T.b_range (aa (au (bI (K:=K) rfl) rfl T.b_len PySem.boot_len (aa (pv 1) ac)) ac)) (av (i:=4) sc.nd rfl (Or.inl rfl))
      (af (aZ PassesOwn.never rfl (bj (al (ixL (K:=K) rfl) (pv 3) (pv 4) (fun _ _=>rfl))) (av (i:=5) sc.nd rfl (Or.inl rfl))
      (ah (aL (ay gc (al (ixL (K:=K) rfl) (pv 2) (pv 5) (fun _ _=>rfl)) (al (ixL (K:=K) rfl) (pv 2) (pv 4) (fun _ _=>rfl)) (aD _))
      (ah (aA cK))
      az)))
      (ah (aL (PW.pt (eI (ay gc (ao aV (al (ixT (K:=K) rfl) (al (ixL (K:=K) rfl) (pv 1) (pv 4) (fun _ _=>rfl)) ad (fun _ _=>rfl)) ad) (al (ixL (K:=K) rfl) (pv 2) (pv 4) (fun _ _=>rfl)) (aD _)) (dn (bJ (aE D_law_comes_back hr (aa (pv 1) (aa (pv 3) (aa (pv 4) ac))))))))
      (ah (aA cK))
      az))))
      (ah (aA cK)))))),?_⟩
  refine ⟨_,rfl,_,rfl,t,ha,wa,v,G,hs,ws,rfl,ht,hha,hwa,hG,ok.told,fun H1 s1=>⟨_,rfl,?_⟩⟩
  refine bp ?_
  refine ⟨_,rfl,t,_,_,_,rfl,rfl,SqT.of (s1 _ _ ht),aj (j:=0) rfl,?_⟩
  refine ⟨_,rfl,_,rfl,t,_,_,_,rfl,rfl,SqT.of (s1 _ _ ht),aj (j:=1) rfl,wa,v,G,ws,rfl,s1 _ _ hwa,mono_game.up s1 hG,wl,few,fun u H2 s2 hu=>?_⟩
  have s12:=s1.trans s2
  have hL:=hu
  obtain ⟨la,us,rfl,hla,ul,hus⟩:=k9 hu
  obtain ⟨g0,gv,rfl,hg0,hgl,hrow⟩:=bY hG
  refine ⟨_,rfl,g0,_,rfl,.inl (SqL.of (s12 _ _ hg0)),((gv.length : Nat) : Int),rfl,by omega,by omega,cx (lo:=0) (n:=((gv.length : Nat) : Int).toNat) (fun i σ H3=>∃ (y1 y2 : Option V),σ = [some (.ref t),some (.ref g0),some (.ref ha),some (.ref la),y1,y2]∧Same H2 H3) ⟨_,_,rfl,Same.refl _⟩ (fun i σ H3 hi h=>?_) (fun σ H3 h=>?_)⟩
  · obtain ⟨y1,y2,rfl,s3⟩:=h
    have il : i < G.length:=by omega
    have hr':=List.getElem?_eq_getElem il
    obtain ⟨t9,wt9,p1,p2,p3⟩:=hrow i _ hr'
    have erk:=ik hr'
    generalize G[i] = row at hr' p2 p3 erk
    have hLi:=List.getElem?_eq_getElem (show i < (bD G ws).length by omega)
    generalize (bD G ws)[i] = l at hLi
    obtain ⟨u,hu1,hu2⟩:=hus i l hLi
    obtain ⟨h,hh⟩ : ∃ h,hs[i]? = some h:=⟨hs[i],by simp⟩
    have hhi : (hs.map V.int)[i]? = some (.int h):=by rw [List.getElem?_map,hh]; rfl
    have s03:=s12.trans s3
    have ei : (0 + (i : Int)) = ((i : Nat) : Int):=by omega
    rw [ei]
    refine ⟨_,rfl,_,rfl,la,_,_,_,rfl,rfl,SqL.of (s3 _ _ hla),aj hu1,u,rfl,⟨_,SqL.of (s3 _ _ hu2)⟩,dJ (K:=K) (a:=u) (xs:=l.map V.int) (fun j σ H4=>∃ (y2 : Option V),σ = [some (.ref t),some (.ref g0),some (.ref ha),some (.ref la),some (.int (i : Int)),y2]∧H4 = H3) ⟨_,rfl,rfl⟩ (fun j σ H4 _ h=>?_) (fun j x σ H4 hj h=>?_) (fun σ H4 h=>?_)⟩
    · obtain ⟨_,_,rfl⟩:=h
      exact SqL.of (s3 _ _ hu2)
    · obtain ⟨y2,rfl,rfl⟩:=h
      obtain ⟨d,hd,rfl⟩:=eP hj
      obtain ⟨⟨d0,d1⟩,e⟩:=ok.shut i l hLi d (List.mem_of_getElem? hd)
      rw [hh] at e
      have hd2 : (hs.map V.int)[d.toNat]? = some (.int h):=by rw [List.getElem?_map,e]; rfl
      refine ⟨_,rfl,_,rfl,ha,_,_,_,rfl,rfl,SqL.of (s03 _ _ hha),gR d0 hd2,_,rfl,_,rfl,ha,_,_,_,rfl,rfl,SqL.of (s03 _ _ hha),aj hhi,rfl,_,rfl,?_⟩
      refine bf (fun c=>?_) (fun c=>?_)
      · exfalso; simp at c
      · exact ⟨_,rfl,rfl⟩
    · obtain ⟨y2,rfl,rfl⟩:=h
      refine ⟨_,rfl,_,rfl,g0,_,_,_,rfl,rfl,SqL.of (s03 _ _ hg0),aj p1,t9,_,_,_,rfl,rfl,SqT.of (s03 _ _ p2),aj (j:=1) rfl,_,_,rfl,rfl,(show (0 : Int) < 2 by decide),_,rfl,_,rfl,ha,_,_,_,rfl,rfl,SqL.of (s03 _ _ hha),aj hhi,rfl,_,rfl,?_⟩
      refine bf (fun c=>?_) (fun c=>?_)
      · have c : ¬ row.2.1 % 2 = h:=fun e=>by
          have c' : (!decide (V.int (row.2.1 % 2) = V.int h)) = true:=c
          rw [e] at c'; simp at c'
        refine ⟨_,rfl,_,rfl,_,rfl,.ref g0,.ref la,(i : Int),G,bD G ws,rfl,mono_game.up s03 hG,mono_ll.up s3 hL,Ll,fun l' hl' p hp=>?_,few,by omega,by omega,fun b H5 s5 hb=>⟨b,rfl,?_⟩⟩
        · obtain ⟨k,hk⟩:=List.getElem?_of_mem hl'
          exact (ok.shut k l' hk p hp).1
        cases b with
        | true =>
          obtain ⟨s9,n9,w9,r9⟩:=hb rfl
          have:=ok.ring i h s9 hh n9 w9 r9
          rw [erk] at this
          exact absurd this c
        | false=>exact bp ⟨_,_,rfl,s3.trans s5⟩
      · exact bp ⟨_,_,rfl,s3⟩
  · obtain ⟨_,_,rfl,s3⟩:=h
    exact q _ (s12.trans s3)
theorem mP {G : List Row} (h : LG G) : GameOk G∧∀ r ∈ G,r.1 = 0 ∨ r.1 = 1:=by
  obtain ⟨hne,h12,m,m3,_,hrows⟩:=h
  have hlp : 0 < G.length:=List.length_pos_iff.mpr hne
  have hb : ∀ row ∈ G,-(12 ^ 40 : Int) ≤ amt G.length row.2.1∧amt G.length row.2.1 ≤ 12 ^ 40:=fun row hrw=>by
    obtain ⟨h1,⟨r0,r1⟩,_⟩:=hrows row hrw
    have p0 : (0 : Int) ≤ (G.length : Int) ^ row.2.1.toNat:=Int.pow_nonneg (by omega)
    have p1 : (G.length : Int) ^ row.2.1.toNat ≤ 12 ^ 40:=by
      have a1 : G.length ^ row.2.1.toNat ≤ 12 ^ row.2.1.toNat:=Nat.pow_le_pow_left h12 _
      have a2 : 12 ^ row.2.1.toNat ≤ 12 ^ 40:=Nat.pow_le_pow_right (by decide) (by omega)
      exact_mod_cast Nat.le_trans a1 a2
    unfold amt
    split <;> omega
  refine ⟨⟨by omega,fun r hr=>?_,⟨by rw [cf]; omega,fun r hr=>?_⟩,⟨by rw [eG,cf]; omega,fun r hr=>?_⟩⟩,fun r hr=>(hrows r hr).1⟩
  · obtain ⟨_,⟨r0,r1⟩,_,_,_,w4⟩:=hrows r hr
    exact ⟨r0,by omega,by omega⟩
  · unfold dv at hr
    obtain ⟨row,hrw,rfl⟩:=List.mem_map.mp hr
    obtain ⟨h1,⟨r0,r1⟩,w1,w2,w3,w4⟩:=hrows row hrw
    have hbb:=hb row hrw
    have p2 : (12 : Int) ^ 40 < 10 ^ 60:=by decide
    refine ⟨h1,fun z=>w1 (by simpa using z),fun x hx=>?_,?_,by rw [List.length_map]; omega⟩
    · obtain ⟨y,hy,rfl⟩:=List.mem_map.mp hx
      have:=w3 y hy
      refine ⟨this.1,?_,by omega,by omega⟩
      show y < ((dv G).length : Nat)
      rw [cf]; exact this.2
    · show (row.2.2.map _).Pairwise _
      rw [List.pairwise_map]
      exact w2
  · unfold dM at hr
    rw [cf] at hr
    obtain ⟨r',hr',rfl⟩:=List.mem_map.mp hr
    unfold dv at hr'
    obtain ⟨row,hrw,rfl⟩:=List.mem_map.mp hr'
    obtain ⟨h1,⟨r0,r1⟩,w1,w2,w3,w4⟩:=hrows row hrw
    have hbb:=hb row hrw
    have p2 : 12 * (12 : Int) ^ 40 + 1 < 10 ^ 60:=by decide
    refine ⟨?_,fun z=>w1 (by simpa using z),fun x hx=>?_,?_,by rw [List.length_map,List.length_map]; omega⟩
    · show 1 - row.1 = 0 ∨ 1 - row.1 = 1
      omega
    · obtain ⟨y',hy',rfl⟩:=List.mem_map.mp hx
      obtain ⟨y,hy,rfl⟩:=List.mem_map.mp hy'
      have:=w3 y hy
      have hm : -(12 * 12 ^ 40 : Int) ≤ (G.length : Int) * amt G.length row.2.1∧(G.length : Int) * amt G.length row.2.1 ≤ 12 * 12 ^ 40:=by
        have l1 : (G.length : Int) * amt G.length row.2.1 ≤ (G.length : Int) * 12 ^ 40:=Int.mul_le_mul_of_nonneg_left hbb.2 (by omega)
        have l2 : (G.length : Int) * (-(12 ^ 40)) ≤ (G.length : Int) * amt G.length row.2.1:=Int.mul_le_mul_of_nonneg_left hbb.1 (by omega)
        have l3 : (G.length : Int) * 12 ^ 40 ≤ 12 * 12 ^ 40:=Int.mul_le_mul_of_nonneg_right (by omega) (by decide)
        rw [Int.mul_neg] at l2
        omega
      refine ⟨this.1,?_,?_,?_⟩
      · show y < ((dM (dv G)).length : Nat)
        rw [eG,cf]; exact this.2
      · show -(10 ^ 60) < -(G.length : Int) * amt G.length row.2.1 - 1
        rw [Int.neg_mul]; omega
      · show -(G.length : Int) * amt G.length row.2.1 - 1 < 10 ^ 60
        rw [Int.neg_mul]; omega
    · show ((row.2.2.map _).map _).Pairwise _
      rw [List.pairwise_map,List.pairwise_map]
      exact w2
theorem qJ {A : List eT} (h : ij A) : GPk A:=fun row hr=>by
  obtain ⟨_,h1,h2,h3,_⟩:=h.2 row hr
  refine ⟨h1,?_,fun w hw=>⟨(h2 w hw).1,(h2 w hw).2.1⟩⟩
  have : (row.2.map (·.1)).Pairwise (· < ·):=by rw [List.pairwise_map]; exact h3
  exact this.imp fun h=>by omega
def gN {α : Type} : List (List α)→List (List α)
  | []=>[[]]
  | A :: As=>(gN As).flatMap fun l=>A.map fun a=>a :: l
theorem iX {α : Type} : ∀ {As : List (List α)} {r : List α},r.length = As.length→(∀ (i : Nat) A a,As[i]? = some A→r[i]? = some a→a ∈ A)→r ∈ gN As
  | [],[],_,_=>List.mem_cons_self
  | A :: As,a :: r,hl,h=>List.mem_flatMap.mpr ⟨r,iX (by simpa using hl) fun i A a h1 h2=>h (i + 1) A a h1 h2,List.mem_map.mpr ⟨a,h 0 A a rfl rfl,rfl⟩⟩
  | [],_ :: _,hl,_=>by simp at hl
  | _ :: _,[],hl,_=>by simp at hl
theorem k7 {α β : Type} {f : α→List β} {k : Nat} : ∀ {l : List α},(∀ x,(f x).length ≤ k)→(l.flatMap f).length ≤ l.length * k
  | [],_=>by simp
  | x :: l,h=>by
    have:=k7 (l:=l) h
    have:=h x
    rw [List.flatMap_cons,List.length_append,List.length_cons,Nat.succ_mul]; omega
theorem i6 {α : Type} {k : Nat} : ∀ {As : List (List α)},(∀ A ∈ As,A.length ≤ k)→(gN As).length ≤ k ^ As.length
  | [],_=>by simp [gN]
  | A :: As,h=>by
    have h1:=i6 (As:=As) fun B hB=>h B (List.mem_cons_of_mem _ hB)
    have h2:=h A List.mem_cons_self
    have h3:=k7 (f:=fun l : List α=>A.map fun a=>a :: l) (k:=k) (l:=gN As) fun x=>by rw [List.length_map]; exact h2
    exact Nat.le_trans h3 (by rw [List.length_cons,Nat.pow_succ]; exact Nat.mul_le_mul_right _ h1)
def oM (row : aF) : List (Option Int):=if row.1 = 1 then row.2.map fun w=>some w.1 else [none]
theorem rT {A : List aF} {r : List (Option Int)} (h : RlP A r) : r ∈ gN (A.map oM):=by
  refine iX (by rw [List.length_map]; exact h.1) fun i B a h1 h2=>?_
  rw [List.getElem?_map] at h1
  obtain ⟨row,hr,rfl⟩:=Option.map_eq_some_iff.mp h1
  unfold oM
  split
  · rename_i e
    obtain ⟨w,hw,h3⟩:=(h.2 i row hr).2 e
    rw [h2] at h3
    cases h3
    exact List.mem_map.mpr ⟨w,hw,rfl⟩
  · rename_i e
    have h3:=(h.2 i row hr).1 e
    rw [h2] at h3
    cases h3
    exact List.mem_singleton.mpr rfl
def uW (A : List aF) : List (Option Int):=none :: A.flatMap fun row=>row.2.map fun w=>some w.1
theorem oA {A : List aF} {r : List (Option Int)} (h : RlP A r) : ∀ a ∈ r,a ∈ uW A:=fun a ha=>by
  obtain ⟨i,hi⟩:=List.getElem?_of_mem ha
  have il : i < A.length:=by rw [← h.1]; exact (List.getElem?_eq_some_iff.mp hi).1
  rcases fh h (List.getElem?_eq_getElem il) with ⟨e,_⟩ | ⟨w,hw,e,_⟩
  · rw [hi] at e; cases e; exact List.mem_cons_self
  · rw [hi] at e
    injection e with e
    subst e
    exact List.mem_cons_of_mem _ (List.mem_flatMap.mpr ⟨_,List.getElem_mem il,List.mem_map.mpr ⟨w,hw,rfl⟩⟩)
theorem rn {A : List aF} (g : GPk A) : ∀ {L : List (List (Option Int))} {r : List (Option Int)} {T : Tb},Chn A L r T→BtC (aR A) A.length (uW A) L T∧∀ r' ∈ L,RlP A r':=fun h=>by
  induction h with
  | start rl N=>exact ⟨BtC.start rl.1 (oA rl) (fk g rl) N,fun r' hr=>by rw [List.mem_singleton.mp hr]; exact rl⟩
  | next c b ne N' ih =>
    obtain ⟨hb,hm⟩:=b.more g c.rl c.nds N' ne
    exact ⟨ih.1.next b.rule.1 (oA b.rule) (fk g b.rule) N' hb hm,fun r' hr=>by
      rcases List.mem_cons.mp hr with e | e
      · rw [e]; exact b.rule
      · exact ih.2 r' e⟩
theorem lB {A : List aF} (g : GPk A) {k M : Nat} (hk : ∀ row ∈ A,row.2.length ≤ k) (k1 : 1 ≤ k) (hM : k ^ A.length ≤ M) (h24 : M < 16777216) : ChB A:=by
  refine ⟨M,h24,fun L r T h=>?_⟩
  obtain ⟨b,rl⟩:=rn g h
  have h1:=gX L (gN (A.map oM)) b.1 fun r hr=>rT (rl r hr)
  have h2:=i6 (As:=A.map oM) (k:=k) fun B hB=>by
    obtain ⟨row,hr,rfl⟩:=List.mem_map.mp hB
    unfold oM
    split
    · rw [List.length_map]; exact hk row hr
    · exact k1
  rw [List.length_map] at h2
  omega
theorem fG {G : List Row} (h : LG G) (hh : Int) : GPk (aS G hh)∧ChB (aS G hh):=by
  have ok:=(mP h).1
  have g : GPk (aS G hh):=by
    unfold aS
    split
    · exact qJ ok.am
    · exact qJ ok.tu
  refine ⟨g,?_⟩
  obtain ⟨hne,h12,m,m3,m8,hrows⟩:=h
  have ways : ∀ row ∈ aS G hh,(row.2.length : Int) ≤ m + 1:=fun row hr=>by
    unfold aS at hr
    split at hr
    · unfold dv at hr
      obtain ⟨r0,h0,rfl⟩:=List.mem_map.mp hr
      rw [List.length_map]
      exact (hrows r0 h0).2.2.2.2.2
    · unfold dM dv at hr
      obtain ⟨r1,h1,rfl⟩:=List.mem_map.mp hr
      obtain ⟨r0,h0,rfl⟩:=List.mem_map.mp h1
      rw [List.length_map,List.length_map]
      exact (hrows r0 h0).2.2.2.2.2
  by_cases c : 8 < G.length
  · have m2:=m8 c
    refine lB g (k:=3) (M:=3 ^ 12) (fun row hr=>by have:=ways row hr; omega) (by decide) ?_ (by decide)
    rw [bX]; exact Nat.pow_le_pow_right (by decide) h12
  · refine lB g (k:=4) (M:=4 ^ 8) (fun row hr=>by have:=ways row hr; omega) (by decide) ?_ (by decide)
    rw [bX]; exact Nat.pow_le_pow_right (by decide) (by omega)
theorem WonP.two {G : List Row} {hs : List Int} {ws : List (Option Int)} (lg : LG G) (h : WonP G hs ws) : HoldOk G hs ws:=by
  obtain ⟨ok,hd⟩:=mP lg
  obtain ⟨T0,w0,T1,w1,s0,s1,hl,wl,h⟩:=h
  have t : Two G ws T0 w0 T1 w1:=⟨(fG lg 0).1,(fG lg 1).1,s0,s1,hd,fun i row hr=>(h i row hr).2⟩
  have hsi : ∀ {i : Nat},i < G.length→hs[i]? = some (aO T0 i):=fun {i} il=>(h i _ (List.getElem?_eq_getElem il)).1
  have inn : ∀ {i : Nat} {l : List Int},(bD G ws)[i]? = some l→∃ row,G[i]? = some row∧i < G.length:=fun {i l} hl'=>by
    have:=(List.getElem?_eq_some_iff.mp hl').1
    rw [jj wl] at this
    exact ⟨_,List.getElem?_eq_getElem this,this⟩
  refine ⟨⟨hl,wl,by have:=lg.2.1; omega,fun i row hr=>?_⟩,fun i l hl' p hp=>?_,fun q h9 s hq hs' hw hm=>?_⟩
  · refine ⟨_,(h i row hr).1,by rcases d9 T0 i with e | e <;> omega,by rcases d9 T0 i with e | e <;> omega,fun e=>t.other hr e,fun e=>t.own hr e⟩
  · obtain ⟨row,hr,il⟩:=inn hl'
    obtain ⟨b,e⟩:=t.shut hr hl' hp
    exact ⟨b,by rw [hsi il,hsi (show p.toNat < G.length by omega),e]⟩
  · have ql : q < G.length:=by rw [← hl]; exact (List.getElem?_eq_some_iff.mp hq).1
    rw [hsi ql] at hq
    cases hq
    exact t.ring (fun r hr=>(ok.rks r hr).1) ql hs' hw hm
theorem WonP.one {G : List Row} {hs hs' : List Int} {ws ws' : List (Option Int)} (lg : LG G) (h : WonP G hs ws) (h' : WonP G hs' ws') : hs' = hs:=by
  obtain ⟨ok,hd⟩:=mP lg
  obtain ⟨T0,w0,T1,w1,s0,s1,hl,wl,h⟩:=h
  obtain ⟨T0',w0',T1',w1',s0',s1',hl',wl',h'⟩:=h'
  have g0:=(fG lg 0).1
  have g1:=(fG lg 1).1
  have t : Two G ws T0 w0 T1 w1:=⟨g0,g1,s0,s1,hd,fun i row hr=>(h i row hr).2⟩
  have t' : Two G ws' T0' w0' T1' w1':=⟨g0,g1,s0',s1',hd,fun i row hr=>(h' i row hr).2⟩
  apply List.ext_getElem?
  intro i
  by_cases c : i < G.length
  · have hr:=List.getElem?_eq_getElem c
    rw [(h i _ hr).1,(h' i _ hr).1]
    congr 1
    rcases d9 T0 i with e | e <;> rcases d9 T0' i with e' | e'
    · omega
    · exact (qX g0 g1 s0 s1' hd (x:=(i : Int)) (by omega) (by omega) (win_0.mp e) (t'.or hr (win_1.mp e'))).elim
    · exact (qX g0 g1 s0' s1 hd (x:=(i : Int)) (by omega) (by omega) (win_0.mp e') (t.or hr (win_1.mp e))).elim
    · omega
  · rw [List.getElem?_eq_none (by omega),List.getElem?_eq_none (by omega)]
theorem no_game : GameOk []∧∀ h : Int,GPk (aS [] h)∧ChB (aS [] h):=by
  have e : ∀ h : Int,aS [] h = []:=fun h=>by unfold aS; split <;> rfl
  refine ⟨⟨by decide,fun _ h=>(by cases h),⟨by decide,fun _ h=>(by cases h)⟩,⟨by decide,fun _ h=>(by cases h)⟩⟩,fun h=>?_⟩
  have g : GPk []:=fun _ h=>by cases h
  rw [e]
  exact ⟨g,lB g (k:=1) (M:=1) (fun _ h=>by cases h) (by decide) (by decide) (by decide)⟩
theorem tX {H : Hp} (h : my ["least_needy","most_needy"] K H) (ne : aJ K "least_needy" ≠ aJ K "most_needy") : Tbs K H:=⟨⟨#[],h _ (by simp),trivial,.inl rfl⟩,⟨#[],h _ (by simp),trivial,.inl rfl⟩,ne⟩
def spLaw (K : PySem.W.Frag) : Sp:=fun vs H Q _=>∃ (a : Addr) (ns : List Int),vs = [.ref a]∧SqL K H a (ns.map V.int)∧my ["least_needy","most_needy"] K H∧ns.length ≤ 63∧∀ H',Q (.bl true) H'
theorem ud {f : Addr} {fd : FuncData} (F : Fun K "law" "law" fZ f fd) (T : Txt mg) (XC : XT K mg "GarthError" xRs xNs) (ne : aJ K "least_needy" ≠ aJ K "most_needy") (D_law_game : Dn P w K mg base "_law_game" 3 ["_law_script","_law_top"] (qg K)) (D_law_copied : Dn P w K mg base "_law_copied" 1 ["_law_game_here"] qR) (D_solved_by_purses : DnX P w K mg base "solved_by_purses" 9 ["game"] (sV K)) (D_law_holds : Dn P w K mg base "_law_holds" 3 ["_law_found","_law_game_here"] mQ) : FnOk P w K mg base CX0 10 f fd ["_law_script"] (spLaw K):=by
  have sc:=tT
  refine F.ok sc (fun vs H Q E h=>?_) (fun cdv A outer s H vs Q E hr h=>?_)
  · obtain ⟨_,_,rfl,_⟩:=h; rfl
  obtain ⟨a,ns,rfl,hS,hT,hl,q⟩:=h
  have tb:=tX hT ne
  refine ⟨_,(af (aq (i:=1) sc.nd rfl (Or.inl rfl) (aE D_law_game hr (aa (pv 0) (aa ad ac))))
      (af (aq (i:=2) sc.nd rfl (Or.inl rfl) (aE D_law_copied hr (aa (pv 1) ac)))
      (af (aq (i:=3) sc.nd rfl (Or.inl rfl) (cr l8 D_solved_by_purses hr (aa (pv 2) ac)))
      (af (aL (PW.pt (eH (cz (bJ (aE D_law_holds hr (aa (pv 3) (aa (pv 1) ac))))) (cZ (ay (ux (iA (rV (EqOk.up dC (by decide : 0 ≤ 1)) (EqOk.up dC (by decide : 0 ≤ 1)) (ib dC))) (jL hr 3)) (pv 2) (pv 1) (aD _)))))
      (ah (aA cK))
      az)
      (af (aq (i:=4) sc.nd rfl (Or.inl rfl) (dD (lK (K:=K) rfl) rfl T.b_list PyProof.Rows.boot_list (aa (al (ixT (K:=K) rfl) (pv 3) ad (fun _ _=>rfl)) ac)))
      (af (aM (pb PySem.F.plainAttrs_list PySem.F.slot_list_clear PySem.F.type_list_clear o8 (al (ixT (K:=K) rfl) (pv 3) ad (fun _ _=>rfl))))
      (af (aM (di PySem.F.plainAttrs_list PySem.F.slot_list_append PySem.F.type_list_append aU (al (ixT (K:=K) rfl) (pv 3) ad (fun _ _=>rfl)) (aa ad ac)))
      (af (aq (i:=5) sc.nd rfl (Or.inl rfl) (cr l8 D_solved_by_purses hr (aa (pv 2) ac)))
      (ah (aA (gI (aE D_law_holds hr (aa (pv 5) (aa (pv 1) ac))) (gI (gH (qi (iA dC) (jL hr 1)) (al (ixT (K:=K) rfl) (pv 5) ad (fun _ _=>rfl)) (pv 4) (aD _)) (jD (gH (qi (sM (ib dC) (ib (pu dC))) (jL hr 2)) (cr l8 D_solved_by_purses hr (aa (bC ac) ac)) (br (aa (bC ac) (aa (bC ac) ac))) (aD _))))))))))))))),?_⟩
  refine ⟨_,rfl,a,ns,rfl,hS,fun v H1 G s1 hG lg=>?_⟩
  obtain ⟨ok,hd⟩:=mP lg
  refine ⟨_,rfl,v,G,rfl,hG,by have:=ok.few; omega,fun v' H2 s2 hG'=>?_⟩
  have hG2 : cL (nt H2) G v':=mD (mono_game.up (dE _ _) hG')
  have hGg : cL (nt H2) G v:=mD (mono_game.up s2 hG)
  have tb2:=tb.up (s1.trans s2)
  refine ⟨_,rfl,v',G,rfl,hG2,ok,fG lg,tb2,fun t ha wa hs ws H3 S3 tb3 han wan hw_ ht3 hh3 hw3 won=>?_⟩
  have hold:=won.two lg
  refine ⟨_,rfl,_,rfl,t,ha,wa,v,G,hs,ws,rfl,ak _ _ ht3,ak _ _ hh3,ak _ _ hw3,mono_game.up ak (mono_game.up S3 hGg),hold,fun H4 s4=>⟨_,rfl,bp ?_⟩⟩
  have S4:=S3.trans (Sm.of s4)
  have tb4:=tb3.up s4
  have ht4:=(Sm.of s4) _ _ ht3
  have hh4:=(Sm.of s4) _ _ hh3
  have hw4:=(Sm.of s4) _ _ hw3
  clear ht3 hh3 hw3 tb3 S3 s4
  refine ⟨_,rfl,_,rfl,G,mono_game.up ak (mono_game.up S4 hG2),mono_game.up ak (mono_game.up S4 hGg),_,rfl,bp ?_⟩
  refine ⟨_,rfl,t,_,_,_,rfl,rfl,SqT.of (ak _ _ ht4),aj (j:=0) rfl,ha,_,rfl,.inl (SqL.of (ak _ _ hh4)),fun wl hwl=>?_⟩
  have s5:=ag hwl (.lst (hs.map V.int))
  have hwl5 : nt (upd H4 wl (.lst (hs.map V.int))) wl = some (.lst (hs.map V.int)):=bo ae
  have hwln : nt H4 wl = none:=dZ hwl
  have S5:=S4.trans (Sm.of s5)
  have tb5:=tb4.up s5
  have ht5:=(Sm.of s5) _ _ ht4
  have hh5:=(Sm.of s5) _ _ hh4
  have hw5:=(Sm.of s5) _ _ hw4
  have n1 : wl ≠ ha:=fun z=>by rw [z,hh4] at hwln; cases hwln
  have n2 : wl ≠ wa:=fun z=>by rw [z,hw4] at hwln; cases hwln
  have n3 : t ≠ ha:=fun z=>by rw [z,hh4] at ht4; cases ht4
  generalize upd H4 wl (.lst (hs.map V.int)) = H5 at hwl5 S5 tb5 ht5 hh5 hw5 ⊢
  clear s5 hwl hwln ht4 hh4 hw4 S4 tb4
  refine ⟨_,rfl,t,_,_,_,rfl,rfl,SqT.of (ak _ _ ht5),aj (j:=0) rfl,.inl ⟨rfl,_,SqL.of (ak _ _ hh5)⟩,ha,_,rfl,rfl,ak _ _ hh5,?_⟩
  have S6 : Sm H2 (upd H5 ha (.lst [])):=S5.put han _
  have tb6 : Tbs K (upd H5 ha (.lst [])):=tb5.put (ak _ _ hh5)
  have ht6 : nt (upd H5 ha (.lst [])) t = some (.tup [.ref ha,.ref wa]):=by rw [cv n3]; exact ht5
  have hw6 : nt (upd H5 ha (.lst [])) wa = some (.lst (tV ws)):=by rw [cv (Ne.symm hw_)]; exact hw5
  have hwl6 : nt (upd H5 ha (.lst [])) wl = some (.lst (hs.map V.int)):=by rw [cv n1]; exact hwl5
  generalize upd H5 ha (.lst []) = H6 at S6 tb6 ht6 hw6 hwl6 ⊢
  refine ⟨_,rfl,t,_,_,_,rfl,rfl,SqT.of (ak _ _ ht6),aj (j:=1) rfl,.inl ⟨rfl,_,SqL.of (ak _ _ hw6)⟩,wa,_,_,rfl,rfl,ak _ _ hw6,d8 (m:=1000) (by rw [aX,hold.told.wl]; have:=ok.few; omega),?_⟩
  have S7 : Sm H2 (upd H6 wa (.lst (tV ws ++ [V.int 0]))):=S6.put wan _
  have tb7 : Tbs K (upd H6 wa (.lst (tV ws ++ [V.int 0]))):=tb6.put (ak _ _ hw6)
  have hwl7 : nt (upd H6 wa (.lst (tV ws ++ [V.int 0]))) wl = some (.lst (hs.map V.int)):=by rw [cv n2]; exact hwl6
  generalize upd H6 wa (.lst (tV ws ++ [V.int 0])) = H7 at S7 tb7 hwl7 ⊢
  clear S6 tb6 ht6 hw6 hwl6 S5 tb5 ht5 hh5 hw5 hwl5
  refine ⟨_,rfl,v',G,rfl,mono_game.up S7 hG2,ok,fG lg,tb7,fun t' ha' wa' hs' ws' H8 S8 tb8 _ _ _ ht8 hh8 hw8 won'=>?_⟩
  have hold':=won'.two lg
  obtain rfl:=won.one lg won'
  refine ⟨_,rfl,_,rfl,t',ha',wa',v,G,hs',ws',rfl,ak _ _ ht8,ak _ _ hh8,ak _ _ hw8,mono_game.up ak (mono_game.up (S7.trans S8) hGg),hold',fun H9 s9=>⟨_,rfl,dy ?_⟩⟩
  have tb9:=tb8.up s9
  refine ⟨_,rfl,t',_,_,_,rfl,rfl,SqT.of (s9 _ _ (ak _ _ ht8)),aj (j:=0) rfl,_,rfl,hs',rLst_ints.mpr ⟨ha',rfl,s9 _ _ (ak _ _ hh8)⟩,rLst_ints.mpr ⟨wl,rfl,s9 _ _ (ak _ _ (S8 _ _ hwl7))⟩,_,rfl,dy ?_⟩
  refine ⟨Nat.zero_le _,fun el hel=>?_⟩
  refine ⟨.ref el,[],rfl,⟨el,[],rfl,bo ae,.nil⟩,no_game.1,no_game.2,tb9.up (ag hel _),fun t9 ha9 wa9 hs9 ws9 H10 S10 tb10 _ _ _ ht10 hh10 hw10 won9=>?_⟩
  obtain ⟨_,_,_,_,_,_,e1,e2,_⟩:=won9
  obtain rfl:=List.eq_nil_of_length_eq_zero e1
  obtain rfl:=List.eq_nil_of_length_eq_zero e2
  refine ⟨Nat.zero_le _,fun l1 hl1=>⟨Nat.zero_le _,fun l2 hl2=>⟨(by show 2 ≤ sizeLine; decide),fun tt htt=>?_⟩⟩⟩
  have sA:=(ag hl1 (.lst [])).trans ((ag hl2 (.lst [])).trans (ag htt (.tup [V.ref l1,V.ref l2])))
  refine ⟨([],[]),⟨t9,_,_,rfl,sA _ _ (ak _ _ ht10),⟨ha9,[],rfl,sA _ _ (ak _ _ hh10),.nil⟩,⟨wa9,[],rfl,sA _ _ (ak _ _ hw10),.nil⟩⟩,⟨tt,_,_,rfl,ae,⟨l1,[],rfl,((ag hl2 (.lst [])).trans (ag htt _)) _ _ ae,.nil⟩,⟨l2,[],rfl,ag htt _ _ _ ae,.nil⟩⟩,q _⟩
theorem main {f : Addr} {fd : FuncData} (T : Txt mg)
    (XC : XT K mg "GarthError" xRs xNs)
    (LM_least_needy : gf K mg "least_needy")
    (LM_most_needy : gf K mg "most_needy")
    (NE_least_needy_most_needy : aJ K "least_needy" ≠ aJ K "most_needy")
    (A_is_whole : DefAt K mg "is_whole" cX ["value"])
    (A_is_place : DefAt K mg "is_place" cU ["value","count"])
    (A_check_hand : DefAt K mg "check_hand" ck ["hand"])
    (A_check_ways : DefAt K mg "check_ways" cg ["ways","count"])
    (A_check_purse_ways : DefAt K mg "check_purse_ways" aQ ["ways","count"])
    (A_check_amounts : DefAt K mg "check_amounts" bA ["ways"])
    (A_check_purse_rows : DefAt K mg "check_purse_rows" aY ["rows"])
    (A_purse_game : DefAt K mg "purse_game" bS ["rows"])
    (A_need_by : DefAt K mg "need_by" dF ["purses","place","amount"])
    (A_need_order : DefAt K mg "need_order" ca ["need"])
    (A_is_more : DefAt K mg "is_more" dN ["need","other"])
    (A_least_needy : DefAt K mg "least_needy" bB ["ways","purses"])
    (A_most_needy : DefAt K mg "most_needy" bO ["ways","purses"])
    (A_turned_purses : DefAt K mg "turned_purses" bc ["game"])
    (A_check_rule : DefAt K mg "check_rule" cn ["game","hand","rule"])
    (A_check_spender : DefAt K mg "check_spender" a9 ["game","rule"])
    (A_ways_left : DefAt K mg "ways_left" cD ["game","rule"])
    (A_add_gains : DefAt K mg "add_gains" cE ["gains","ways","place"])
    (A_comes_back : DefAt K mg "comes_back" bN ["left","start"])
    (A_needs_left : DefAt K mg "needs_left" bT ["left"])
    (A_needs : DefAt K mg "needs" ff ["game","rule"])
    (A_bettered : DefAt K mg "bettered" cW ["game","rule","table"])
    (A_betterings : DefAt K mg "betterings" bQ ["game"])
    (A_solved_purses : DefAt K mg "solved_purses" bx ["game"])
    (A_amount_of : DefAt K mg "amount_of" cC ["count","rank"])
    (A_amounts_of : DefAt K mg "amounts_of" bP ["game"])
    (A_hand_amounts : DefAt K mg "hand_amounts" bH ["game","hand"])
    (A_solved_by_purses : DefAt K mg "solved_by_purses" aI ["game"])
    (A_law_at : DefAt K mg "_law_at" eE ["_law_script","_law_k"])
    (A_law_whole : DefAt K mg "_law_whole" cH ["_law_found"])
    (A_law_ways : DefAt K mg "_law_ways" cT ["_law_script","_law_k","_law_many","_law_block","_law_most"])
    (A_law_rank : DefAt K mg "_law_rank" da ["_law_script","_law_k","_law_many"])
    (A_law_game : DefAt K mg "_law_game" dc ["_law_script","_law_top"])
    (A_law_copied : DefAt K mg "_law_copied" bU ["_law_game_here"])
    (A_law_is_told : DefAt K mg "_law_is_told" bV ["_law_found","_law_game_here"])
    (A_law_left : DefAt K mg "_law_left" cY ["_law_game_here","_law_places"])
    (A_law_comes_back : DefAt K mg "_law_comes_back" bn ["_law_game_here","_law_left_here","_law_start"])
    (A_law_holds : DefAt K mg "_law_holds" cG ["_law_found","_law_game_here"])
    (F : Fun K "law" "law" fZ f fd) : FnOk P w K mg base CX0 10 f fd ["_law_script"] (spLaw K):=by
  have iw:=j7 (P:=P) (w:=w) (base:=base) A_is_whole T
  have ip:=k6 A_is_place T iw
  have cp:=ue A_check_purse_rows T XC (iG A_check_hand T XC iw) (tF A_check_purse_ways T XC (iR A_check_ways T XC ip)) (uR A_check_amounts T XC iw)
  have pg:=qy A_purse_game T XC cp
  have am:=iB A_amounts_of T XC pg (j2 A_amount_of T)
  have la:=uF (P:=P) (w:=w) (base:=base) A_law_at T
  have nb:=nv (P:=P) (w:=w) (base:=base) A_need_by T
  have od:=oZ (P:=P) (w:=w) (base:=base) A_need_order T
  have mo:=rK A_is_more T od
  have ln:=uE A_least_needy T LM_least_needy nb od
  have mn:=vc A_most_needy T LM_most_needy nb od
  have nl:=vn A_needs_left T (sL A_comes_back T (t6 A_add_gains T)) ln nb mo
  have nd:=oR A_needs T (ma A_check_spender T (sk A_check_rule T iw)) (r6 A_ways_left T) nl
  have bs:=sE A_betterings T nd (kg A_bettered T mn nb mo)
  have sp:=rM A_solved_purses T bs ln
  have sb:=um A_solved_by_purses T XC sp (rJ A_hand_amounts T XC am (nJ A_turned_purses T XC pg))
  exact ud F T XC NE_least_needy_most_needy (rE A_law_game T la (pY A_law_ways T la) (uD A_law_rank T la)) (sx A_law_copied T) sb (o0 A_law_holds T (rY A_law_is_told T (pK A_law_whole T)) (pc A_law_left T) (uV A_law_comes_back T))
end
def askedOf:=({ ks:=[(.df "is_whole",cX,none),(.df "is_place",cU,none),(.df "check_hand",ck,none),(.df "check_ways",cg,none),(.df "check_purse_ways",aQ,none),(.df "check_amounts",bA,none),(.df "check_purse_rows",aY,none),(.df "purse_game",bS,none),(.df "need_by",dF,none),(.df "need_order",ca,none),(.df "is_more",dN,none),(.df "least_needy",bB,none),(.df "most_needy",bO,none),(.df "turned_purses",bc,none),(.df "check_rule",cn,none),(.df "check_spender",a9,none),(.df "ways_left",cD,none),(.df "add_gains",cE,none),(.df "comes_back",bN,none),(.df "needs_left",bT,none),(.df "needs",ff,none),(.df "bettered",cW,none),(.df "betterings",bQ,none),(.df "solved_purses",bx,none),(.df "amount_of",cC,none),(.df "amounts_of",bP,none),(.df "hand_amounts",bH,none),(.df "solved_by_purses",aI,none),(.df "_law_at",eE,none),(.df "_law_whole",cH,none),(.df "_law_ways",cT,none),(.df "_law_rank",da,none),(.df "_law_game",dc,none),(.df "_law_copied",bU,none),(.df "_law_is_told",bV,none),(.df "_law_left",cY,none),(.df "_law_comes_back",bn,none),(.df "_law_holds",cG,none),(.df "law",fZ,none)],cs:=[],is:=[("MOST_PURSE_PLACES",16)],ss:=[],bs:=["abs","bool","dict","enumerate","int","isinstance","len","list","max","min","range","set","sorted","tuple","zip"],xc:=fun K=>jE K "GarthError" xRs xNs,ext:=fun K=>((aJ K "least_needy" == aJ K "most_needy"),()),extW:=fun w=>(false,()) } : Asked _)
theorem all_mk {P : Program} {w : World} {K : PySem.W.Frag} {h : Heap} {mg : Str→Option Value} {fa : Addr} (e : askedOf.Ok w K) (X : K.In h) (TI : TabsIn ["least_needy","most_needy"] K h) (G : h.Ns mainGlobals mg) (hfa : mg "law" = some (.ref fa)) :
    ∃ fd : FuncData,(∀ (s : Shared) (v : Value),BindsTo s fd ⟨[v],[]⟩ [("_law_script",v)])∧∀ base : Heap,K.In base→base.Ns mainGlobals mg→FnOk P w K mg base CX0 10 fa fd ["_law_script"] (spLaw K):=by
  have T : Txt mg:=⟨e.noneAt X G 0 rfl,e.noneAt X G 1 rfl,e.noneAt X G 2 rfl,e.noneAt X G 3 rfl,e.noneAt X G 4 rfl,e.noneAt X G 5 rfl,e.noneAt X G 6 rfl,e.noneAt X G 7 rfl,e.noneAt X G 8 rfl,e.noneAt X G 9 rfl,e.noneAt X G 10 rfl,e.noneAt X G 11 rfl,e.noneAt X G 12 rfl,e.noneAt X G 13 rfl,e.noneAt X G 14 rfl,e.int X G 0 rfl⟩
  have XC:=vm X G e.exc
  have LM_least_needy : gf K mg "least_needy":=kS X G TI (by simp)
  have LM_most_needy : gf K mg "most_needy":=kS X G TI (by simp)
  have NE_least_needy_most_needy : aJ K "least_needy" ≠ aJ K "most_needy":=fun z=>by
    have zz : (aJ K "least_needy" == aJ K "most_needy") = false:=congrArg (fun p=>p.1) e.more
    rw [z,beq_self_eq_true] at zz
    cases zz
  have A0 : DefAt K mg "is_whole" cX ["value"]:=e.defAt X G 0 rfl (fun _ _ _ _ _ _=>L2.arg1 fun _=>rfl)
  have A1 : DefAt K mg "is_place" cU ["value","count"]:=e.defAt X G 1 rfl (fun _ _ _ _ _ _=>L2.arg2 fun _ _=>rfl)
  have A2 : DefAt K mg "check_hand" ck ["hand"]:=e.defAt X G 2 rfl (fun _ _ _ _ _ _=>L2.arg1 fun _=>rfl)
  have A3 : DefAt K mg "check_ways" cg ["ways","count"]:=e.defAt X G 3 rfl (fun _ _ _ _ _ _=>L2.arg2 fun _ _=>rfl)
  have A4 : DefAt K mg "check_purse_ways" aQ ["ways","count"]:=e.defAt X G 4 rfl (fun _ _ _ _ _ _=>L2.arg2 fun _ _=>rfl)
  have A5 : DefAt K mg "check_amounts" bA ["ways"]:=e.defAt X G 5 rfl (fun _ _ _ _ _ _=>L2.arg1 fun _=>rfl)
  have A6 : DefAt K mg "check_purse_rows" aY ["rows"]:=e.defAt X G 6 rfl (fun _ _ _ _ _ _=>L2.arg1 fun _=>rfl)
  have A7 : DefAt K mg "purse_game" bS ["rows"]:=e.defAt X G 7 rfl (fun _ _ _ _ _ _=>L2.arg1 fun _=>rfl)
  have A8 : DefAt K mg "need_by" dF ["purses","place","amount"]:=e.defAt X G 8 rfl (fun _ _ _ _ _ _=>L2.arg3 fun _ _ _=>rfl)
  have A9 : DefAt K mg "need_order" ca ["need"]:=e.defAt X G 9 rfl (fun _ _ _ _ _ _=>L2.arg1 fun _=>rfl)
  have A10 : DefAt K mg "is_more" dN ["need","other"]:=e.defAt X G 10 rfl (fun _ _ _ _ _ _=>L2.arg2 fun _ _=>rfl)
  have A11 : DefAt K mg "least_needy" bB ["ways","purses"]:=e.defAt X G 11 rfl (fun _ _ _ _ _ _=>L2.arg2 fun _ _=>rfl)
  have A12 : DefAt K mg "most_needy" bO ["ways","purses"]:=e.defAt X G 12 rfl (fun _ _ _ _ _ _=>L2.arg2 fun _ _=>rfl)
  have A13 : DefAt K mg "turned_purses" bc ["game"]:=e.defAt X G 13 rfl (fun _ _ _ _ _ _=>L2.arg1 fun _=>rfl)
  have A14 : DefAt K mg "check_rule" cn ["game","hand","rule"]:=e.defAt X G 14 rfl (fun _ _ _ _ _ _=>L2.arg3 fun _ _ _=>rfl)
  have A15 : DefAt K mg "check_spender" a9 ["game","rule"]:=e.defAt X G 15 rfl (fun _ _ _ _ _ _=>L2.arg2 fun _ _=>rfl)
  have A16 : DefAt K mg "ways_left" cD ["game","rule"]:=e.defAt X G 16 rfl (fun _ _ _ _ _ _=>L2.arg2 fun _ _=>rfl)
  have A17 : DefAt K mg "add_gains" cE ["gains","ways","place"]:=e.defAt X G 17 rfl (fun _ _ _ _ _ _=>L2.arg3 fun _ _ _=>rfl)
  have A18 : DefAt K mg "comes_back" bN ["left","start"]:=e.defAt X G 18 rfl (fun _ _ _ _ _ _=>L2.arg2 fun _ _=>rfl)
  have A19 : DefAt K mg "needs_left" bT ["left"]:=e.defAt X G 19 rfl (fun _ _ _ _ _ _=>L2.arg1 fun _=>rfl)
  have A20 : DefAt K mg "needs" ff ["game","rule"]:=e.defAt X G 20 rfl (fun _ _ _ _ _ _=>L2.arg2 fun _ _=>rfl)
  have A21 : DefAt K mg "bettered" cW ["game","rule","table"]:=e.defAt X G 21 rfl (fun _ _ _ _ _ _=>L2.arg3 fun _ _ _=>rfl)
  have A22 : DefAt K mg "betterings" bQ ["game"]:=e.defAt X G 22 rfl (fun _ _ _ _ _ _=>L2.arg1 fun _=>rfl)
  have A23 : DefAt K mg "solved_purses" bx ["game"]:=e.defAt X G 23 rfl (fun _ _ _ _ _ _=>L2.arg1 fun _=>rfl)
  have A24 : DefAt K mg "amount_of" cC ["count","rank"]:=e.defAt X G 24 rfl (fun _ _ _ _ _ _=>L2.arg2 fun _ _=>rfl)
  have A25 : DefAt K mg "amounts_of" bP ["game"]:=e.defAt X G 25 rfl (fun _ _ _ _ _ _=>L2.arg1 fun _=>rfl)
  have A26 : DefAt K mg "hand_amounts" bH ["game","hand"]:=e.defAt X G 26 rfl (fun _ _ _ _ _ _=>L2.arg2 fun _ _=>rfl)
  have A27 : DefAt K mg "solved_by_purses" aI ["game"]:=e.defAt X G 27 rfl (fun _ _ _ _ _ _=>L2.arg1 fun _=>rfl)
  have A28 : DefAt K mg "_law_at" eE ["_law_script","_law_k"]:=e.defAt X G 28 rfl (fun _ _ _ _ _ _=>L2.arg2 fun _ _=>rfl)
  have A29 : DefAt K mg "_law_whole" cH ["_law_found"]:=e.defAt X G 29 rfl (fun _ _ _ _ _ _=>L2.arg1 fun _=>rfl)
  have A30 : DefAt K mg "_law_ways" cT ["_law_script","_law_k","_law_many","_law_block","_law_most"]:=e.defAt X G 30 rfl (fun _ _ _ _ _ _=>L2.arg5 fun _ _ _ _ _=>rfl)
  have A31 : DefAt K mg "_law_rank" da ["_law_script","_law_k","_law_many"]:=e.defAt X G 31 rfl (fun _ _ _ _ _ _=>L2.arg3 fun _ _ _=>rfl)
  have A32 : DefAt K mg "_law_game" dc ["_law_script","_law_top"]:=e.defAt X G 32 rfl (fun _ _ _ _ _ _=>L2.arg2 fun _ _=>rfl)
  have A33 : DefAt K mg "_law_copied" bU ["_law_game_here"]:=e.defAt X G 33 rfl (fun _ _ _ _ _ _=>L2.arg1 fun _=>rfl)
  have A34 : DefAt K mg "_law_is_told" bV ["_law_found","_law_game_here"]:=e.defAt X G 34 rfl (fun _ _ _ _ _ _=>L2.arg2 fun _ _=>rfl)
  have A35 : DefAt K mg "_law_left" cY ["_law_game_here","_law_places"]:=e.defAt X G 35 rfl (fun _ _ _ _ _ _=>L2.arg2 fun _ _=>rfl)
  have A36 : DefAt K mg "_law_comes_back" bn ["_law_game_here","_law_left_here","_law_start"]:=e.defAt X G 36 rfl (fun _ _ _ _ _ _=>L2.arg3 fun _ _ _=>rfl)
  have A37 : DefAt K mg "_law_holds" cG ["_law_found","_law_game_here"]:=e.defAt X G 37 rfl (fun _ _ _ _ _ _=>L2.arg2 fun _ _=>rfl)
  obtain ⟨kV,doc,pm,an,cdv,ct,FL⟩:=e.law X G 38 rfl hfa
  exact ⟨_,fun s v=>.of_eq rfl,fun base _ _=>main (P:=P) (w:=w) (base:=base) T XC LM_least_needy LM_most_needy NE_least_needy_most_needy A0 A1 A2 A3 A4 A5 A6 A7 A8 A9 A10 A11 A12 A13 A14 A15 A16 A17 A18 A19 A20 A21 A22 A23 A24 A25 A26 A27 A28 A29 A30 A31 A32 A33 A34 A35 A36 A37 FL⟩
def asL : List Nat:=[0,1,2,3,4,5,6,7,8,9,10,11,12,13,14,15,22,23,24,25,28,35,36,37,40,47,48,49,52,59,60,61,64,71,72,73,76,83,84,85,88,89,90,91,92,93,94,95,96,97,98,99,100,101,102,103,104,105,106,107,108,109,110,111,112,113,114,115,116,117,118,119,120,121,122,123,124,125,126,127,128,129,130,131,132,133,134,135,136,137,138,139,140,141,142,143,144,145,146,147,148,149,150,151,152,153,154,155,156,157,158,159,160,161,162,163,164,165,166,167,168,169,170,171,172,173,174,175,176,177,178,179,180,181,182,183,184,185,186,187,188,189,190,191,192,193,194,195,196,197,198,199,200,201,202,203,204,205,206,207,208,209,210,211,212,213,214,215,216,217,218,219,220,221,222,223,224,225,226,227,228,229,230,231,232,233,234,235,236,237,238,239,240,241,242,243,244,245,246,247,248,249,250,251,252,253,254,255,256,257,258,259,260,261,262,263,264,265,266,267,268,269,270,271,272,273,274,275,276,277,278,279,280,281,282,283,284,285,286,287,288,289,290,291,292,293,294,295,296,297,298,299,300,301,302,303,304,305,306,307,308,309,310,311,312,313,314,315,316,317,318,319,320,321,322,323,324,325,326,327,328,329,330,331,332,333,334,335,336,337,338,339,340]
def qV : Program:=PySem.W.view PySem.Challenge.pw_rankgarth_k39_whole_ways_by_purses [52]
def loV : List Str:=(PySem.Challenge.pw_rankgarth_k39_whole_ways_by_purses.main.scope.names.map (·.1)).filter fun x=>!(x == "law")
def xtV (s : Shared) : Bool:=PySem.W.xlAt qV [] s && PySem.W.recOk (PySem.W.RowW.records PySem.Challenge.rw_rankgarth_k39_whole_ways_by_purses.row.toRowW) s
def dL : PySem.DefRec:=⟨"law",cP fZ,bu fZ,ai fZ,vh fZ⟩
set_option maxHeartbeats 0
theorem nU : PySem.W.opening PySem.Challenge.pw_rankgarth_k39_whole_ways_by_purses = PySem.W.plainProg PySem.Challenge.pw_rankgarth_k39_whole_ways_by_purses.main.scope.names:=by kernel_rfl
theorem o9 (w : World) (os : OsState) : (fq PySem.Challenge.pw_rankgarth_k39_whole_ways_by_purses w 11 (some (.ref 6)) 5160 ⟨jk w.params,11,{},Array.mk [],PySem.W.boot_drawn,PySem.W.boot_toks,os⟩ (PySem.W.topStub PySem.Challenge.pw_rankgarth_k39_whole_ways_by_purses)).map (fun r=>jN PySem.Challenge.pw_rankgarth_k39_whole_ways_by_purses qV loV xtV true (fun s=>(askedOf.look (partN asL s.heap),(["least_needy","most_needy"] : List Str).all fun x=>qF (partN asL s.heap) s.heap x)) (PySem.W.boot_heap w.params) r.abs) = some (true,PySem.W.openGood qV loV,(askedOf.want w,true)):=by kernel_rfl
theorem head_left : PySem.W.LeftO PySem.Challenge.rw_rankgarth_k39_whole_ways_by_purses.row.prog qV loV xtV (fun s=>(askedOf.look (partN asL s.heap),(["least_needy","most_needy"] : List Str).all fun x=>qF (partN asL s.heap) s.heap x)) (fun w=>(askedOf.want w,true)) 5160 :=
  n5 (p:=PySem.Challenge.pw_rankgarth_k39_whole_ways_by_purses) (H₀:=PySem.W.boot_heap) (gs₀:=Array.mk []) (d₀:=PySem.W.boot_drawn) (k₀:=PySem.W.boot_toks) (m₀:=11) (ann:=some (.ref 6)) (M:=5160) (T₀:=jk) (n₀:=11) (life:={}) (PySem.W.boot_open nU (by decide +kernel) fun s=>by kernel_rfl) (fun w=>by kernel_rfl) (fun P=>by kernel_rfl) o9 (by decide +kernel)
end Law
open PySem PySem.W PyProof.Rows
set_option maxRecDepth 100000 in
set_option maxHeartbeats 0 in
theorem PySem.Challenge.cw_rankgarth_k39_whole_ways_by_purses_holds : PySem.Challenge.rw_rankgarth_k39_whole_ways_by_purses.Holds := by
  refine PySem.W.holds_law (by kernel_rfl) fun said=>?_
  refine PySem.W.holds_open (q:=Law.qV) (loose:=Law.loV) (Xt:=Law.xtV) (XP:=XL Law.qV []) (YP:=fun w h=>∃ K : Frag,K.In h∧Law.askedOf.Ok w K∧L2.TabsIn ["least_needy","most_needy"] K h) (d:=Law.dL) (kwd:=[]) Law.head_left (fun w s e=>⟨L2.partN Law.asL s.heap,L2.partN_in _ _,(Prod.mk.inj e).1,L2.TabsIn.of (Prod.mk.inj e).2⟩) (fun w h h' y k=>y.elim fun K z=>⟨K,z.1.keeps k,z.2.1,z.2.2.keeps k⟩) (fun s e=>xl_of s (Bool.and_eq_true_iff.mp e).1) XL.keeps (by kernel_rfl) (by kernel_rfl) (by kernel_rfl) (fun s e=>recFacts_of (Bool.and_eq_true_iff.mp e).2) (by kernel_rfl) said (by kernel_rfl) ⟨rfl,rfl,rfl,rfl,rfl,by decide +kernel⟩ ?hw ?hc
  case hw=>w_witness2
  case hc=>exact L2.walk_exT (l:=PySem.Challenge.rw_rankgarth_k39_whole_ways_by_purses) (n:=63) (k:=10) (x := "_law_script") (nm := "law") (sp:=Law.spLaw) (xs:=["least_needy","most_needy"]) (Fc:=fun w K=>Law.askedOf.Ok w K) rfl (by decide) (by kernel_rfl) ⟨rfl,by decide,by decide⟩ (by kernel_rfl) (fun w K mg fa h e X ti G hm=>Law.all_mk e X ti G hm) (fun _ _ a ns hl hT hS=>⟨a,ns,rfl,hS,hT,hl,fun _=>rfl⟩)
