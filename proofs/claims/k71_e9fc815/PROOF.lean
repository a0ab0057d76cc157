import PyProof.Rows.All
import Wide.All
import OpenK.AllK
import Wide.FinOn
import Lean
import PyProof.EqAt
import PyProof.EqKinds
import PyProof.TupleCall
import PySem.Challenge.RW_meetvalue_k71_desk_rows
set_option Elab.async false
set_option linter.all false
set_option maxRecDepth 100000
set_option maxHeartbeats 4000000
namespace L2
open PySem PySem.Spec PyProof.Rows
abbrev K1 := Sum Int Str
def jD : K1 → Value → Bool
 | .inl k,v=>Value.isInt k v
 | .inr x,v=>Value.isStrOf x v
def BF4 (w : World) : K1 → Int
 | .inl k=>hashInt k
 | .inr x=>hashStr w x
theorem Q0 : ∀ {k : K1} {v : Value},jD k v = true → (∃ i t,k = Sum.inl i ∧ v = Value.int i t) ∨ (∃ x t,k = Sum.inr x ∧ v = Value.str x t)
 | .inl i,v,h=>by
  obtain ⟨t,e⟩ := Value.isInt_shape (k := i) (v := v) h
  exact .inl ⟨i,t,rfl,e⟩
 | .inr x,v,h=>by
  obtain ⟨t,e⟩ := Value.isStrOf_shape (x := x) (v := v) h
  exact .inr ⟨x,t,rfl,e⟩
theorem xQ (i : Int) (t : Tok) : jD (.inl i) (.int i t) = true := by simp [jD,Value.isInt]
theorem xP (x : Str) (t : Tok) : jD (.inr x) (.str x t) = true := by simp [jD,Value.isStrOf]
theorem AT4 (a b : Int) : decide ((Sum.inl a : K1) = Sum.inl b) = (a == b) := by
 by_cases e : a = b
 ·subst e; simp
 ·have h : ¬ (Sum.inl a : K1) = Sum.inl b := fun q=>e (Sum.inl.inj q)
  rw [decide_eq_false h]
  exact (beq_eq_false_iff_ne.mpr e).symm
theorem AT1 (a b : Str) : decide ((Sum.inr a : K1) = Sum.inr b) = decide (a = b) := by
 by_cases e : a = b
 ·subst e; simp
 ·have h : ¬ (Sum.inr a : K1) = Sum.inr b := fun q=>e (Sum.inr.inj q)
  rw [decide_eq_false h,decide_eq_false e]
theorem AT3 (a : Int) (b : Str) : decide ((Sum.inl a : K1) = Sum.inr b) = false := decide_eq_false (fun q=>nomatch q)
theorem AT2 (a : Str) (b : Int) : decide ((Sum.inr a : K1) = Sum.inl b) = false := decide_eq_false (fun q=>nomatch q)
def P8 (prog : Program) (w : World) : PySem.KeyKind prog w K1 where
 is := jD
 hash := BF4 w
 inj := fun v a b ha hb=>by
  rcases Q0 ha with ⟨i,t,rfl,rfl⟩ | ⟨x,t,rfl,rfl⟩
  ·rcases Q0 hb with ⟨j,u,rfl,e⟩ | ⟨y,u,rfl,e⟩
   ·injection e with e1 _; rw [e1]
   ·exact nomatch e
  ·rcases Q0 hb with ⟨j,u,rfl,e⟩ | ⟨y,u,rfl,e⟩
   ·exact nomatch e
   ·injection e with e1 _; rw [e1]
 byValue := fun k v h=>by
  rcases Q0 h with ⟨i,t,rfl,rfl⟩ | ⟨x,t,rfl,rfl⟩ <;> rfl
 pyHash := fun hv h=>by
  rcases Q0 hv with ⟨i,t,rfl,rfl⟩ | ⟨x,t,rfl,rfl⟩
  ·exact wpAny_pyHash_int h
  ·exact wpAny_pyHash_str h
 eqBool := fun hu hv h=>by
  rcases Q0 hu with ⟨i,t,rfl,rfl⟩ | ⟨x,t,rfl,rfl⟩
  ·rcases Q0 hv with ⟨j,u,rfl,rfl⟩ | ⟨y,u,rfl,rfl⟩
   ·rw [AT4] at h; exact wpAny_eqBool_int h
   ·rw [AT3] at h; exact SeqAt.EqAt.int_str i t y u _ _ _ _ h
  ·rcases Q0 hv with ⟨j,u,rfl,rfl⟩ | ⟨y,u,rfl,rfl⟩
   ·rw [AT2] at h; exact SeqAt.EqAt.str_int x t j u _ _ _ _ h
   ·rw [AT1] at h; exact wpAny_eqBool_str h
 «strs» := fun k x t v h=>by
  rcases Q0 h with ⟨i,u,rfl,e⟩ | ⟨y,u,rfl,e⟩
  ·exact nomatch e
  ·injection e with e1 _
   subst e1
   cases v <;> rfl
theorem sH (prog : Program) (w : World) (i : Int) (t : Tok) : (P8 prog w).is (.inl i) (.int i t) = true := xQ i t
theorem sG (prog : Program) (w : World) (x : Str) (t : Tok) : (P8 prog w).is (.inr x) (.str x t) = true := xP x t
end L2
namespace L2
open PySem PySem.Spec PyProof.Rows
inductive V where
 | non | bl (b : Bool) | int (i : Int) | str (x : Str) | byt (b : Array UInt8) | flt (b : UInt64) | ref (a : Addr) | ty (n : String)
 deriving DecidableEq
def RelV : V → Value → Prop
 | .non,u=>u = Value.none
 | .bl b,u=>u = Value.bool b
 | .int i,u=>∃ t,u = Value.int i t
 | .str x,u=>∃ t,u = Value.str x t
 | .byt b,u=>∃ t,u = Value.bytes b t
 | .flt b,u=>∃ t,u = Value.float b t
 | .ref a,u=>u = Value.ref a
 | .ty n,u=>u = Value.type n
abbrev Vals : List V → List Value → Prop := Paired RelV
theorem Vals.length {xs : List V} {us : List Value} (r : Vals xs us) : xs.length = us.length := Paired.length r
theorem Vals.get : ∀ {xs : List V} {us : List Value} {i : Nat} {x : V},Vals xs us → xs[i]? = some x → ∃ u,us[i]? = some u ∧ RelV x u
 | _,_,_,_,.nil,e=>by simp at e
 | _,_,0,_,.cons r _,e=>by simp at e; subst e; exact ⟨_,rfl,r⟩
 | _,_,i + 1,x,.cons _ t,e=>by
  obtain ⟨u,h1,h2⟩ := Vals.get (i := i) (x := x) t (by simpa using e)
  exact ⟨u,by simpa using h1,h2⟩
theorem Vals.set {x : V} {u : Value} (r : RelV x u) : ∀ {xs : List V} {us : List Value} (i : Nat),Vals xs us → Vals (xs.set i x) (us.set i u)
 | _,_,_,.nil=>.nil
 | _,_,0,.cons _ t=>.cons r t
 | _,_,i + 1,.cons q t=>.cons q (Vals.set r i t)
theorem Vals.append : ∀ {xs ys : List V} {us ws : List Value},Vals xs us → Vals ys ws → Vals (xs ++ ys) (us ++ ws)
 | _,_,_,_,.nil,s=>s
 | _,_,_,_,.cons r t,s=>.cons r (Vals.append t s)
theorem Vals.take : ∀ {xs : List V} {us : List Value} (n : Nat),Vals xs us → Vals (xs.take n) (us.take n)
 | _,_,0,_=>.nil
 | _,_,_ + 1,.nil=>.nil
 | _,_,n + 1,.cons r t=>.cons r (Vals.take n t)
theorem Vals.drop : ∀ {xs : List V} {us : List Value} (n : Nat),Vals xs us → Vals (xs.drop n) (us.drop n)
 | _,_,0,r=>r
 | _,_,_ + 1,.nil=>.nil
 | _,_,n + 1,.cons _ t=>Vals.drop n t
def RelO : Option V → Option Value → Prop
 | some v,some u=>RelV v u
 | none,none=>True
 | _,_=>False
def KV {κ : Type} : List (κ × V) → List (κ × Value) → Prop := Paired fun (p : κ × V) (q : κ × Value)=>p.1 = q.1 ∧ RelV p.2 q.2
def kV : K1 → V
 | .inl i=>.int i
 | .inr x=>.str x
inductive HO where
 | lst (xs : List V)
 | tup (xs : List V)
 | dK (kvs : List (K1 × V)) | dT (kvs : List (List K1 × V))
 | set (S : Int → Bool) (n : Nat)
 | ins (C dx : Addr) (fs : List (Str × V))
 | own (x : Addr)
 | xd (fs : List (Str × V))
 | met (f x : Addr)
 | rng (lo hi : Int)
 | frz (o : Obj) (u : HO)
 | tbl (ps : Array Value)
 | ext (φ : Heap → Prop)
abbrev Hp := Addr → Option HO
def B6 (H : Hp) (a : Addr) (o : HO) : Hp := fun b=>if b = a then some o else H b
theorem B1 {H : Hp} {a : Addr} {o : HO} : B6 H a o a = some o := by unfold B6; rw [if_pos rfl]
theorem B5 {H : Hp} {a b : Addr} {o : HO} (h : b ≠ a) : B6 H a o b = H b := by unfold B6; rw [if_neg h]
theorem iE {H : Hp} {a : Addr} {o u : HO} : B6 (B6 H a o) a u = B6 H a u := by
 funext b; unfold B6; split <;> rfl
theorem AY8 {H : Hp} {a b : Addr} {o u : HO} (h : H a = some o) (h' : H b = some u) (d : o ≠ u) : a ≠ b := by
 intro e; subst e; rw [h] at h'; exact d (Option.some.inj h')
theorem C0 {H : Hp} {a b : Addr} {o : HO} (h : H a = some o) (h' : H b = none) : a ≠ b := by
 intro e; subst e; rw [h] at h'; cases h'
section
variable (P : Program) (w : World)
def ObjOk (H : Hp) (h : Heap) (a : Addr) : HO → Prop
 | .lst xs=>xs.length ≤ sizeLine ∧ ∃ (its : List Value) (n : Nat),Vals xs its ∧ h.get? a = some { cls := .type "list",data := .seq its.toArray n }
 | .tup xs=>xs.length ≤ sizeLine ∧ ∃ its : List Value,Vals xs its ∧ IsTup h a its.toArray
 | .dK kvs=>kvs.length ≤ sizeLine ∧ (a == sysModules) = false ∧ ∃ vs,KV kvs vs ∧ h.DictOf (P8 P w) a vs
 | .dT kvs=>kvs.length ≤ sizeLine ∧ (a == sysModules) = false ∧ ∃ xs : List (List K1 × Addr × Value),
   Paired (fun (p : List K1 × V) (q : List K1 × Addr × Value)=>p.1 = q.1 ∧ H q.2.1 = some (.tup (p.1.map kV)) ∧ RelV p.2 q.2.2) kvs xs ∧
   ∃ o es ep,h.get? a = some o ∧ o.ExactDict ∧ o.data = .dict es ep ∧ es.toList = xs.map (entryOfKey (tupleKind (P8 P w))) ∧ (xs.map (·.1)).Nodup
 | .set S n=>h.SetOf (intKind P w) a S n
 | .ins C dx fs=>H dx = some (.own a) ∧ fs.length ≤ 1000 ∧ dx ≠ a ∧ h.get? a = some (PySem.W.instObj C dx) ∧
   ∃ mA,h.Ns1 dx mA ∧ (∀ f,RelO (fs.lookup f) (mA f)) ∧ PySem.Within mA (fs.map (·.1))
 | .own _=>∃ o,h.get? a = some o
 | .xd fs=>∃ mA,h.Ns1 a mA ∧ ∀ f,RelO (fs.lookup f) (mA f)
 | .rng lo hi=>∃ t u v,h.get? a = some { cls := .type "range",data := .fields #[.int lo t,.int hi u,.int 1 v] }
 | .frz o u=>h.get? a = some o ∧ ObjOk H h a u
 | .tbl ps=>h.get? a = some { cls := .none,data := .fields ps }
 | .met f x=>h.get? a = some (PySem.W.methodObj (.ref f) (.ref x))
 | .ext φ=>φ h ∧ (∃ o,h.get? a = some o) ∧ ∀ h1 h2 : Heap,φ h1 → (∀ o,h1.get? a = some o → h2.get? a = some o) → φ h2
def HOk (H : Hp) (h : Heap) : Prop := ∀ a o,H a = some o → ObjOk P w H h a o
end
section
variable {P : Program} {w : World} {H H' : Hp} {h h' : Heap} {a : Addr} {o : HO}
theorem ObjOk.lt (x : ObjOk P w H h a o) : a < h.objs.size := by
 cases o with
 | lst xs=>obtain ⟨_,_,_,_,e⟩ := x; exact Heap.lt_size e
 | tup xs=>obtain ⟨_,_,_,p⟩ := x; exact p.lt
 | dK kvs=>obtain ⟨_,_,_,_,o,_,_,e,_⟩ := x; exact Heap.lt_size e
 | dT kvs=>obtain ⟨_,_,_,_,o,_,_,e,_⟩ := x; exact Heap.lt_size e
 | set S n=>obtain ⟨o,_,_,_,e,_⟩ := x; exact Heap.lt_size e
 | ins C dx fs=>obtain ⟨_,_,_,e,_⟩ := x; exact Heap.lt_size e
 | own y=>obtain ⟨_,e⟩ := x; exact Heap.lt_size e
 | xd fs=>obtain ⟨_,⟨_,_,_,e,_⟩,_⟩ := x; exact Heap.lt_size e
 | rng lo hi=>obtain ⟨_,_,_,e⟩ := x; exact Heap.lt_size e
 | frz ob u=>obtain ⟨e,_⟩ := x; exact Heap.lt_size e
 | tbl ps=>exact Heap.lt_size (show h.get? a = some _ from x)
 | met f y=>exact Heap.lt_size (show h.get? a = some _ from x)
 | ext φ=>obtain ⟨_,⟨_,e⟩,_⟩ := x; exact Heap.lt_size e
theorem Paired.mapP {α β : Type} {F G : α → β → Prop} : ∀ {l₁ : List α} {l₂ : List β},Paired F l₁ l₂ → (∀ a b,F a b → G a b) → Paired G l₁ l₂
 | _,_,.nil,_=>.nil
 | _,_,.cons r t,f=>.cons (f _ _ r) (Paired.mapP t f)
theorem ObjOk.stay (x : ObjOk P w H h a o) (k : ∀ b u,(b = a ∨ H b = some (.own a)) → h.get? b = some u → h'.get? b = some u)
  (ho : ∀ b,H b = some (.own a) → H' b = some (.own a)) (ht : ∀ b xs,H b = some (.tup xs) → H' b = some (.tup xs)) : ObjOk P w H' h' a o := by
 induction o with
 | lst xs=>obtain ⟨z,its,n,r,e⟩ := x; exact ⟨z,its,n,r,k _ _ (.inl rfl) e⟩
 | tup xs=>obtain ⟨z,its,r,ob,e,c⟩ := x; exact ⟨z,its,r,ob,k _ _ (.inl rfl) e,c⟩
 | dK kvs=>obtain ⟨z,y,vs,r,ob,es,ep,e,c⟩ := x; exact ⟨z,y,vs,r,ob,es,ep,k _ _ (.inl rfl) e,c⟩
 | dT kvs =>
  obtain ⟨z,y,xs,r,ob,es,ep,e,c⟩ := x
  exact ⟨z,y,xs,Paired.mapP r fun p q z=>⟨z.1,ht _ _ z.2.1,z.2.2⟩,ob,es,ep,k _ _ (.inl rfl) e,c⟩
 | set S n=>obtain ⟨ob,es,ep,t,e,c⟩ := x; exact ⟨ob,es,ep,t,k _ _ (.inl rfl) e,c⟩
 | ins C dx fs =>
  obtain ⟨d,z,ne,e,mA,⟨od,es,ep,e2,c⟩,r⟩ := x
  exact ⟨ho _ d,z,ne,k _ _ (.inl rfl) e,mA,⟨od,es,ep,k _ _ (.inr d) e2,c⟩,r⟩
 | own y=>obtain ⟨ob,e⟩ := x; exact ⟨ob,k _ _ (.inl rfl) e⟩
 | xd fs=>obtain ⟨mA,⟨od,es,ep,e,c⟩,r⟩ := x; exact ⟨mA,⟨od,es,ep,k _ _ (.inl rfl) e,c⟩,r⟩
 | rng lo hi=>obtain ⟨t,u,v,e⟩ := x; exact ⟨t,u,v,k _ _ (.inl rfl) e⟩
 | frz ob u ih=>obtain ⟨e,q⟩ := x; exact ⟨k _ _ (.inl rfl) e,ih q⟩
 | tbl ps =>
  have e : h.get? a = some { cls := .none,data := .fields ps } := x
  show h'.get? a = some { cls := .none,data := .fields ps }
  exact k a _ (.inl rfl) e
 | met f y =>
  have e : h.get? a = some (PySem.W.methodObj (.ref f) (.ref y)) := x
  show h'.get? a = some (PySem.W.methodObj (.ref f) (.ref y))
  exact k a _ (.inl rfl) e
 | ext φ=>obtain ⟨p,⟨o,e⟩,st⟩ := x; exact ⟨st _ _ p fun o q=>k _ _ (.inl rfl) q,⟨o,k _ _ (.inl rfl) e⟩,st⟩
theorem HOk.lt (x : HOk P w H h) (e : H a = some o) : a < h.objs.size := (x a o e).lt
theorem HOk.fresh (x : HOk P w H h) (e : h.objs.size ≤ a) : H a = none := by
 cases q : H a with
 | none=>rfl
 | some u=>exact absurd (Nat.lt_of_lt_of_le (x.lt q) e) (Nat.lt_irrefl _)
theorem HOk.kept (x : HOk P w H h) (k : ∀ b u,h.get? b = some u → h'.get? b = some u) : HOk P w H h' := fun a o e =>
 (x a o e).stay (fun b u _ q=>k b u q) (fun _ q=>q) fun _ _ q=>q
theorem HOk.laid (x : HOk P w H h) (k : ∀ b u,h.get? b = some u → h'.get? b = some u) (hp : h.objs.size ≤ a) (new : ObjOk P w (B6 H a o) h' a o) : HOk P w (B6 H a o) h' := fun b u e=>by
 have hn := x.fresh hp
 by_cases hb : b = a
 ·subst hb; rw [B1] at e; cases e; exact new
 ·rw [B5 hb] at e
  exact (x b u e).stay (fun c v _ q=>k c v q) (fun c q=>by rw [B5 (C0 q hn)]; exact q) fun c xs q=>by rw [B5 (C0 q hn)]; exact q
end
def Rd (H : Hp) (a : Addr) (u : HO) : Prop := H a = some u ∨ ∃ o,H a = some (.frz o u)
theorem Rd.ok {P : Program} {w : World} {H : Hp} {h : Heap} {a : Addr} {u : HO} (r : Rd H a u) (x : HOk P w H h) : ObjOk P w H h a u := by
 rcases r with r | ⟨o,r⟩
 ·exact x a u r
 ·obtain ⟨_,q⟩ := x a _ r
  exact q
def yY : Option HO → Prop
 | some (.lst _)=>True
 | some (.dK _)=>True
 | some (.dT _)=>True
 | some (.set _ _)=>True
 | some (.ins _ _ _)=>True
 | some (.ext _)=>True
 | _=>False
section
variable {P : Program} {w : World} {H : Hp} {h h' : Heap} {x e : Addr} {o' : HO}
theorem HOk.write (ok : HOk P w H h) (mu : yY (H x)) (he : e = x ∨ H e = some (.own x)) (k : ∀ b u,b ≠ e → h.get? b = some u → h'.get? b = some u) (heo : ∃ u,h'.get? e = some u)
  (new : ObjOk P w (B6 H x o') h' x o') : HOk P w (B6 H x o') h' := fun b u q=>by
 have nown : ∀ c y,H c = some (.own y) → c ≠ x := fun c y r z=>by subst z; rw [r] at mu; exact mu
 have ntup : ∀ c xs,H c = some (.tup xs) → c ≠ x := fun c xs r z=>by subst z; rw [r] at mu; exact mu
 by_cases hb : b = x
 ·subst hb; rw [B1] at q; cases q; exact new
 ·rw [B5 hb] at q
  by_cases hbe : b = e
  ·have q' : H b = some (.own x) := by
    rcases he with z | z
    ·exact absurd (hbe.trans z) hb
    ·rw [hbe]; exact z
   rw [q] at q'; cases q'
   obtain ⟨v,hv⟩ := heo
   exact ⟨v,by rw [hbe]; exact hv⟩
  ·refine (ok b u q).stay (fun c v hc r=>k c v ?_ r) (fun c r=>by rw [B5 (nown c b r)]; exact r) fun c xs r=>by rw [B5 (ntup c xs r)]; exact r
   rcases hc with rfl | hc
   ·exact hbe
   ·rintro rfl
    rcases he with z | z
    ·exact nown c b hc z
    ·rw [hc] at z; cases z; exact hb rfl
end
structure Un (fs ex : List Addr) (H H' : Hp) (h h' : Heap) : Prop where
 keep : ∀ b o,h.get? b = some o → H b = none → b ∉ fs → b ∉ ex → h'.get? b = some o
 slot : ∀ b o,h.get? b = some o → H b = none → b ∈ fs → b ∉ ex → ∃ sl,h'.get? b = some { o with slots := sl }
 free : ∀ b o,h.get? b = some o → H b = none → b ∉ ex → H' b = none
 there : ∀ b o,h.get? b = some o → b ∉ ex → ∃ o',h'.get? b = some o'
 tups : ∀ b xs,H b = some (.tup xs) → H' b = some (.tup xs)
 frzs : ∀ b o u,H b = some (.frz o u) → H' b = some (.frz o u)
 tbls : ∀ b ps,H b = some (.tbl ps) → ∃ more,H' b = some (.tbl (ps ++ more))
section
variable {fs fs' ex ex' : List Addr} {H H1 H2 : Hp} {h h1 h2 h' : Heap} {a x e : Addr} {o : HO}
theorem Un.any (u : Un fs ex H H1 h h1) {b : Addr} {ob : Obj} (q : h.get? b = some ob) (n : H b = none) (hx : b ∉ ex) : ∃ sl,h1.get? b = some { ob with slots := sl } := by
 by_cases hb : b ∈ fs
 ·exact u.slot b ob q n hb hx
 ·exact ⟨ob.slots,u.keep b ob q n hb hx⟩
theorem Un.kept (k : ∀ b u,h.get? b = some u → h'.get? b = some u) : Un fs ex H H h h' :=
 ⟨fun b ob q _ _ _=>k b ob q,fun b ob q _ _ _=>⟨ob.slots,k b ob q⟩,fun _ _ _ n _=>n,fun b ob q _=>⟨ob,k b ob q⟩,fun _ _ q=>q,fun _ _ _ q=>q,fun _ ps q=>⟨#[],by rw [q]; simp⟩⟩
theorem Un.refl : Un fs ex H H h h := Un.kept fun _ _ q=>q
theorem Un.laid (k : ∀ b u,h.get? b = some u → h'.get? b = some u) (hp : h.objs.size ≤ a) (hn : H a = none) : Un fs ex H (B6 H a o) h h' where
 keep := fun b u q _ _ _=>k b u q
 slot := fun b u q _ _ _=>⟨u.slots,k b u q⟩
 free := fun b u q n _=>by rw [B5 (Nat.ne_of_lt (Nat.lt_of_lt_of_le (Heap.lt_size q) hp))]; exact n
 there := fun b u q _=>⟨u,k b u q⟩
 tups := fun b xs q=>by rw [B5 (C0 q hn)]; exact q
 frzs := fun b u xs q=>by rw [B5 (C0 q hn)]; exact q
 tbls := fun b ps q=>⟨#[],by rw [B5 (C0 q hn),q]; simp⟩
theorem Un.write (mu : yY (H x)) (he : e = x ∨ H e = some (.own x)) (k : ∀ b u,b ≠ e → h.get? b = some u → h'.get? b = some u) (heo : ∃ u,h'.get? e = some u) : Un fs ex H (B6 H x o) h h' := by
 have hx : ∀ b,H b = none → b ≠ x := fun b n z=>by subst z; rw [n] at mu; exact mu
 have hb : ∀ b,H b = none → b ≠ e := fun b n z=>by
  subst z
  rcases he with r | r
  ·exact hx b n r
  ·rw [n] at r; cases r
 have hm : ∀ b u,H b = some u → ¬ yY (some u) → b ≠ x := fun b u q nm z=>by subst z; rw [q] at mu; exact nm mu
 refine ⟨fun b u q n _ _=>k b u (hb b n) q,fun b u q n _ _=>⟨u.slots,k b u (hb b n) q⟩,fun b u q n _=>by rw [B5 (hx b n)]; exact n,fun b u q _=>?_,
  fun b xs q=>by rw [B5 (hm b _ q fun z=>z)]; exact q,fun b u xs q=>by rw [B5 (hm b _ q fun z=>z)]; exact q,fun b ps q=>⟨#[],by rw [B5 (hm b _ q fun z=>z),q]; simp⟩⟩
 by_cases hbe : b = e
 ·subst hbe; exact heo
 ·exact ⟨u,k b u hbe q⟩
end
def sS (h : Heap) (H : Hp) : List Addr := (List.range h.objs.size).filter fun a=>(H a).isSome
def fM (h : Heap) (H : Hp) : Heap := PySem.W.hideAll h (sS h H)
theorem xW (h : Heap) (H : Hp) : (fM h H).objs.size = h.objs.size := PySem.W.hideAll_size _ _
theorem AC0 {h : Heap} {H : Hp} {b : Addr} {o : Obj} (e : h.get? b = some o) (n : H b = none) : (fM h H).get? b = some o :=
 PySem.W.hideAll_get _ e fun hm=>by
  have q : (H b).isSome = true := (List.mem_filter.mp hm).2
  rw [n] at q; simp at q
theorem AL5 {h : Heap} {H : Hp} {b : Addr} {o : Obj} (e : (fM h H).get? b = some o) : h.get? b = some o ∧ H b = none := by
 have e' : h.get? b = some o := PySem.W.of_hideAll (sS h H) e
 refine ⟨e',?_⟩
 cases q : H b with
 | none=>rfl
 | some x =>
  have hm : b ∈ sS h H := List.mem_filter.mpr ⟨List.mem_range.mpr (Heap.lt_size e'),by simp [q]⟩
  have z : (fM h H).get? b = none := PySem.W.hideAll_none (sS h H) hm
  rw [z] at e; cases e
end L2
namespace L2
open PySem PySem.Spec PyProof.Rows
structure Mod (K : PySem.W.Frag) (mg : Str → Option Value) (base : Heap) : Prop where
 kin : K.In base
 glob : base.Ns mainGlobals mg
 blt : ∃ mb,base.Ns builtinsNs mb ∧ ∀ x : Str,x ≠ "__name__" → mb x = bootBuiltins x
 nolimit : base.NoLimit
structure Cx where
 prog : Program
 w : World
 K : PySem.W.Frag
 mg : Str → Option Value
 base : Heap
 A : Around
 N : List Str
 s₀ : Shared
 H₀ : Hp
 env : Env
 outer : List Env
 stack : List Env
 ex : List Addr
 fn : Str → Bool
 calm : Bool
 pn : List (Addr × Obj)
 xe : Value → Shared → Prop
def V9 (l : List Env) : List Addr := l.filterMap (·.frame)
abbrev Cx.fs (X : Cx) : List Addr := V9 X.outer
def rV (sc : Scope) (x : Str) : Prop := sc.names.lookup x = some .local ∨ sc.names.lookup x = some .cell ∨ sc.names.lookup x = some .free
def yZ (sc : Scope) (x : Str) : Prop := sc.names.lookup x = some .local ∨ sc.names.lookup x = some .cell
def BG7 (env : Env) (h : Heap) (m : Str → Option Value) (x : Str) (u : Value) : Prop :=
 (env.kindOf x = some .local ∧ m x = some u) ∨ ((env.kindOf x = some .cell ∨ env.kindOf x = some .free) ∧ ∃ c,env.cells.lookup x = some c ∧ h.IsCell c (some u))
structure Cx.Ok (X : Cx) : Prop where
 mod : Mod X.K X.mg X.base
 kind : X.env.scope.kind = .function
 glob : X.env.globals = mainGlobals
 blt : X.env.builtins = builtinsNs
 above : X.s₀.heap.objs.size ≤ X.env.locals
 inj : ∀ x y c,X.env.cells.lookup x = some c → X.env.cells.lookup y = some c → x = y
 has : ∀ x,(X.env.kindOf x = some .cell ∨ X.env.kindOf x = some .free) → ∃ c,X.env.cells.lookup x = some c
 cab : ∀ x c,X.fn x = true → X.env.cells.lookup x = some c → X.s₀.heap.objs.size ≤ c
 hd : X.calm = true → X.A.handled = none
 frames : X.A.frames = some X.stack
 stk : X.stack = X.outer ∨ (X.stack = X.env :: X.outer ∧ X.env.frame = some X.env.locals)
 exf : ∀ b ∈ X.ex,b ≠ X.env.locals ∧ ∀ x c,X.env.cells.lookup x = some c → c ≠ b
 bs : ∀ b o,X.base.get? b = some o → X.s₀.heap.get? b = some o ∧ X.H₀ b = none
 bsz : X.base.objs.size ≤ X.s₀.heap.objs.size
 noex : ∀ b o,X.base.get? b = some o → b ∉ X.ex
 exfs : ∀ b ∈ X.ex,b ∉ X.fs
 funs : X.s₀.heap.FunFrames X.base X.outer
 frf : ∀ b ∈ X.fs,X.H₀ b = none
structure Inv (X : Cx) (pins : List (Addr × Obj)) (σ : List (Option V)) (H : Hp) (s : Shared) : Prop where
 ok : X.Ok
 os : s.os = X.s₀.os
 bare : AllBare s.gens
 base : Un X.fs X.ex X.H₀ H X.s₀.heap s.heap
 loc : ∃ m,s.heap.Ns X.env.locals m ∧ ∀ (i : Nat) (x : Str) (v : V),X.N[i]? = some x → σ[i]? = some (some v) → rV X.env.scope x → ∃ u,RelV v u ∧ BG7 X.env s.heap m x u
 cell : ∀ x c,X.env.cells.lookup x = some c → ∃ v,s.heap.IsCell c v
 free : H X.env.locals = none
 freeC : ∀ x c,X.env.cells.lookup x = some c → H c = none
 pin : ∀ p ∈ X.pn ++ pins,s.heap.get? p.1 = some p.2 ∧ H p.1 = none ∧ p.1 ≠ X.env.locals ∧ p.1 ∉ X.fs ∧ ∀ v,p.2.data ≠ .cell v
 hok : HOk X.prog X.w H s.heap
 len : σ.length = X.N.length
section
variable {X : Cx} {pins : List (Addr × Obj)} {σ : List (Option V)} {H H' : Hp} {s : Shared} {h' : Heap}
theorem Cx.Ok.nofr (ok : X.Ok) {b : Addr} {o : Obj} (e : X.base.get? b = some o) : b ∉ X.fs := fun hb=>by
 have := (ok.funs.mem hb).1
 rw [e] at this; cases this
theorem Inv.bs (I : Inv X pins σ H s) : ∀ b o,X.base.get? b = some o → s.heap.get? b = some o ∧ H b = none := fun b o e =>
 ⟨I.base.keep b o (I.ok.bs b o e).1 (I.ok.bs b o e).2 (I.ok.nofr e) (I.ok.noex b o e),I.base.free b o (I.ok.bs b o e).1 (I.ok.bs b o e).2 (I.ok.noex b o e)⟩
theorem Inv.bk (I : Inv X pins σ H s) : ∀ b o,X.base.get? b = some o → s.heap.get? b = some o := fun b o e=>(I.bs b o e).1
theorem Inv.mod (I : Inv X pins σ H s) : Mod X.K X.mg X.base := I.ok.mod
theorem Inv.kIn (I : Inv X pins σ H s) : X.K.In s.heap := I.ok.mod.kin.keeps I.bk
theorem Inv.lt (I : Inv X pins σ H s) : X.env.locals < s.heap.objs.size := let ⟨_,hn,_⟩ := I.loc; hn.lt
theorem Inv.sz (I : Inv X pins σ H s) : X.s₀.heap.objs.size ≤ s.heap.objs.size := Nat.le_trans I.ok.above (Nat.le_of_lt I.lt)
theorem Inv.nofs (I : Inv X pins σ H s) {a : Addr} (h : s.heap.objs.size ≤ a) : a ∉ X.fs := fun hb=>by
 obtain ⟨_,o,ho,_⟩ := I.ok.funs.mem hb
 exact absurd (Nat.lt_of_lt_of_le (Heap.lt_size ho) (Nat.le_trans I.sz h)) (Nat.lt_irrefl _)
theorem Inv.cne (I : Inv X pins σ H s) : ∀ x c,X.env.cells.lookup x = some c → c ≠ X.env.locals := fun x c e z=>by
 obtain ⟨v,o,ho,hd⟩ := I.cell x c e
 obtain ⟨m,⟨o',es,ep,ho',hd',_⟩,_⟩ := I.loc
 rw [z,ho'] at ho; cases ho; rw [hd'] at hd; cases hd
theorem Inv.funs (I : Inv X pins σ H s) : s.heap.FunFrames X.base X.outer := by
 have all : ∀ (l : List Env),(∀ b ∈ V9 l,b ∈ X.fs) → X.s₀.heap.FunFrames X.base l → s.heap.FunFrames X.base l := by
  intro l
  induction l with
  | nil=>intro _ _; trivial
  | cons env r ih =>
   intro hs hl
   obtain ⟨hk,⟨L,o,hf,hn,ho,hd⟩,hr⟩ := hl
   have hL : L ∈ X.fs := hs L (by unfold V9; rw [List.filterMap_cons,hf]; exact List.mem_cons_self)
   obtain ⟨sl,e⟩ := I.base.slot L o ho (I.ok.frf L hL) hL fun z=>I.ok.exfs L z hL
   exact ⟨hk,⟨L,_,hf,hn,e,hd⟩,ih (fun b hb=>hs b (by unfold V9; rw [List.filterMap_cons,hf]; exact List.mem_cons_of_mem _ hb)) hr⟩
 exact all X.outer (fun _ hb=>hb) I.ok.funs
theorem Inv.stack (I : Inv X pins σ H s) : s.heap.FunFrames X.base X.stack := by
 rcases I.ok.stk with e | ⟨e,hf⟩
 ·rw [e]; exact I.funs
 ·rw [e]
  obtain ⟨m,hn,_⟩ := I.loc
  refine .cons (by rw [I.ok.kind]; decide) hf hn ?_ I.funs
  exact Heap.get?_none_of_le (Nat.le_trans I.ok.bsz I.ok.above)
theorem Inv.stkSub (I : Inv X pins σ H s) : ∀ b ∈ V9 X.stack,b ∈ X.env.locals :: X.fs := fun b hb=>by
 rcases I.ok.stk with e | ⟨e,hf⟩
 ·rw [e] at hb; exact List.mem_cons_of_mem _ hb
 ·rw [e] at hb
  unfold V9 at hb
  rw [List.filterMap_cons,hf] at hb
  exact hb
theorem Inv.stkFree (I : Inv X pins σ H s) : ∀ b ∈ V9 X.stack,H b = none := fun b hb=>by
 rcases List.mem_cons.mp (I.stkSub b hb) with e | hb
 ·rw [e]; exact I.free
 ·obtain ⟨_,o,ho,_⟩ := I.ok.funs.mem hb
  exact I.base.free b o ho (I.ok.frf b hb) fun z=>I.ok.exfs b z hb
theorem Inv.step {g' : Array GenState} {t' : Nat} {d' : Drawn} {ch : List Addr} (I : Inv X pins σ H s)
  (hch : ∀ b ∈ ch,(b ∈ X.ex ∨ X.s₀.heap.objs.size ≤ b) ∧ b ≠ X.env.locals ∧ (∀ x c,X.env.cells.lookup x = some c → c ≠ b) ∧ ∀ p ∈ X.pn ++ pins,p.1 ≠ b)
  (keep : ∀ b o,b ≠ X.env.locals → b ∉ X.fs → b ∉ ch → s.heap.get? b = some o → H b = none → h'.get? b = some o)
  (slot : ∀ b o,b ≠ X.env.locals → b ∈ X.fs → b ∉ ch → s.heap.get? b = some o → H b = none → ∃ sl,h'.get? b = some { o with slots := sl }) (free : ∀ b o,b ∉ ch → s.heap.get? b = some o → H b = none → H' b = none)
  (there : ∀ b o,b ∉ ch → s.heap.get? b = some o → ∃ o',h'.get? b = some o')
  (tups : ∀ b xs,H b = some (.tup xs) → H' b = some (.tup xs)) (frzs : ∀ b o u,H b = some (.frz o u) → H' b = some (.frz o u)) (tbls : ∀ b ps,H b = some (.tbl ps) → ∃ more,H' b = some (.tbl (ps ++ more)))
  (ns : ∀ m,s.heap.Ns X.env.locals m → h'.Ns X.env.locals m) (hok : HOk X.prog X.w H' h') (hg : AllBare g') :
  Inv X pins σ H' { s with heap := h',gens := g',drawn := d',toks := t' } := by
 have neL : ∀ b o,X.s₀.heap.get? b = some o → b ≠ X.env.locals := fun b o e=>Nat.ne_of_lt (Nat.lt_of_lt_of_le (Heap.lt_size e) I.ok.above)
 have neC : ∀ b o,X.s₀.heap.get? b = some o → b ∉ X.ex → b ∉ ch := fun b o e hx hb=>by
  rcases (hch b hb).1 with z | z
  ·exact hx z
  ·exact absurd (Nat.lt_of_lt_of_le (Heap.lt_size e) z) (Nat.lt_irrefl _)
 have cellK : ∀ x c,X.env.cells.lookup x = some c → ∀ v,s.heap.IsCell c v → h'.IsCell c v := fun x c e v ⟨o,ho,hd⟩=>by
  have nch : c ∉ ch := fun z=>(hch c z).2.2.1 x c e rfl
  by_cases hc : c ∈ X.fs
  ·obtain ⟨sl,q⟩ := slot c o (I.cne x c e) hc nch ho (I.freeC x c e)
   exact ⟨_,q,hd⟩
  ·exact ⟨o,keep c o (I.cne x c e) hc nch ho (I.freeC x c e),hd⟩
 refine ⟨I.ok,I.os,hg,⟨fun b o e n hb hx=>?_,fun b o e n hb hx=>?_,fun b o e n hx=>?_,fun b o e hx=>?_,fun b xs e=>tups b xs (I.base.tups b xs e),fun b o xs e=>frzs b o xs (I.base.frzs b o xs e),fun b ps e=>?_⟩,?_,fun x c e=>?_,?_,fun x c e=>?_,fun p hp=>?_,hok,I.len⟩
 ·exact keep b o (neL b o e) hb (neC b o e hx) (I.base.keep b o e n hb hx) (I.base.free b o e n hx)
 ·obtain ⟨sl,e1⟩ := I.base.slot b o e n hb hx
  obtain ⟨sl',e2⟩ := slot b _ (neL b o e) hb (neC b o e hx) e1 (I.base.free b o e n hx)
  exact ⟨sl',e2⟩
 ·obtain ⟨o',e1⟩ := I.base.there b o e hx
  exact free b o' (neC b o e hx) e1 (I.base.free b o e n hx)
 ·obtain ⟨o',e1⟩ := I.base.there b o e hx
  exact there b o' (neC b o e hx) e1
 ·obtain ⟨m1,e1⟩ := I.base.tbls b ps e
  obtain ⟨m2,e2⟩ := tbls b _ e1
  exact ⟨m1 ++ m2,by rw [e2,Array.append_assoc]⟩
 ·obtain ⟨m,hn,hl⟩ := I.loc
  refine ⟨m,ns m hn,fun i x v e1 e2 e3=>?_⟩
  obtain ⟨u,r,l⟩ := hl i x v e1 e2 e3
  refine ⟨u,r,?_⟩
  rcases l with l | ⟨k,c,e,z⟩
  ·exact .inl l
  ·exact .inr ⟨k,c,e,cellK x c e _ z⟩
 ·obtain ⟨v,z⟩ := I.cell x c e
  exact ⟨v,cellK x c e v z⟩
 ·obtain ⟨m,⟨o,_,_,ho,_⟩,_⟩ := I.loc
  exact free _ o (fun z=>(hch _ z).2.1 rfl) ho I.free
 ·obtain ⟨v,o,ho,hd⟩ := I.cell x c e
  exact free c o (fun z=>(hch c z).2.2.1 x c e rfl) ho (I.freeC x c e)
 ·obtain ⟨e,n,ne,nf,d⟩ := I.pin p hp
  have nch : p.1 ∉ ch := fun z=>(hch p.1 z).2.2.2 p hp rfl
  exact ⟨keep p.1 p.2 ne nf nch e n,free p.1 p.2 nch e n,ne,nf,d⟩
theorem Inv.un {t' : Nat} (I : Inv X pins σ H s) (u : Un X.fs [] H H' s.heap h') (hok : HOk X.prog X.w H' h') : Inv X pins σ H' { s with heap := h',toks := t' } := by
 obtain ⟨m,⟨o,es,ep,ho,r⟩,_⟩ := id I.loc
 obtain ⟨sl,hL⟩ := u.any ho I.free (by simp)
 exact I.step (g' := s.gens) (d' := s.drawn) (ch := []) (fun _ z=>nomatch z) (fun b o _ hb _ e n=>u.keep b o e n hb (by simp)) (fun b o _ hb _ e n=>u.slot b o e n hb (by simp)) (fun b o _ e n=>u.free b o e n (by simp)) (fun b o _ e=>u.there b o e (by simp)) u.tups u.frzs u.tbls (fun m' hm=>by
  obtain ⟨o',es',ep',ho',r'⟩ := hm
  rw [ho] at ho'; cases ho'
  exact ⟨_,es',ep',hL,r'⟩) hok I.bare
theorem Inv.call {g' : Array GenState} {t' : Nat} {d' : Drawn} {ch : List Addr} (I : Inv X pins σ H s) (u : Un (V9 X.stack) ch H H' s.heap h') (hok : HOk X.prog X.w H' h') (hg : AllBare g')
  (hch : ∀ b ∈ ch,(b ∈ X.ex ∨ X.s₀.heap.objs.size ≤ b) ∧ b ≠ X.env.locals ∧ (∀ x c,X.env.cells.lookup x = some c → c ≠ b) ∧ ∀ p ∈ X.pn ++ pins,p.1 ≠ b) :
  Inv X pins σ H' { s with heap := h',gens := g',drawn := d',toks := t' } := by
 obtain ⟨m,⟨o,es,ep,ho,r⟩,_⟩ := id I.loc
 obtain ⟨sl,hL⟩ := u.any ho I.free fun z=>(hch _ z).2.1 rfl
 exact I.step (ch := ch) hch (fun b o hL hb hc e n=>u.keep b o e n (fun z=>(List.mem_cons.mp (I.stkSub b z)).elim hL hb) hc) (fun b o _ _ hc e n=>u.any e n hc) (fun b o hc e n=>u.free b o e n hc) (fun b o hc e=>u.there b o e hc) u.tups u.frzs u.tbls (fun m' hm=>by
  obtain ⟨o',es',ep',ho',r'⟩ := hm
  rw [ho] at ho'; cases ho'
  exact ⟨_,es',ep',hL,r'⟩) hok hg
theorem Inv.turned {t' : Nat} {it : Addr} (I : Inv X pins σ H s) (k : ∀ b o,b ≠ it → s.heap.get? b = some o → h'.get? b = some o) (hn : H it = none) (hL : it ≠ X.env.locals)
  (h1 : it ∈ X.ex ∨ X.s₀.heap.objs.size ≤ it) (h2 : ∀ x c,X.env.cells.lookup x = some c → c ≠ it) (h3 : ∀ p ∈ X.pn ++ pins,p.1 ≠ it) : Inv X pins σ H { s with heap := h',toks := t' } := by
 have nit : ∀ b u,H b = some u → b ≠ it := fun b u e z=>by rw [z,hn] at e; cases e
 refine I.step (g' := s.gens) (d' := s.drawn) (ch := [it]) (fun b hb=>?_) (fun b o _ _ hc e _=>k b o (fun z=>hc (by simp [z])) e) (fun b o _ _ hc e _=>⟨o.slots,k b o (fun z=>hc (by simp [z])) e⟩) (fun _ _ _ _ n=>n)
  (fun b o hc e=>⟨o,k b o (fun z=>hc (by simp [z])) e⟩) (fun _ _ e=>e) (fun _ _ _ e=>e) (fun b ps e=>⟨#[],by rw [e]; simp⟩) (fun m hm=>?_) (fun b u e=>?_) I.bare
 ·have e : b = it := by simpa using hb
  subst e
  exact ⟨h1,hL,h2,h3⟩
 ·obtain ⟨o,es,ep,ho,r⟩ := hm
  exact ⟨o,es,ep,k _ o (Ne.symm hL) ho,r⟩
 ·refine (I.hok b u e).stay (fun c v hc q=>k c v ?_ q) (fun _ q=>q) fun _ _ q=>q
  rcases hc with z | z
  ·rw [z]; exact nit b u e
  ·exact nit c _ z
theorem Inv.tok (I : Inv X pins σ H s) (t : Nat) : Inv X pins σ H { s with toks := t } := I.un (h' := s.heap) (t' := t) Un.refl I.hok
theorem Inv.kept {t' : Nat} (I : Inv X pins σ H s) (k : ∀ b u,s.heap.get? b = some u → h'.get? b = some u) : Inv X pins σ H { s with heap := h',toks := t' } := I.un (Un.kept k) (I.hok.kept k)
theorem Inv.laid {a : Addr} {o : HO} {t' : Nat} (I : Inv X pins σ H s) (k : ∀ b u,s.heap.get? b = some u → h'.get? b = some u) (hp : s.heap.objs.size ≤ a) (new : ObjOk X.prog X.w (B6 H a o) h' a o) :
  Inv X pins σ (B6 H a o) { s with heap := h',toks := t' } := I.un (Un.laid k hp (I.hok.fresh hp)) (I.hok.laid k hp new)
theorem Inv.write {x e : Addr} {o : HO} {t' : Nat} (I : Inv X pins σ H s) (mu : yY (H x)) (he : e = x ∨ H e = some (.own x)) (k : ∀ b u,b ≠ e → s.heap.get? b = some u → h'.get? b = some u) (heo : ∃ u,h'.get? e = some u)
  (new : ObjOk X.prog X.w (B6 H x o) h' x o) : Inv X pins σ (B6 H x o) { s with heap := h',toks := t' } := I.un (Un.write mu he k heo) (I.hok.write mu he k heo new)
theorem Inv.weak {σ' : List (Option V)} (I : Inv X pins σ H s) (hl : σ'.length = σ.length) (w : ∀ (i : Nat) v,σ'[i]? = some (some v) → σ[i]? = some (some v)) : Inv X pins σ' H s :=
 ⟨I.ok,I.os,I.bare,I.base,let ⟨m,hn,hl'⟩ := I.loc; ⟨m,hn,fun i x v e1 e2 e3=>hl' i x v e1 (w i v e2) e3⟩,I.cell,I.free,I.freeC,I.pin,I.hok,hl.trans I.len⟩
theorem Inv.pins_of {pins' : List (Addr × Obj)} (I : Inv X pins σ H s) (h : ∀ p ∈ pins',s.heap.get? p.1 = some p.2 ∧ H p.1 = none ∧ p.1 ≠ X.env.locals ∧ p.1 ∉ X.fs ∧ ∀ v,p.2.data ≠ .cell v) : Inv X pins' σ H s :=
 ⟨I.ok,I.os,I.bare,I.base,I.loc,I.cell,I.free,I.freeC,fun p hp=>(List.mem_append.mp hp).elim (fun z=>I.pin p (List.mem_append_left _ z)) (h p),I.hok,I.len⟩
theorem qY {N : List Str} (hN : N.Nodup) {i j : Nat} {x : Str} (a : N[i]? = some x) (b : N[j]? = some x) : i = j := by
 obtain ⟨h1,e1⟩ := List.getElem?_eq_some_iff.mp a
 obtain ⟨h2,e2⟩ := List.getElem?_eq_some_iff.mp b
 exact (List.getElem_inj hN).mp (e1.trans e2.symm)
theorem fY {M : Model} {A : Around} {E : Value → Shared → Prop} {i : Nat} {x : Str} {v : V} {u : Value} {Q : Unit → Shared → Prop} (I : Inv X pins σ H s) (hN : X.N.Nodup) (hi : X.N[i]? = some x) (hx : yZ X.env.scope x) (r : RelV v u)
  (h : ∀ s',Inv X pins (σ.set i (some v)) H s' → (∃ a,Heap.SameBut a s.heap s'.heap ∧ (a = X.env.locals ∨ X.env.cells.lookup x = some a)) → Q () s') (hf : X.fn x = true ∨ X.env.scope.names.lookup x = some .local := by first | exact .inl rfl | exact .inr rfl | assumption) : wpAny M A (storeName X.env x u) Q E s := by
 obtain ⟨m,hn,hl⟩ := id I.loc
 have hcls : (X.env.scope.kind == .class || (X.env.scope.kind == .module && X.env.locals != X.env.globals)) = false := by rw [I.ok.kind]; rfl
 have hiσ : i < σ.length := by rw [I.len]; exact (List.getElem?_eq_some_iff.mp hi).1
 have cne := I.cne
 have tracked : ∀ {a : Addr} {h' : Heap},(∃ o,s.heap.get? a = some o ∧ H a = none) → Heap.SameBut a s.heap h' → HOk X.prog X.w H h' := fun {a h'} ha hs b ob e=>by
  obtain ⟨_,_,hfree⟩ := ha
  refine (I.hok b ob e).stay (fun c w' hc q=>(hs.2 c ?_).trans q) (fun _ q=>q) fun _ _ q=>q
  rintro rfl
  rcases hc with rfl | hc
  ·rw [hfree] at e; cases e
  ·rw [hfree] at hc; cases hc
 rcases hx with hk | hk
 ·refine wpAny_storeName_local hk hn (fun h' hn' hs=>?_) hcls
  obtain ⟨oL,_,_,hoL,_⟩ := id hn
  refine h _ ⟨I.ok,I.os,I.bare,⟨fun b o e n hb hx=>?_,fun b o e n hb hx=>?_,I.base.free,fun b o e hx=>?_,I.base.tups,I.base.frzs,I.base.tbls⟩,⟨_,hn',fun j y v' e1 e2 e3=>?_⟩,fun y c e=>?_,I.free,I.freeC,fun p hp=>?_,tracked ⟨oL,hoL,I.free⟩ hs,by simpa using I.len⟩ ⟨_,hs,.inl rfl⟩
  ·exact (hs.2 b (Nat.ne_of_lt (Nat.lt_of_lt_of_le (Heap.lt_size e) I.ok.above))).trans (I.base.keep b o e n hb hx)
  ·obtain ⟨sl,e1⟩ := I.base.slot b o e n hb hx
   exact ⟨sl,(hs.2 b (Nat.ne_of_lt (Nat.lt_of_lt_of_le (Heap.lt_size e) I.ok.above))).trans e1⟩
  ·obtain ⟨o',e1⟩ := I.base.there b o e hx
   exact ⟨o',(hs.2 b (Nat.ne_of_lt (Nat.lt_of_lt_of_le (Heap.lt_size e) I.ok.above))).trans e1⟩
  ·by_cases hj : j = i
   ·subst hj
    rw [hi] at e1; cases e1
    rw [List.getElem?_set_self hiσ] at e2
    cases e2
    exact ⟨u,r,.inl ⟨hk,by simp⟩⟩
   ·rw [List.getElem?_set_ne (Ne.symm hj)] at e2
    obtain ⟨u',r',q⟩ := hl j y v' e1 e2 e3
    refine ⟨u',r',?_⟩
    rcases q with ⟨k,e⟩ | ⟨k,c,e,z⟩
    ·refine .inl ⟨k,?_⟩
     have : y ≠ x := fun e=>hj (qY hN e1 (e ▸ hi))
     simp [this,e]
    ·exact .inr ⟨k,c,e,z.sameBut hs (cne y c e)⟩
  ·obtain ⟨w',z⟩ := I.cell y c e
   exact ⟨w',z.sameBut hs (cne y c e)⟩
  ·obtain ⟨e,n,ne,nf,d⟩ := I.pin p hp
   exact ⟨(hs.2 p.1 ne).trans e,n,ne,nf,d⟩
 ·have hfn : X.fn x = true := by
   rcases hf with z | z
   ·exact z
   ·rw [z] at hk; cases hk
  obtain ⟨c,hc⟩ := I.ok.has x (.inl hk)
  obtain ⟨w',z⟩ := I.cell x c hc
  refine wpAny_storeName_cell I.ok.kind hk hc z (fun h' hc' hs=>?_)
  obtain ⟨oc,hoc,hocd⟩ := id z
  refine h { s with heap := h' } ⟨I.ok,I.os,I.bare,⟨fun b o e n hb hx=>?_,fun b o e n hb hx=>?_,I.base.free,fun b o e hx=>?_,I.base.tups,I.base.frzs,I.base.tbls⟩,⟨m,hn.sameBut hs (Ne.symm (cne x c hc)),fun j y v' e1 e2 e3=>?_⟩,fun y c' e=>?_,I.free,I.freeC,fun p hp=>?_,tracked ⟨oc,hoc,I.freeC x c hc⟩ hs,by simpa using I.len⟩ ⟨c,hs,.inr hc⟩
  ·exact (hs.2 b (Nat.ne_of_lt (Nat.lt_of_lt_of_le (Heap.lt_size e) (I.ok.cab x c hfn hc)))).trans (I.base.keep b o e n hb hx)
  ·obtain ⟨sl,e1⟩ := I.base.slot b o e n hb hx
   exact ⟨sl,(hs.2 b (Nat.ne_of_lt (Nat.lt_of_lt_of_le (Heap.lt_size e) (I.ok.cab x c hfn hc)))).trans e1⟩
  ·obtain ⟨o',e1⟩ := I.base.there b o e hx
   exact ⟨o',(hs.2 b (Nat.ne_of_lt (Nat.lt_of_lt_of_le (Heap.lt_size e) (I.ok.cab x c hfn hc)))).trans e1⟩
  ·by_cases hj : j = i
   ·subst hj
    rw [hi] at e1; cases e1
    rw [List.getElem?_set_self hiσ] at e2
    cases e2
    exact ⟨u,r,.inr ⟨.inl hk,c,hc,hc'⟩⟩
   ·rw [List.getElem?_set_ne (Ne.symm hj)] at e2
    obtain ⟨u',r',q⟩ := hl j y v' e1 e2 e3
    refine ⟨u',r',?_⟩
    rcases q with q | ⟨k,c',e,z'⟩
    ·exact .inl q
    ·refine .inr ⟨k,c',e,z'.sameBut hs ?_⟩
     rintro rfl
     exact hj (qY hN e1 (I.ok.inj _ _ _ e hc ▸ hi))
  ·by_cases hcc : c' = c
   ·subst hcc; exact ⟨_,hc'⟩
   ·obtain ⟨w2,z2⟩ := I.cell y c' e
    exact ⟨w2,z2.sameBut hs hcc⟩
  ·obtain ⟨e,n,ne,nf,d⟩ := I.pin p hp
   refine ⟨(hs.2 p.1 ?_).trans e,n,ne,nf,d⟩
   intro q
   rw [q,hoc] at e
   have q' : oc = p.2 := Option.some.inj e
   exact d w' (by rw [← q']; exact hocd)
theorem kB {M : Model} {A : Around} {E : Value → Shared → Prop} {i : Nat} {x : Str} {v : V} {u : Value} {Q : Unit → Shared → Prop} (I : Inv X pins σ H s) (hN : X.N.Nodup) (hi : X.N[i]? = some x) (hx : yZ X.env.scope x) (r : RelV v u)
  (h : ∀ s',Inv X pins (σ.set i (some v)) H s' → Q () s') (hf : X.fn x = true ∨ X.env.scope.names.lookup x = some .local := by first | exact .inl rfl | exact .inr rfl | assumption) : wpAny M A (storeName X.env x u) Q E s :=
 fY I hN hi hx r (fun s' I' _=>h s' I') hf
theorem Inv.call' {s' : Shared} {ch : List Addr} (I : Inv X pins σ H s) (ho : s'.os = s.os) (u : Un (V9 X.stack) ch H H' s.heap s'.heap) (hok : HOk X.prog X.w H' s'.heap) (hg : AllBare s'.gens)
  (hch : ∀ b ∈ ch,(b ∈ X.ex ∨ X.s₀.heap.objs.size ≤ b) ∧ b ≠ X.env.locals ∧ (∀ x c,X.env.cells.lookup x = some c → c ≠ b) ∧ ∀ p ∈ X.pn ++ pins,p.1 ≠ b) : Inv X pins σ H' s' := by
 obtain ⟨h',g',d',t',o'⟩ := s'
 have e : o' = s.os := ho
 subst e
 exact I.call (g' := g') (t' := t') (d' := d') u hok hg hch
end
abbrev XK := Value → Option Addr → Hp → Prop
abbrev St := List (Option V)
abbrev VK := V → Hp → Prop
abbrev TE := St → Hp → VK → Prop
abbrev TT := St → Hp → (Bool → Hp → Prop) → Prop
abbrev TA := St → Hp → (List V → Hp → Prop) → Prop
structure iD where
 nx : St → Hp → Prop
 rt : VK
 bk : St → Hp → Prop := fun _ _=>False
 ct : St → Hp → Prop := fun _ _=>False
abbrev TS := iD → St → Hp → Prop
def EP (X : Cx) (pins : List (Addr × Obj)) (σ : St) (Q : VK) (u : Value) (s' : Shared) : Prop := ∃ v H',Inv X pins σ H' s' ∧ RelV v u ∧ Q v H'
def TP (X : Cx) (pins : List (Addr × Obj)) (σ : St) (Q : Bool → Hp → Prop) (b : Bool) (s' : Shared) : Prop := ∃ H',Inv X pins σ H' s' ∧ Q b H'
def AP (X : Cx) (pins : List (Addr × Obj)) (σ : St) (Q : List V → Hp → Prop) (us : List Value) (s' : Shared) : Prop := ∃ vs H',Inv X pins σ H' s' ∧ Vals vs us ∧ Q vs H'
def SP (X : Cx) (pins : List (Addr × Obj)) (D : iD) (f : Flow) (s' : Shared) : Prop :=
 match f with
 | .next=>∃ σ' H',Inv X pins σ' H' s' ∧ D.nx σ' H'
 | .brk=>∃ σ' H',Inv X pins σ' H' s' ∧ D.bk σ' H'
 | .cont=>∃ σ' H',Inv X pins σ' H' s' ∧ D.ct σ' H'
 | .ret u=>∃ v σ' H',Inv X pins σ' H' s' ∧ RelV v u ∧ D.rt v H'
def PE (X : Cx) (e : Expr) (t : TE) : Prop :=
 ∀ (pins : List (Addr × Obj)) (s : Shared) (σ : St) (H : Hp) (Q : VK),Inv X pins σ H s → t σ H Q → wpAny (model X.prog X.w) X.A (eval e X.env) (EP X pins σ Q) X.xe s
def PT (X : Cx) (e : Expr) (t : TT) : Prop :=
 ∀ (pins : List (Addr × Obj)) (s : Shared) (σ : St) (H : Hp) (Q : Bool → Hp → Prop),Inv X pins σ H s → t σ H Q → wpAny (model X.prog X.w) X.A (isTrue e X.env (eval e X.env)) (TP X pins σ Q) X.xe s
def PW (X : Cx) (e : Expr) (t : TT) : Prop :=
 ∀ (whole : Sem Value) (pins : List (Addr × Obj)) (s : Shared) (σ : St) (H : Hp) (Q : Bool → Hp → Prop),Inv X pins σ H s → t σ H Q → wpAny (model X.prog X.w) X.A (isTrue e X.env whole) (TP X pins σ Q) X.xe s
theorem PW.pt {X : Cx} {e : Expr} {t : TT} (h : PW X e t) : PT X e t := h _
def PA (X : Cx) (es : List Expr) (t : TA) : Prop :=
 ∀ (pos : Pos) (pins : List (Addr × Obj)) (s : Shared) (σ : St) (H : Hp) (Q : List V → Hp → Prop),Inv X pins σ H s → t σ H Q → wpAny (model X.prog X.w) X.A (spliced (backTo pos (starEach es X.env))) (AP X pins σ Q) X.xe s
def PS (X : Cx) (st : Stmt) (t : TS) : Prop :=
 ∀ (pins : List (Addr × Obj)) (s : Shared) (σ : St) (H : Hp) (D : iD),Inv X pins σ H s → t D σ H → wpAny (model X.prog X.w) X.A (exec st X.env) (SP X pins D) X.xe s
def PSs (X : Cx) (st : List Stmt) (t : TS) : Prop :=
 ∀ (pins : List (Addr × Obj)) (s : Shared) (σ : St) (H : Hp) (D : iD),Inv X pins σ H s → t D σ H → wpAny (model X.prog X.w) X.A (execs st X.env) (SP X pins D) X.xe s
theorem D8 {α : Type} {t : Sem α} {Q Q' : α → Shared → Prop} {M : Model} {A : Around} {E : Value → Shared → Prop} {s : Shared} (h : wpAny M A t Q E s) (hQ : ∀ a s,Q a s → Q' a s) : wpAny M A t Q' E s := wpAny_mono h hQ fun _ _ x=>x
end L2
namespace L2
open PySem PySem.Spec PyProof.Rows
section
variable {X : Cx}
def uI (i : Nat) : TE := fun σ H Q=>∃ v,σ[i]? = some (some v) ∧ Q v H
def tC (v : V) : TE := fun _ H Q=>Q v H
theorem AQ4 {i : Nat} {x : Str} {pos : Pos} (hN : X.N[i]? = some x) (hv : rV X.env.scope x) (hd : (x == ("__debug__" : Str)) = false := by decide) (hcd : (x == ("__classdict__" : Str)) = false := by decide) : PE X (.Name x pos) (uI i) := by
 intro pins s σ H Q I h
 obtain ⟨v,e,h⟩ := h
 obtain ⟨m,hn,hl⟩ := I.loc
 obtain ⟨u,r,l⟩ := hl i x v hN e hv
 have fin : EP X pins σ Q u s := ⟨v,H,I,r,h⟩
 rcases l with ⟨hk,hm⟩ | ⟨hk,c,hc,hcell⟩
 ·exact wpAny_Name (wpAny_loadName_local I.ok.kind hk hn hm fin) hd
 ·rcases hk with hk | hk
  ·exact wpAny_Name (wpAny_loadName_cell I.ok.kind hk hc hcell fin) hd
  ·exact wpAny_Name (wpAny_loadName_free I.ok.kind hk hc hcell fin hcd) hd
theorem B7 {i j pos} : PE X (.Constant (.int i) j pos) (tC (.int i)) := fun _ _ _ H _ I h=>wpAny_Constant_int ⟨.int i,H,I.tok _,⟨_,rfl⟩,h⟩
theorem Z3 {b j pos} : PE X (.Constant (.bool b) j pos) (tC (.bl b)) := fun _ _ _ H _ I h=>Constant_bool ⟨.bl b,H,I,rfl,h⟩
theorem N2 {j pos} : PE X (.Constant .none j pos) (tC .non) := fun _ _ _ H _ I h=>Constant_none ⟨.non,H,I,rfl,h⟩
theorem B9 {x j pos} : PE X (.Constant (.str x) j pos) (tC (.str x)) := fun _ _ _ H _ I h=>Calls.Constant_str ⟨.str x,H,I.tok _,⟨_,rfl⟩,h⟩
def Gl (X : Cx) (x : Str) : Prop := X.env.kindOf x = some .globalImplicit
theorem Z1 {E : Value → Shared → Prop} {pins : List (Addr × Obj)} {s : Shared} {σ : St} {H : Hp} {x : Str} {u : Value} {pos : Pos} {Q : Value → Shared → Prop} (I : Inv X pins σ H s) (hg : Gl X x) (hm : X.mg x = some u) (h : Q u s)
  (hd : (x == ("__debug__" : Str)) = false := by decide) : wpAny (model X.prog X.w) X.A (eval (.Name x pos) X.env) Q E s :=
 Calls.Name_function_global I.ok.kind hg (Calls.loadGlobal_global (by rw [I.ok.glob]; exact I.mod.glob.keeps I.bk) hm h) hd
theorem bR {E : Value → Shared → Prop} {pins : List (Addr × Obj)} {s : Shared} {σ : St} {H : Hp} {x : Str} {u : Value} {pos : Pos} {Q : Value → Shared → Prop} (I : Inv X pins σ H s) (hg : Gl X x) (hm : X.mg x = none) (hv : bootBuiltins x = some u) (h : Q u s)
  (hn : x ≠ "__name__" := by decide) (hd : (x == ("__debug__" : Str)) = false := by decide) : wpAny (model X.prog X.w) X.A (eval (.Name x pos) X.env) Q E s := by
 obtain ⟨mb,h1,h2⟩ := I.mod.blt
 exact Calls.Name_function_global I.ok.kind hg (Calls.loadGlobal_builtin (by rw [I.ok.glob]; exact I.mod.glob.keeps I.bk) hm (by rw [I.ok.blt]; exact h1.keeps I.bk) ((h2 x hn).trans hv) h) hd
theorem Y9 {x : Str} {v : V} {u : Value} {pos : Pos} (hg : Gl X x) (hm : X.mg x = some u) (r : RelV v u) (hd : (x == ("__debug__" : Str)) = false := by decide) : PE X (.Name x pos) (tC v) :=
 fun _ _ _ H _ I h=>Z1 I hg hm ⟨v,H,I,r,h⟩ hd
theorem nM {x : Str} {v : V} {u : Value} {pos : Pos} (hg : Gl X x) (hm : X.mg x = none) (hv : bootBuiltins x = some u) (r : RelV v u) (hn : x ≠ "__name__" := by decide) (hd : (x == ("__debug__" : Str)) = false := by decide) : PE X (.Name x pos) (tC v) :=
 fun _ _ _ H _ I h=>bR I hg hm hv ⟨v,H,I,r,h⟩ hn hd
variable {a b : Expr} {ta tb : TE} {pos : Pos}
def PC (X : Cx) (op : CmpOp) (a b : Expr) (t : TE) : Prop :=
 ∀ (pins : List (Addr × Obj)) (s : Shared) (σ : St) (H : Hp) (Q : VK),Inv X pins σ H s → t σ H Q →
  wpAny (model X.prog X.w) X.A (eval a X.env) (fun v s₁=>wpAny (model X.prog X.w) X.A (eval b X.env) (fun u s₂=>wpAny (model X.prog X.w) X.A (compareOp op v u) (EP X pins σ Q) X.xe s₂) X.xe s₁) X.xe s
def tB (t : TE) : TT := fun σ H Q=>t σ H fun x H1=>∃ c,x = .bl c ∧ Q c H1
theorem wS {op : CmpOp} {t : TE} (h : PC X op a b t) (h1 : behindInMarks op b = false := by first | exact nobehind _ (by decide) (by decide) | rfl) : PT X (.Compare a [op] [b] pos) (tB t) := by
 intro pins s σ H Q I hw
 refine wpAny_isTrue_Compare1 (D8 (h pins s σ H _ I hw) fun v s1 h1=>D8 h1 fun u s2 h2=>D8 h2 fun c s3 ⟨x,H1,I1,r1,q1⟩=>?_) h1
 obtain ⟨d,rfl,q⟩ := q1
 cases r1
 exact wpAny_truthy_bool ⟨H1,I1,q⟩
theorem O7 {e : Expr} {t : TE} (h : PE X e t) (he : ∀ whole,isTrue e X.env whole = (do let v ← whole; standAt e.pos; holding [v] (truthy v)) := by intro _; rfl) : PT X e (tB t) := by
 intro pins s σ H Q I hw
 refine isTrue_plain (D8 (h pins s σ H _ I hw) fun v s1 ⟨x,H1,I1,r1,q1⟩=>?_) (he _)
 obtain ⟨d,rfl,q⟩ := q1
 cases r1
 exact wpAny_truthy_bool ⟨H1,I1,q⟩
variable {tA tB' : TT} {rest : List Expr}
def BD2 (t u : TT) : TT := fun σ H Q=>t σ H fun c H1=>if c = true then u σ H1 Q else Q false H1
def tOr (t u : TT) : TT := fun σ H Q=>t σ H fun c H1=>if c = true then Q true H1 else u σ H1 Q
def BC5 (t : TT) : TT := fun σ H Q=>t σ H fun c H1=>Q (!c) H1
theorem jA (ha : PT X a tA) : PW X (.BoolOp .And [a] pos) tA := by
 intro wh pins s σ H Q I h
 refine isTrue_and (D8 (ha pins s σ H Q I h) fun c s1 e=>?_)
 cases c with
 | true=>exact isTrue_and_nil e
 | false=>exact e
theorem lH (ha : PT X a tA) : PW X (.BoolOp .Or [a] pos) tA := by
 intro wh pins s σ H Q I h
 refine isTrue_or (D8 (ha pins s σ H Q I h) fun c s1 e=>?_)
 cases c with
 | false=>exact isTrue_or_nil e
 | true=>exact e
theorem lJ (ha : PT X a tA) (hb : PW X (.BoolOp .And (b :: rest) pos) tB') : PW X (.BoolOp .And (a :: b :: rest) pos) (BD2 tA tB') := by
 intro wh pins s σ H Q I h
 refine isTrue_and (D8 (ha pins s σ H _ I h) fun c s1 ⟨H1,I1,q1⟩=>?_)
 cases c with
 | true=>exact hb wh pins s1 σ H1 Q I1 q1
 | false=>exact ⟨H1,I1,q1⟩
theorem lI (ha : PT X a tA) (hb : PW X (.BoolOp .Or (b :: rest) pos) tB') : PW X (.BoolOp .Or (a :: b :: rest) pos) (tOr tA tB') := by
 intro wh pins s σ H Q I h
 refine isTrue_or (D8 (ha pins s σ H _ I h) fun c s1 ⟨H1,I1,q1⟩=>?_)
 cases c with
 | true=>exact ⟨H1,I1,q1⟩
 | false=>exact hb wh pins s1 σ H1 Q I1 q1
theorem dS (ha : PT X a tA) : PT X (.UnaryOp .Not a pos) (BC5 tA) := by
 intro pins s σ H Q I h
 exact isTrue_not (ha pins s σ H (fun c H1=>Q (!c) H1) I h)
def AE1 (ta tb : TE) : TE := fun σ H Q=>ta σ H fun x H1=>∃ c,x = .bl c ∧ if c = true then tb σ H1 Q else Q (.bl false) H1
def BC4 (ta tb : TE) : TE := fun σ H Q=>ta σ H fun x H1=>∃ c,x = .bl c ∧ if c = true then Q (.bl true) H1 else tb σ H1 Q
def AX4 (ta : TE) : TE := fun σ H Q=>ta σ H fun x H1=>∃ c,x = .bl c ∧ Q (.bl (!c)) H1
theorem aD {op} {t : TE} (h : PE X a t) : PE X (.BoolOp op [a] pos) t := fun pins s σ H Q I hw=>BoolOp_one (h pins s σ H Q I hw)
theorem bJ (ha : PE X a ta) (hb : PE X (.BoolOp .And (b :: rest) pos) tb) : PE X (.BoolOp .And (a :: b :: rest) pos) (AE1 ta tb) := by
 intro pins s σ H Q I h
 refine BoolOp_and (D8 (ha pins s σ H _ I h) fun v s1 ⟨x,H1,I1,r1,q1⟩=>?_)
 obtain ⟨c,rfl,q1⟩ := q1
 cases r1
 refine wpAny_truthy_bool ?_
 cases c with
 | true=>exact hb pins s1 σ H1 Q I1 q1
 | false=>exact ⟨.bl false,H1,I1,rfl,q1⟩
theorem AE9 (ha : PE X a ta) (hb : PE X (.BoolOp .Or (b :: rest) pos) tb) : PE X (.BoolOp .Or (a :: b :: rest) pos) (BC4 ta tb) := by
 intro pins s σ H Q I h
 refine BoolOp_or (D8 (ha pins s σ H _ I h) fun v s1 ⟨x,H1,I1,r1,q1⟩=>?_)
 obtain ⟨c,rfl,q1⟩ := q1
 cases r1
 refine wpAny_truthy_bool ?_
 cases c with
 | false=>exact hb pins s1 σ H1 Q I1 q1
 | true=>exact ⟨.bl true,H1,I1,rfl,q1⟩
theorem wU (ha : PE X a ta) : PE X (.UnaryOp .Not a pos) (AX4 ta) := by
 intro pins s σ H Q I h
 refine UnaryOp_ (D8 (ha pins s σ H _ I h) fun v s1 ⟨x,H1,I1,r1,q1⟩=>?_)
 obtain ⟨c,rfl,q1⟩ := q1
 cases r1
 exact not_of (wpAny_truthy_bool ⟨.bl (!c),H1,I1,rfl,q1⟩)
def tIf (t : TT) (ta tb : TE) : TE := fun σ H Q=>t σ H fun c H1=>if c = true then ta σ H1 Q else tb σ H1 Q
theorem eZ {c : Expr} (hc : PT X c tA) (ha : PE X a ta) (hb : PE X b tb) : PE X (.IfExp c a b pos) (tIf tA ta tb) := by
 intro pins s σ H Q I h
 refine wpAny_IfExp (D8 (hc pins s σ H _ I h) fun d s1 ⟨H1,I1,q1⟩=>?_)
 cases d with
 | true=>exact ha pins s1 σ H1 Q I1 q1
 | false=>exact hb pins s1 σ H1 Q I1 q1
end
end L2
namespace L2
open PySem PySem.Spec PyProof.Rows
def SqL (K : PySem.W.Frag) (H : Hp) (a : Addr) (xs : List V) : Prop :=
 Rd H a (.lst xs) ∨
  ∃ (o : Obj) (its : Array Value) (n : Nat),K.lookup a = some o ∧ o.cls = .type "list" ∧ o.dict = none ∧ o.data = .seq its n ∧ its.size ≤ sizeLine ∧ Vals xs its.toList
def SqT (K : PySem.W.Frag) (H : Hp) (a : Addr) (xs : List V) : Prop :=
 Rd H a (.tup xs) ∨
  ∃ (o : Obj) (its : Array Value) (n : Nat),K.lookup a = some o ∧ o.cls = .type "tuple" ∧ o.data = .seq its n ∧ its.size ≤ sizeLine ∧ Vals xs its.toList
def BG6 : Value → Option V
 | .none=>some .non
 | .bool b=>some (.bl b)
 | .int i _=>some (.int i)
 | .str x _=>some (.str x)
 | .bytes b _=>some (.byt b)
 | .float b _=>some (.flt b)
 | .ref a=>some (.ref a)
 | .type n=>some (.ty n)
 | _=>none
theorem RelV.abs {x : V} {u : Value} (r : RelV x u) : BG6 u = some x := by
 cases x with
 | non=>cases r; rfl
 | bl _=>cases r; rfl
 | int _=>obtain ⟨t,rfl⟩ := r; rfl
 | str _=>obtain ⟨t,rfl⟩ := r; rfl
 | byt _=>obtain ⟨t,rfl⟩ := r; rfl
 | flt _=>obtain ⟨t,rfl⟩ := r; rfl
 | ref _=>cases r; rfl
 | ty _=>cases r; rfl
theorem RelV.inj {x y : V} {u : Value} (r : RelV x u) (q : RelV y u) : x = y := Option.some.inj (r.abs.symm.trans q.abs)
theorem Vals.inj : ∀ {xs ys : List V} {us : List Value},Vals xs us → Vals ys us → xs = ys
 | _,_,_,.nil,.nil=>rfl
 | _,_,_,.cons r t,.cons r' t'=>by rw [r.inj r',Vals.inj t t']
section
variable {X : Cx} {pins : List (Addr × Obj)} {σ : St} {H : Hp} {s : Shared} {a : Addr} {xs ys : List V}
theorem SqL.of {K : PySem.W.Frag} (h : H a = some (.lst xs)) : SqL K H a xs := .inl (.inl h)
theorem SqT.of {K : PySem.W.Frag} (h : H a = some (.tup xs)) : SqT K H a xs := .inl (.inl h)
theorem Inv.list (I : Inv X pins σ H s) (h : SqL X.K H a xs) : ∃ its : List Value,Vals xs its ∧ PlainL s.heap a its.toArray ∧ xs.length ≤ sizeLine := by
 rcases h with h | ⟨o,its,n,hk,hc,hd,hs,hz,r⟩
 ·obtain ⟨z,its,n,r,e⟩ := h.ok I.hok
  exact ⟨its,r,⟨_,n,e,rfl,rfl,rfl⟩,z⟩
 ·refine ⟨its.toList,r,⟨o,n,I.kIn a o hk,hc,hd,by simpa using hs⟩,?_⟩
  have e := r.length
  simp only [Array.length_toList] at e
  omega
theorem Inv.tuple (I : Inv X pins σ H s) (h : SqT X.K H a xs) : ∃ its : List Value,Vals xs its ∧ IsTup s.heap a its.toArray ∧ xs.length ≤ sizeLine := by
 rcases h with h | ⟨o,its,n,hk,hc,hs,hz,r⟩
 ·obtain ⟨z,its,r,p⟩ := h.ok I.hok
  exact ⟨its,r,p,z⟩
 ·refine ⟨its.toList,r,⟨o,I.kIn a o hk,hc,n,by simpa using hs⟩,?_⟩
  have e := r.length
  simp only [Array.length_toList] at e
  omega
theorem Inv.list_inj (I : Inv X pins σ H s) (h : SqL X.K H a xs) (h' : SqL X.K H a ys) : xs = ys := by
 obtain ⟨its,r,⟨o,n,e,_,_,d⟩,_⟩ := I.list h
 obtain ⟨its',r',⟨o',n',e',_,_,d'⟩,_⟩ := I.list h'
 rw [e] at e'; cases e'
 rw [d] at d'
 injection d' with d1 _
 have : its = its' := by simpa using congrArg Array.toList d1
 subst this
 exact r.inj r'
end
abbrev Cx.wish (X : Cx) (E : Value → Shared → Prop) : Cx := { X with xe := E }
abbrev Cx.nox (X : Cx) : Cx := X.wish fun _ _=>False
theorem Cx.Ok.wish {X : Cx} (ok : X.Ok) (E : Value → Shared → Prop) : (X.wish E).Ok :=
 ⟨ok.mod,ok.kind,ok.glob,ok.blt,ok.above,ok.inj,ok.has,ok.cab,ok.hd,ok.frames,ok.stk,ok.exf,ok.bs,ok.bsz,ok.noex,ok.exfs,ok.funs,ok.frf⟩
theorem Cx.Ok.unwish {X : Cx} {E : Value → Shared → Prop} (ok : (X.wish E).Ok) : X.Ok :=
 ⟨ok.mod,ok.kind,ok.glob,ok.blt,ok.above,ok.inj,ok.has,ok.cab,ok.hd,ok.frames,ok.stk,ok.exf,ok.bs,ok.bsz,ok.noex,ok.exfs,ok.funs,ok.frf⟩
section
variable {X : Cx} {pins : List (Addr × Obj)} {σ : St} {H : Hp} {s : Shared} {E : Value → Shared → Prop}
theorem Inv.wish (I : Inv X pins σ H s) (E : Value → Shared → Prop) : Inv (X.wish E) pins σ H s := ⟨I.ok.wish E,I.os,I.bare,I.base,I.loc,I.cell,I.free,I.freeC,I.pin,I.hok,I.len⟩
theorem Inv.unwish (I : Inv (X.wish E) pins σ H s) : Inv X pins σ H s := ⟨I.ok.unwish,I.os,I.bare,I.base,I.loc,I.cell,I.free,I.freeC,I.pin,I.hok,I.len⟩
theorem SP.unwish {D : iD} {f : Flow} {s' : Shared} (h : SP (X.wish E) pins D f s') : SP X pins D f s' := by
 cases f with
 | next=>obtain ⟨σ',H',I,q⟩ := h; exact ⟨σ',H',I.unwish,q⟩
 | brk=>obtain ⟨σ',H',I,q⟩ := h; exact ⟨σ',H',I.unwish,q⟩
 | cont=>obtain ⟨σ',H',I,q⟩ := h; exact ⟨σ',H',I.unwish,q⟩
 | ret u=>obtain ⟨v,σ',H',I,r,q⟩ := h; exact ⟨v,σ',H',I.unwish,r,q⟩
theorem PSs.nox {st : List Stmt} {t : TS} (h : PSs X.nox st t) : PSs X st t := fun pins s σ H D I hw =>
 wpAny_mono (h pins s σ H D (I.wish _) hw) (fun _ _ q=>q.unwish) fun _ _ z=>False.elim z
end
section
variable {X : Cx} {st : Stmt} {rest : List Stmt} {t u : TS} {e : Expr} {te : TE} {pos : Pos}
def AX5 : TS := fun D σ H=>D.nx σ H
def qA (t u : TS) : TS := fun D σ H=>t { D with nx := u D } σ H
theorem E4 : PSs X [] AX5 := fun _ _ σ H _ I h=>wpAny_execs_nil ⟨σ,H,I,h⟩
theorem B2 (h1 : PS X st t) (h2 : PSs X rest u) : PSs X (st :: rest) (qA t u) := by
 intro pins s σ H D I h
 refine wpAny_execs_cons (D8 (h1 pins s σ H { D with nx := u D } I h) fun f s1 q=>?_)
 cases f with
 | next =>
  obtain ⟨σ',H',I',q⟩ := q
  exact h2 pins s1 σ' H' D I' q
 | ret v=>exact q
 | brk=>exact q
 | cont=>exact q
theorem B4 (h1 : PS X st t) : PSs X [st] t := by
 intro pins s σ H D I h
 refine wpAny_execs_cons (D8 (h1 pins s σ H D I h) fun f s1 q=>?_)
 cases f with
 | next=>exact wpAny_execs_nil q
 | ret v=>exact q
 | brk=>exact q
 | cont=>exact q
theorem Inv.quiet {pins : List (Addr × Obj)} {σ : St} {H : Hp} {s : Shared} (I : Inv X pins σ H s) : interactive X.env = false := by simp [interactive,I.ok.kind]
def AX6 (te : TE) : TS := fun D σ H=>te σ H fun _ H1=>D.nx σ H1
theorem G4 (he : PE X e te) (hs : swapsWith e none pos.line X.env = pure false := by rfl) : PS X (.Expr e pos) (AX6 te) := by
 intro pins s σ H D I h
 exact wpAny_Expr_any (D8 (he pins s σ H _ I h) fun v s1 ⟨x,H1,I1,r1,q1⟩=>⟨σ,H1,I1,q1⟩) I.quiet hs
def BC3 (te : TE) : TS := fun D σ H=>te σ H D.rt
theorem D4 (he : PE X e te) : PS X (.Return (some e) pos) (BC3 te) := by
 intro pins s σ H D I h
 exact wpAny_Return_some (D8 (he pins s σ H _ I h) fun v s1 ⟨x,H1,I1,r1,q1⟩=>⟨x,σ,H1,I1,r1,q1⟩)
def BC6 (c : TT) (t u : TS) : TS := fun D σ H=>c σ H fun b H1=>if b = true then t D σ H1 else u D σ H1
theorem G3 {c : Expr} {a b : List Stmt} {tc : TT} (hc : PT X c tc) (ha : PSs X a t) (hb : PSs X b u) : PS X (.If c a b pos) (BC6 tc t u) := by
 intro pins s σ H D I h
 refine wpAny_If (D8 (hc pins s σ H _ I h) fun d s1 ⟨H1,I1,q1⟩=>?_)
 cases d with
 | true=>exact ha pins s1 σ H1 D I1 q1
 | false=>exact hb pins s1 σ H1 D I1 q1
end
abbrev TG := V → St → Hp → (St → Hp → Prop) → Prop
abbrev mM := List V → St → Hp → (St → Hp → Prop) → Prop
def PG (X : Cx) (target : Expr) (t : TG) : Prop :=
 ∀ (pins : List (Addr × Obj)) (s : Shared) (σ : St) (H : Hp) (v : V) (u : Value) (Q : St → Hp → Prop),Inv X pins σ H s → RelV v u → t v σ H Q →
  wpAny (model X.prog X.w) X.A (assign target X.env u) (fun _ s'=>∃ σ' H',Inv X pins σ' H' s' ∧ Q σ' H') X.xe s
def PGs (X : Cx) (ts : List Expr) (t : mM) : Prop :=
 ∀ (pins : List (Addr × Obj)) (s : Shared) (σ : St) (H : Hp) (vs : List V) (us : List Value) (Q : St → Hp → Prop),Inv X pins σ H s → Vals vs us → t vs σ H Q →
  wpAny (model X.prog X.w) X.A (assignInOrder ((assignEach ts X.env).map (·.2)) us) (fun _ s'=>∃ σ' H',Inv X pins σ' H' s' ∧ Q σ' H') X.xe s
abbrev AD5 := V → V → V → Hp → (Hp → Prop) → Prop
def AV7 (X : Cx) (t : AD5) : Prop :=
 ∀ (pins : List (Addr × Obj)) (s : Shared) (σ : St) (H : Hp) (o i v : V) (ov iv u : Value) (Q : Hp → Prop),Inv X pins σ H s → RelV o ov → RelV i iv → RelV v u → t o i v H Q →
  wpAny (model X.prog X.w) X.A (setItem ov iv u) (fun _ s'=>∃ H',Inv X pins σ H' s' ∧ Q H') X.xe s
abbrev yT := V → V → Hp → VK → Prop
def PIp (X : Cx) (op : Operator) (t : yT) : Prop :=
 ∀ (pins : List (Addr × Obj)) (s : Shared) (σ : St) (H : Hp) (x y : V) (v u : Value) (Q : VK),Inv X pins σ H s → RelV x v → RelV y u → t x y H Q →
  wpAny (model X.prog X.w) X.A (inplaceOp op v u) (EP X pins σ Q) X.xe s
section
variable {X : Cx} {pos : Pos}
def R1 (i : Nat) : TG := fun v σ H Q=>Q (σ.set i (some v)) H
theorem M3 {i : Nat} {x : Str} (hN : X.N.Nodup) (hi : X.N[i]? = some x) (hx : yZ X.env.scope x) (hf : X.fn x = true ∨ X.env.scope.names.lookup x = some .local := by first | exact .inl rfl | exact .inr rfl | assumption) : PG X (.Name x pos) (R1 i) := by
 intro pins s σ H v u Q I r h
 exact wpAny_assign_Name (kB I hN hi hx r (fun s' I'=>⟨_,H,I',h⟩) hf)
def AT9 : mM := fun vs σ H Q=>vs = [] ∧ Q σ H
def vI (t : TG) (u : mM) : mM := fun vs σ H Q=>∃ v r,vs = v :: r ∧ t v σ H fun σ' H'=>u r σ' H' Q
theorem nK : PGs X [] AT9 := by
 intro pins s σ H vs us Q I r h
 obtain ⟨e,h⟩ := h
 subst e
 cases r
 exact assignInOrder_nil ⟨σ,H,I,h⟩
theorem Y8 {e : Expr} {es : List Expr} {t : TG} {u : mM} (h1 : PG X e t) (h2 : PGs X es u)
  (hs : (assignEach (e :: es) X.env).map (·.2) = assign e X.env :: (assignEach es X.env).map (·.2) := by rfl) : PGs X (e :: es) (vI t u) := by
 intro pins s σ H vs us Q I r h
 obtain ⟨v,vr,e1,h⟩ := h
 subst e1
 cases r with
 | cons r rr =>
  rw [hs]
  refine assignInOrder_cons (D8 (h1 pins s σ H _ _ _ I r h) fun _ s1 ⟨σ1,H1,I1,q1⟩=>?_)
  exact h2 pins s1 σ1 H1 _ _ Q I1 rr q1
def AT8 (K : PySem.W.Frag) (n : Nat) (t : mM) : TG := fun v σ H Q=>∃ a xs,v = .ref a ∧ SqT K H a xs ∧ xs.length = n ∧ t xs σ H Q
theorem qM {es : List Expr} {k : Nat} {t : mM} {n : Nat} (hc : X.calm = true) (h : PGs X es t)
  (hn : (assignEach es X.env).length = n := by rfl) (hst : (assignEach es X.env).findIdx? (·.1) = none := by rfl) : PG X (.Tuple es k pos) (AT8 X.K n t) := by
 intro pins s σ H v u Q I r hw
 obtain ⟨a,xs,e1,hq,hl,hw⟩ := hw
 subst e1
 cases r
 obtain ⟨its,rv,ht,hz⟩ := I.tuple hq
 refine assign_Tuple_tuple (I.ok.hd hc) ht (by simp [hn,← hl,rv.length]) hst fun h' hx=>?_
 have I1 : Inv X pins σ H { s with heap := h' } := I.kept (t' := s.toks) fun b o e=>hx b o (Nat.ne_of_lt (Heap.lt_size e)) e
 exact h pins _ σ H xs _ Q I1 (by simpa using rv) hw
def BF9 (to ti : TE) (t : AD5) : TG := fun v σ H Q=>to σ H fun o H1=>ti σ H1 fun i H2=>t o i v H2 fun H3=>Q σ H3
theorem AQ3 {o i : Expr} {to ti : TE} {t : AD5} (ho : PE X o to) (hi : PE X i ti) (hs : AV7 X t)
  (ha : ∀ v,assign (.Subscript o i pos) X.env v = (do
   let ov ← holding [v] (eval o X.env)
   let iv ← holding [v,ov] (eval i X.env)
   standAt pos
   holding [v,ov,iv] (setItem ov iv v)
   release [v,ov,iv] []) := by intro _; rfl) : PG X (.Subscript o i pos) (BF9 to ti t) := by
 intro pins s σ H v u Q I r h
 rw [ha]
 refine wpAny_bind (wpAny_holding (D8 (ho pins s σ H _ I h) fun ov s1 ⟨x,H1,I1,r1,q1⟩=>?_))
 refine wpAny_bind (wpAny_holding (D8 (hi pins s1 σ H1 _ I1 q1) fun iv s2 ⟨y,H2,I2,r2,q2⟩=>?_))
 refine wpAny_bind (wpAny_standAt (wpAny_bind (wpAny_holding (D8 (hs pins s2 σ H2 x y v ov iv u _ I2 r1 r2 r q2) fun _ s3 ⟨H3,I3,q3⟩=>?_))))
 exact wpAny_release ⟨σ,H3,I3,q3⟩
def kA (te : TE) (g : TG) : TS := fun D σ H=>te σ H fun x H1=>g x σ H1 D.nx
theorem AQ1 {tg e : Expr} {te : TE} {g : TG} (he : PE X e te) (hg : PG X tg g) (hs : swapsWithSole [tg] e pos.line X.env = pure false := by rfl) (hw : swappedStores [tg] e X.env = pure none := by rfl)
  (h1 : (assignEach [tg] X.env).map (·.2) = [assign tg X.env] := by rfl) : PS X (.Assign [tg] e pos) (kA te g) := by
 intro pins s σ H D I h
 refine wpAny_Assign_stores (D8 (he pins s σ H _ I h) fun v s1 ⟨x,H1,I1,r1,q1⟩=>?_) hs hw
 rw [h1]
 exact D8 (hg pins s1 σ H1 x v _ I1 r1 q1) fun _ s2 q=>q
theorem D3 {i : Nat} {x : Str} {e : Expr} {te : TE} {pos' : Pos} (hN : X.N.Nodup) (hi : X.N[i]? = some x) (hx : yZ X.env.scope x) (he : PE X e te) (hs : swapsWith e (some (.Name x pos')) pos.line X.env = pure false := by rfl) (hf : X.fn x = true ∨ X.env.scope.names.lookup x = some .local := by first | exact .inl rfl | exact .inr rfl | assumption) :
  PS X (.Assign [.Name x pos'] e pos) (kA te (R1 i)) := by
 intro pins s σ H D I h
 refine wpAny_Assign_Name (D8 (he pins s σ H _ I h) fun v s1 ⟨y,H1,I1,r1,q1⟩=>?_) hs
 exact kB I1 hN hi hx r1 (fun s2 I2=>⟨_,H1,I2,q1⟩) hf
def qC (i : Nat) (te : TE) (ti : yT) : TS := fun D σ H=>∃ x,σ[i]? = some (some x) ∧ te σ H fun y H1=>ti x y H1 fun z H2=>D.nx (σ.set i (some z)) H2
theorem X9 {i : Nat} {x : Str} {e : Expr} {te : TE} {op : Operator} {ti : yT} {pos' : Pos} (hN : X.N.Nodup) (hi : X.N[i]? = some x) (hx : yZ X.env.scope x) (he : PE X e te) (ho : PIp X op ti) (hf : X.fn x = true ∨ X.env.scope.names.lookup x = some .local := by first | exact .inl rfl | exact .inr rfl | assumption) :
  PS X (.AugAssign (.Name x pos') op e pos) (qC i te ti) := by
 intro pins s σ H D I h
 obtain ⟨v,e1,h⟩ := h
 obtain ⟨m,hn,hl⟩ := I.loc
 have vis : rV X.env.scope x := by rcases hx with k | k; exact .inl k; exact .inr (.inl k)
 obtain ⟨u,r,l⟩ := hl i x v hi e1 vis
 refine wpAny_AugAssign_Name ?_
 have go : wpAny (model X.prog X.w) X.A (eval e X.env) (fun w s₂=>wpAny (model X.prog X.w) X.A (inplaceOp op u w) (fun r s₃=>wpAny (model X.prog X.w) X.A (storeName X.env x r) (fun _=>SP X pins D .next) X.xe s₃) X.xe s₂) X.xe s := by
  refine D8 (he pins s σ H _ I h) fun w s1 ⟨y,H1,I1,r1,q1⟩=>?_
  refine D8 (ho pins s1 σ H1 v y u w _ I1 r r1 q1) fun z s2 ⟨zv,H2,I2,r2,q2⟩=>?_
  exact kB I2 hN hi hx r2 (fun s3 I3=>⟨_,H2,I3,q2⟩) hf
 rcases l with ⟨hk,hm⟩ | ⟨hk,c,hc,hcell⟩
 ·exact wpAny_loadName_local I.ok.kind hk hn hm go
 ·rcases hk with hk | hk
  ·exact wpAny_loadName_cell I.ok.kind hk hc hcell go
  ·rcases hx with k | k
   ·have : X.env.scope.names.lookup x = some .free := hk
    rw [k] at this; cases this
   ·have : X.env.scope.names.lookup x = some .free := hk
    rw [k] at this; cases this
def ipI (f : Int → Int → Int) : yT := fun x y H Q=>∃ i j,x = .int i ∧ y = .int j ∧ Q (.int (f i j)) H
theorem lX : PIp X .Add (ipI fun i j=>i + j) := by
 intro pins s σ H x y v u Q I r1 r2 h
 obtain ⟨i,j,e1,e2,q⟩ := h
 subst e1; subst e2
 obtain ⟨t,rfl⟩ := r1
 obtain ⟨t',rfl⟩ := r2
 exact iadd_int ⟨.int _,H,I.tok _,⟨_,rfl⟩,q⟩
end
section
variable {X : Cx} {pos : Pos}
def AO1 (c : TT) (tb : TS) : TS := fun D σ H=>∃ W : Nat → St → Hp → Prop,(∃ m,W m σ H) ∧ ∀ m σ H,W m σ H →
 c σ H fun b H1=>if b = true then ∃ N : St → Hp → Prop,(∀ σ' H',N σ' H' → ∃ m',m' < m ∧ W m' σ' H') ∧ tb { D with nx := N,ct := N,bk := D.nx } σ H1 else D.nx σ H1
theorem R5 {c : Expr} {body : List Stmt} {tc : TT} {tb : TS} (hp : PassesOwn (model X.prog X.w) X.A X.env X.xe) (hc : PT X c tc) (hb : PSs X body tb) : PS X (.While c body [] pos) (AO1 tc tb) := by
 intro pins s σ H D I h
 obtain ⟨W,⟨m0,w0⟩,turn⟩ := h
 refine wpAny_While (codeAny_whileLoop (fun n s'=>∃ σ' H',Inv X pins σ' H' s' ∧ W n σ' H') ?_ m0 ⟨σ,H,I,w0⟩)
 rintro n s1 ⟨σ1,H1,I1,w1⟩
 refine wpAny_passesOwn hp (D8 (hc pins s1 σ1 H1 _ I1 (turn n σ1 H1 w1)) fun b s2 ⟨H2,I2,q2⟩=>?_)
 cases b with
 | true =>
  obtain ⟨N,hN,q2⟩ := q2
  rw [if_pos rfl]
  refine wpAny_passesOwn hp (D8 (hb pins s2 σ1 H2 _ I2 q2) fun f s3 q3=>?_)
  cases f with
  | next =>
   obtain ⟨σ3,H3,I3,n3⟩ := q3
   obtain ⟨m',hm,w3⟩ := hN σ3 H3 n3
   exact ⟨m',hm,σ3,H3,I3,w3⟩
  | cont =>
   obtain ⟨σ3,H3,I3,n3⟩ := q3
   obtain ⟨m',hm,w3⟩ := hN σ3 H3 n3
   exact ⟨m',hm,σ3,H3,I3,w3⟩
  | brk=>exact q3
  | ret v=>exact q3
 | false =>
  rw [if_neg Bool.false_ne_true]
  exact wpAny_execs_nil ⟨σ1,H2,I2,q2⟩
end
structure It where
 go : Nat → Hp → Prop
 yld : Nat → Hp → V → Hp → Prop
 stop : Nat → Hp → Prop
def W0 (X : Cx) (pins : List (Addr × Obj)) (H : Hp) (b : Addr) : Prop :=
 H b = none ∧ b ≠ X.env.locals ∧ b ∉ X.fs ∧ (b ∈ X.ex ∨ X.s₀.heap.objs.size ≤ b) ∧ (∀ x c,X.env.cells.lookup x = some c → c ≠ b) ∧ ∀ p ∈ X.pn ++ pins,p.1 ≠ b
theorem Inv.fpOk {X : Cx} {pins : List (Addr × Obj)} {σ : St} {H H' : Hp} {s : Shared} {b : Addr} (I : Inv X pins σ H s) (hb : s.heap.objs.size ≤ b) (hn : H' b = none) : W0 X pins H' b := by
 refine ⟨hn,Nat.ne_of_gt (Nat.lt_of_lt_of_le I.lt hb),I.nofs hb,.inr (Nat.le_trans I.sz hb),fun x c e z=>?_,fun p hp z=>?_⟩
 ·obtain ⟨v,q⟩ := I.cell x c e
  exact absurd (Nat.lt_of_lt_of_le q.lt (by rw [z]; exact hb)) (Nat.lt_irrefl _)
 ·exact absurd (Nat.lt_of_lt_of_le (Heap.lt_size (I.pin p hp).1) (by rw [z]; exact hb)) (Nat.lt_irrefl _)
structure kN (P : Program) (w : World) (K : PySem.W.Frag) (tg : Expr) (J : It) (fp : List Addr) (it : Addr) (tn : Nat → Heap → Prop) : Prop where
 mem : it ∈ fp
 obj : ∀ i h,tn i h → ∀ b ∈ fp,∃ o,h.get? b = some o ∧ ∀ v,o.data ≠ .cell v
 keep : ∀ i h h',tn i h → (∀ b ∈ fp,∀ o,h.get? b = some o → h'.get? b = some o) → tn i h'
 item : ∀ (X : Cx),X.prog = P → X.w = w → X.K = K → X.calm = true → ∀ (i : Nat) (pins : List (Addr × Obj)) (s : Shared) (σ : St) (H : Hp) (E : Value → Shared → Prop),Inv X pins σ H s → (∀ b ∈ fp,W0 X pins H b) → tn i s.heap → J.go i H →
  wpAny (model P w) X.A (pyNext (.ref it)) (fun r s1=>∃ u,r = some u ∧
   wpAny (model P w) X.A (letOwnedTupleGo tg (.ref it) u) (fun _ s2=>∃ x H',Inv X pins σ H' s2 ∧ RelV x u ∧ J.yld i H x H' ∧ tn (i + 1) s2.heap ∧ ∀ b ∈ fp,H' b = none) E s1) E s
 done : ∀ (X : Cx),X.prog = P → X.w = w → X.K = K → X.calm = true → ∀ (i : Nat) (pins : List (Addr × Obj)) (s : Shared) (σ : St) (H : Hp) (E : Value → Shared → Prop),Inv X pins σ H s → (∀ b ∈ fp,W0 X pins H b) → tn i s.heap → J.stop i H →
  wpAny (model P w) X.A (pyNext (.ref it)) (fun r s1=>r = none ∧ Inv X pins σ H s1) E s
 self : ∀ (A : Around) (i : Nat) (s : Shared) (Q : Value → Shared → Prop) (E : Value → Shared → Prop),tn i s.heap → Q (.ref it) s → wpAny (model P w) A (pyIter (.ref it)) Q E s
abbrev TI := St → Hp → (It → Hp → Prop) → Prop
def PIE (X : Cx) (pins : List (Addr × Obj)) (σ : St) (tg : Expr) (R : It → Hp → Prop) (itv : Value) (s2 : Shared) : Prop :=
 ∃ (it : Addr) (fp : List Addr) (tn : Nat → Heap → Prop) (J : It) (H' : Hp),itv = .ref it ∧ Inv X pins σ H' s2 ∧ kN X.prog X.w X.K tg J fp it tn ∧ tn 0 s2.heap ∧ (∀ b ∈ fp,W0 X pins H' b) ∧ R J H'
def PI (X : Cx) (tg iter : Expr) (wi : TI) : Prop :=
 ∀ (pins : List (Addr × Obj)) (s : Shared) (σ : St) (H : Hp) (R : It → Hp → Prop),Inv X pins σ H s → wi σ H R →
  wpAny (model X.prog X.w) X.A (eval iter X.env) (fun v s1=>wpAny (model X.prog X.w) X.A (pyIter v) (PIE X pins σ tg R) X.xe s1) X.xe s
theorem pT {M : Model} {A : Around} {E : Value → Shared → Prop} {s : Shared} {tg : Expr} {it : Addr} {u : Value} {o : Obj} {n : String} {vs : Array Value} {Q : Unit → Shared → Prop} (ho : s.heap.get? it = some o) (hc : o.cls = .type n) (hd : o.data = .fields vs)
    (hn : ["enumerate", "zip", "dict_itemiterator", "dict_reverseitemiterator", "odict_iterator", "itertools.zip_longest", "itertools.pairwise"].contains n = false) (hQ : Q () s) : wpAny M A (letOwnedTupleGo tg (.ref it) u) Q E s := by
  unfold letOwnedTupleGo
  cases tg <;> first
    | exact wpAny_pure hQ
    | (cases u <;> first
        | exact wpAny_pure hQ
        | (refine wpAny_bind (wpAny_load ho ?_)
           rw [hc, hd]
           show wpAny M A (if (["enumerate", "zip", "dict_itemiterator", "dict_reverseitemiterator", "odict_iterator", "itertools.zip_longest", "itertools.pairwise"].contains n && vs[0]? == some (rawInt _)) = true then _ else _) Q E s
           rw [if_neg (by intro h; rw [hn, Bool.false_and] at h; cases h)]
           exact wpAny_pure hQ))
def sB (K : PySem.W.Frag) (a : Addr) : It :=
 ⟨fun i H=>∃ xs x,SqL K H a xs ∧ xs[i]? = some x,fun i H x H'=>H' = H ∧ ∀ xs,SqL K H a xs → xs[i]? = some x,fun i H=>∃ xs,SqL K H a xs ∧ xs.length ≤ i⟩
def sA (lo : Int) (n : Nat) : It := ⟨fun i _=>i < n,fun i H x H'=>H' = H ∧ x = .int (lo + i),fun i _=>n ≤ i⟩
theorem wA {P : Program} {w : World} {K : PySem.W.Frag} {tg : Expr} (a it : Addr) : kN P w K tg (sB K a) [it] it (fun i h=>h.IsListIter it a i) where
 mem := by simp
 obj := fun i h st b hb=>by
  have e : b = it := by simpa using hb
  subst e
  obtain ⟨o,e,c,d⟩ := st
  exact ⟨o,e,fun v z=>by rw [d] at z; cases z⟩
 keep := fun i h h' st k=>st.at fun o e=>k it (by simp) o e
 item := by
  intro X hP hw hK hc i pins s σ H E I hf st hg
  subst hP hw hK
  obtain ⟨xs,x,hq,hx⟩ := hg
  obtain ⟨its,rv,p,hz⟩ := I.list hq
  obtain ⟨u,hu,ru⟩ := rv.get hx
  obtain ⟨f0,f1,f2,f3,f4,f5⟩ := hf it (by simp)
  refine wpAny_pyNext_list_item st p.isList (x := u) (by simpa using hu) fun h' st' sb=>?_
  have I1 : Inv X pins σ H { s with heap := h' } := I.turned (t' := s.toks) (fun b o hb e=>(sb.2 b hb).trans e) f0 f1 f3 f4 f5
  obtain ⟨o,e,c,d⟩ := id st'
  exact ⟨u,rfl,pT (s := { s with heap := h' }) e c d (by decide) ⟨x,H,I1,ru,⟨rfl,fun ys hy=>by rw [I.list_inj hy hq]; exact hx⟩,st',fun b hb=>(hf b hb).1⟩⟩
 done := by
  intro X hP hw hK hc i pins s σ H E I hf st hg
  subst hP hw hK
  obtain ⟨xs,hq,hx⟩ := hg
  obtain ⟨its,rv,p,hz⟩ := I.list hq
  obtain ⟨f0,f1,f2,f3,f4,f5⟩ := hf it (by simp)
  have hl := rv.length
  exact wpAny_pyNext_list_end (I.ok.hd hc) st p.isList (by simp; omega) fun h' eb=>⟨rfl,I.turned (t' := s.toks) (fun b o hb e=>eb b o hb e) f0 f1 f3 f4 f5⟩
 self := fun _ _ _ _ _ st h=>wpAny_pyIter_listiter st h
theorem uG {P : Program} {w : World} {K : PySem.W.Frag} {tg : Expr} (it : Addr) (lo : Int) (n : Nat) : kN P w K tg (sA lo n) [it] it (fun i h=>IsRangeIter h it (lo + (i : Nat) * 1) ((n : Int) - (i : Nat)) 1) where
 mem := by simp
 obj := fun i h st b hb=>by
  have e : b = it := by simpa using hb
  subst e
  exact ⟨_,st,fun v z=>by
   have z' : Data.fields _ = Data.cell v := z
   cases z'⟩
 keep := fun i h h' st k=>k it (by simp) _ st
 item := by
  intro X hP hw hK hc i pins s σ H E I hf st hg
  subst hP hw hK
  obtain ⟨f0,f1,f2,f3,f4,f5⟩ := hf it (by simp)
  have W := Walks.range (prog := X.prog) (w := X.w) (I.ok.hd hc) it lo 1 n
  refine W.item i s _ _ hg st fun v h' tk hv st' kk=>?_
  obtain ⟨t,rfl⟩ := hv
  have I1 : Inv X pins σ H { s with heap := h',toks := tk } := I.turned (fun b o hb e=>kk b o (by simpa using hb) e) f0 f1 f3 f4 f5
  refine ⟨_,rfl,pT (s := { s with heap := h',toks := tk }) (n := "range_iterator") st' rfl rfl (by decide) ⟨.int (lo + i),H,I1,⟨t,?_⟩,⟨rfl,rfl⟩,st',fun b hb=>(hf b hb).1⟩⟩
  rw [Int.mul_one]
 done := by
  intro X hP hw hK hc i pins s σ H E I hf st hg
  subst hP hw hK
  obtain ⟨f0,f1,f2,f3,f4,f5⟩ := hf it (by simp)
  exact wpAny_pyNext_range_end (I.ok.hd hc) st (by have : n ≤ i := hg; omega) fun h' eb=>⟨rfl,I.turned (t' := s.toks) (fun b o hb e=>eb b o hb e) f0 f1 f3 f4 f5⟩
 self := fun _ _ _ _ _ st h=>wpAny_pyIter_rangeiter st h
end L2
namespace L2
open PySem PySem.Spec PyProof.Rows
section
variable {X : Cx} {tg : Expr}
def BA4 (K : PySem.W.Frag) (tl : TE) : TI := fun σ H R=>tl σ H fun x H1=>∃ a,x = .ref a ∧ (∃ xs,SqL K H1 a xs) ∧ R (sB K a) H1
theorem X5 {l : Expr} {tl : TE} (hl : PE X l tl) : PI X tg l (BA4 X.K tl) := by
 intro pins s σ H R I h
 refine D8 (hl pins s σ H _ I h) fun v s1 ⟨x,H1,I1,r1,q1⟩=>?_
 obtain ⟨a,e,⟨xs,hq⟩,q⟩ := q1
 subst e
 cases r1
 obtain ⟨its,rv,p,hz⟩ := I1.list hq
 refine wpAny_pyIter_list p.isList ?_
 refine ⟨s1.heap.objs.size,[s1.heap.objs.size],_,_,H1,rfl,I1.kept (t' := s1.toks) fun b o e=>Heap.get?_push_of_some _ e,wA a _,⟨_,Heap.get?_push_size _ rfl,rfl,rfl⟩,fun b hb=>?_,q⟩
 have e : b = s1.heap.objs.size := by simpa using hb
 subst e
 exact I1.fpOk (Nat.le_refl _) (I1.hok.fresh (Nat.le_refl _))
theorem zN {pins : List (Addr × Obj)} {σ : St} {H : Hp} {s : Shared} {R : It → Hp → Prop} {E : Value → Shared → Prop} {lo hi : Int} {t u v : Tok} {tk : Nat} (I : Inv X pins σ H s) (h1 : -(2 ^ 62) ≤ lo) (h2 : lo < 2 ^ 62) (h3 : -(2 ^ 62) ≤ hi) (h4 : hi < 2 ^ 62)
  (q : R (sA lo (hi - lo).toNat) H) : wpAny (model X.prog X.w) X.A (pyIter (.ref s.heap.objs.size)) (PIE X pins σ tg R) E { s with heap := s.heap.push { cls := .type "range",data := .fields #[.int lo t,.int hi u,.int 1 v] },toks := tk } := by
 refine wpAny_pyIter_range (IsRange.new ..) (small_one h1 h2 h3 h4) ?_
 have I1 : Inv X pins σ H { s with heap := s.heap.push { cls := .type "range",data := .fields #[.int lo t,.int hi u,.int 1 v] },toks := tk } := I.kept fun b o e=>Heap.get?_push_of_some _ e
 refine ⟨(s.heap.push { cls := .type "range",data := .fields #[.int lo t,.int hi u,.int 1 v] }).objs.size,[(s.heap.push { cls := .type "range",data := .fields #[.int lo t,.int hi u,.int 1 v] }).objs.size],_,_,H,rfl,
  I1.kept (t' := tk) fun b o e=>Heap.get?_push_of_some _ e,uG _ lo (hi - lo).toNat,?_,fun b hb=>?_,q⟩
 ·have e1 : lo + ((0 : Nat) : Int) * 1 = lo := by simp
  have e2 : (((hi - lo).toNat : Nat) : Int) - ((0 : Nat) : Int) = Builtin.Range.rangeSize lo hi 1 := by rw [rangeSize_one]; split <;> omega
  show IsRangeIter _ _ (lo + ((0 : Nat) : Int) * 1) ((((hi - lo).toNat : Nat) : Int) - ((0 : Nat) : Int)) 1
  rw [e1,e2]
  exact Heap.get?_push_size _ rfl
 ·have e : b = (s.heap.push { cls := .type "range",data := .fields #[.int lo t,.int hi u,.int 1 v] }).objs.size := by simpa using hb
  subst e
  exact I1.fpOk (Nat.le_refl _) (I1.hok.fresh (Nat.le_refl _))
def BA3 (ta : TA) : TI := fun σ H R=>ta σ H fun vs H1=>∃ j : Int,vs = [.int j] ∧ -(2 ^ 62) ≤ j ∧ j < 2 ^ 62 ∧ R (sA 0 j.toNat) H1
theorem aC {a : Expr} {ta : TA} {p pos : Pos} (hg : Gl X "range") (hm : X.mg "range" = none) (ha : PA X [a] ta) (hs : starEach [a] X.env = [(false,eval a X.env)] := by rfl) : PI X tg (.Call (.Name "range" p) [a] [] pos) (BA3 ta) := by
 intro pins s σ H R I h
 refine Call_ (bR I hg hm boot_range (PyProof.Rows.callWith_type1 (D8 (ha pos pins s σ H _ I h) fun us s1 ⟨vs,H1,I1,r1,q1⟩=>?_) hs rfl))
 obtain ⟨j,e,q1,q2,q⟩ := q1
 subst e
 cases r1 with
 | cons r rr =>
  cases rr
  obtain ⟨t,rfl⟩ := r
  exact call_range_1 (zN I1 (by omega) (by omega) q1 q2 (by simpa using q))
def BC7 (wi : TI) (g : TG) (tb : TS) : TS := fun D σ H=>wi σ H fun J H1=>∃ W : Nat → Nat → St → Hp → Prop,(∃ m,W 0 m σ H1) ∧ ∀ i m σ H,W i m σ H →
 (J.stop i H ∧ D.nx σ H) ∨ (J.go i H ∧ ∃ N : St → Hp → Prop,(∀ σ' H',N σ' H' → ∃ m',m' < m ∧ W (i + 1) m' σ' H') ∧ ∀ x H',J.yld i H x H' → g x σ H' fun σ2 H2=>tb { D with nx := N,ct := N,bk := D.nx } σ2 H2)
def W3 (fp : List Addr) (h : Heap) : List (Addr × Obj) := fp.filterMap fun b=>(h.get? b).map fun o=>(b,o)
theorem V5 {fp : List Addr} {h : Heap} {b : Addr} {o : Obj} (hb : b ∈ fp) (e : h.get? b = some o) : (b,o) ∈ W3 fp h := List.mem_filterMap.mpr ⟨b,hb,by rw [e]; rfl⟩
theorem xE {fp : List Addr} {h : Heap} {p : Addr × Obj} (hp : p ∈ W3 fp h) : p.1 ∈ fp ∧ h.get? p.1 = some p.2 := by
 obtain ⟨b,hb,e⟩ := List.mem_filterMap.mp hp
 cases q : h.get? b with
 | none=>rw [q] at e; cases e
 | some o =>
  rw [q] at e
  have e' : (b,o) = p := Option.some.inj e
  subst e'
  exact ⟨hb,q⟩
theorem Inv.pinned {pins : List (Addr × Obj)} {σ : St} {H : Hp} {s : Shared} {fp : List Addr} (I : Inv X pins σ H s) (hf : ∀ b ∈ fp,W0 X pins H b) (ho : ∀ b ∈ fp,∃ o,s.heap.get? b = some o ∧ ∀ v,o.data ≠ .cell v) : Inv X (pins ++ W3 fp s.heap) σ H s :=
 I.pins_of fun p hp=>(List.mem_append.mp hp).elim (fun z=>I.pin p (List.mem_append_right _ z)) fun z=>by
  obtain ⟨hb,e⟩ := xE z
  obtain ⟨f0,f1,f2,_⟩ := hf p.1 hb
  obtain ⟨o,e',d⟩ := ho p.1 hb
  rw [e] at e'; cases e'
  exact ⟨e,f0,f1,f2,d⟩
theorem Inv.unpinned {pins pl : List (Addr × Obj)} {σ : St} {H : Hp} {s : Shared} (I : Inv X (pins ++ pl) σ H s) : Inv X pins σ H s := I.pins_of fun p hp=>I.pin p (List.mem_append_right _ (List.mem_append_left _ hp))
theorem aB {iter : Expr} {body : List Stmt} {wi : TI} {g : TG} {tb : TS} {pos : Pos} (hp : PassesOwn (model X.prog X.w) X.A X.env X.xe) (hc : X.calm = true) (hi : PI X tg iter wi) (hg : PG X tg g) (hb : PSs X body tb)
  (hs : ∀ x,foldedSetIterable iter X.env x = pure x := by intro _; rfl) : PS X (.For tg iter body [] pos) (BC7 wi g tb) := by
 intro pins s σ H D I h
 refine wpAny_For (D8 (hi pins s σ H _ I h) fun v s1 h1=>D8 h1 fun itv s2 h2=>?_) hs
 obtain ⟨it,fp,tn,J,H2,e,I2,T,st2,f2,W,⟨m0,w0⟩,turn⟩ := h2
 subst e
 have stat : ∀ {H' : Hp},(∀ b ∈ fp,H' b = none) → ∀ b ∈ fp,W0 X pins H' b := fun hn b hb=>⟨hn b hb,(f2 b hb).2⟩
 refine codeAny_forLoop_any (fun n s'=>∃ i σ' H',Inv X pins σ' H' s' ∧ tn i s'.heap ∧ (∀ b ∈ fp,H' b = none) ∧ W i n σ' H') ?_ m0 ⟨0,σ,H2,I2,st2,fun b hb=>(f2 b hb).1,w0⟩
 rintro n s3 ⟨i,σ3,H3,I3,st3,fr3,w3⟩
 rcases turn i n σ3 H3 w3 with ⟨stop,qn⟩ | ⟨go,N,hN,step⟩
 ·refine wpAny_passesOwn hp (D8 (T.done X rfl rfl rfl hc i pins s3 σ3 H3 X.xe I3 (stat fr3) st3 stop) fun r s4 ⟨hr,I4⟩=>?_)
  subst hr
  exact wpAny_execs_nil ⟨σ3,H3,I4,qn⟩
 ·refine wpAny_passesOwn hp (D8 (T.item X rfl rfl rfl hc i pins s3 σ3 H3 X.xe I3 (stat fr3) st3 go) fun r s4 ⟨u,hr,h4⟩=>?_)
  subst hr
  refine wpAny_passesOwn hp (D8 h4 fun _ s5 ⟨x,H5,I5,r5,y5,st5,fr5⟩=>?_)
  have I5' := I5.pinned (stat fr5) (T.obj _ _ st5)
  refine wpAny_passesOwn hp (D8 (hg _ s5 σ3 H5 x u _ I5' r5 (step x H5 y5)) fun _ s6 ⟨σ6,H6,I6,q6⟩=>?_)
  refine wpAny_passesOwn hp (D8 (hb _ s6 σ6 H6 _ I6 q6) fun f s7 q7=>?_)
  have again : ∀ {σ7 : St} {H7 : Hp},Inv X (pins ++ W3 fp s5.heap) σ7 H7 s7 → N σ7 H7 → ∃ m,m < n ∧ ∃ i σ' H',Inv X pins σ' H' s7 ∧ tn i s7.heap ∧ (∀ b ∈ fp,H' b = none) ∧ W i m σ' H' := fun {σ7 H7} I7 n7=>by
   obtain ⟨m',hm,w7⟩ := hN σ7 H7 n7
   refine ⟨m',hm,i + 1,σ7,H7,I7.unpinned,T.keep _ _ _ st5 fun b hb o e=>(I7.pin (b,o) (List.mem_append_right _ (List.mem_append_right _ (V5 hb e)))).1,fun b hb=>?_,w7⟩
   obtain ⟨o,e,d⟩ := T.obj _ _ st5 b hb
   exact (I7.pin (b,o) (List.mem_append_right _ (List.mem_append_right _ (V5 hb e)))).2.1
  cases f with
  | next=>obtain ⟨σ7,H7,I7,n7⟩ := q7; exact again I7 n7
  | cont=>obtain ⟨σ7,H7,I7,n7⟩ := q7; exact again I7 n7
  | brk=>obtain ⟨σ7,H7,I7,q7⟩ := q7; exact ⟨σ7,H7,I7.unpinned,q7⟩
  | ret v=>obtain ⟨x7,σ7,H7,I7,r7,q7⟩ := q7; exact ⟨x7,σ7,H7,I7.unpinned,r7,q7⟩
end
theorem kK {K : PySem.W.Frag} {a : Addr} {xs : List V} {g : TG} {tb : TS} {D : iD} {σ : St} {H : Hp} (Pv : Nat → St → Hp → Prop) (h0 : Pv 0 σ H) (hl : ∀ i σ H,i ≤ xs.length → Pv i σ H → SqL K H a xs)
  (hs : ∀ i x σ H,xs[i]? = some x → Pv i σ H → g x σ H fun σ2 H2=>tb { D with nx := Pv (i + 1),ct := Pv (i + 1),bk := D.nx } σ2 H2) (hd : ∀ σ H,Pv xs.length σ H → D.nx σ H) :
  ∃ W : Nat → Nat → St → Hp → Prop,(∃ m,W 0 m σ H) ∧ ∀ i m σ H,W i m σ H →
   ((sB K a).stop i H ∧ D.nx σ H) ∨ ((sB K a).go i H ∧ ∃ N : St → Hp → Prop,(∀ σ' H',N σ' H' → ∃ m',m' < m ∧ W (i + 1) m' σ' H') ∧ ∀ x H',(sB K a).yld i H x H' → g x σ H' fun σ2 H2=>tb { D with nx := N,ct := N,bk := D.nx } σ2 H2) := by
 refine ⟨fun i m σ H=>m = xs.length - i ∧ i ≤ xs.length ∧ Pv i σ H,⟨xs.length,by simp,Nat.zero_le _,h0⟩,?_⟩
 rintro i m σ H ⟨rfl,hi,p⟩
 have q := hl i σ H hi p
 by_cases hlt : i < xs.length
 ·refine .inr ⟨⟨xs,xs[i],q,by simp [hlt]⟩,Pv (i + 1),fun σ' H' p'=>⟨xs.length - (i + 1),by omega,rfl,hlt,p'⟩,fun x H' y=>?_⟩
  obtain ⟨e,y⟩ := y
  subst e
  exact hs i x σ _ (y xs q) p
 ·have e : i = xs.length := by omega
  subst e
  exact .inl ⟨⟨xs,q,Nat.le_refl _⟩,hd σ H p⟩
theorem cS {lo : Int} {n : Nat} {g : TG} {tb : TS} {D : iD} {σ : St} {H : Hp} (Pv : Nat → St → Hp → Prop) (h0 : Pv 0 σ H)
  (hs : ∀ i σ H,i < n → Pv i σ H → g (.int (lo + i)) σ H fun σ2 H2=>tb { D with nx := Pv (i + 1),ct := Pv (i + 1),bk := D.nx } σ2 H2) (hd : ∀ σ H,Pv n σ H → D.nx σ H) :
  ∃ W : Nat → Nat → St → Hp → Prop,(∃ m,W 0 m σ H) ∧ ∀ i m σ H,W i m σ H →
   ((sA lo n).stop i H ∧ D.nx σ H) ∨ ((sA lo n).go i H ∧ ∃ N : St → Hp → Prop,(∀ σ' H',N σ' H' → ∃ m',m' < m ∧ W (i + 1) m' σ' H') ∧ ∀ x H',(sA lo n).yld i H x H' → g x σ H' fun σ2 H2=>tb { D with nx := N,ct := N,bk := D.nx } σ2 H2) := by
 refine ⟨fun i m σ H=>m = n - i ∧ i ≤ n ∧ Pv i σ H,⟨n,by simp,Nat.zero_le _,h0⟩,?_⟩
 rintro i m σ H ⟨rfl,hi,p⟩
 by_cases hlt : i < n
 ·refine .inr ⟨hlt,Pv (i + 1),fun σ' H' p'=>⟨n - (i + 1),by omega,rfl,hlt,p'⟩,fun x H' y=>?_⟩
  obtain ⟨e,y⟩ := y
  subst e y
  exact hs i σ _ hlt p
 ·have e : i = n := by omega
  subst e
  exact .inl ⟨Nat.le_refl _,hd σ H p⟩
end L2
namespace L2
open PySem PySem.Spec PyProof.Rows
abbrev R2 := V → V → Hp → VK → Prop
def Q4 (X : Cx) (f : Value → Value → Sem Value) (r : R2) : Prop :=
 ∀ (pins : List (Addr × Obj)) (s : Shared) (σ : St) (H : Hp) (x y : V) (v u : Value) (Q : VK),Inv X pins σ H s → RelV x v → RelV y u → r x y H Q →
  wpAny (model X.prog X.w) X.A (f v u) (EP X pins σ Q) X.xe s
def UnR (X : Cx) (f : Value → Sem Value) (r : V → Hp → VK → Prop) : Prop :=
 ∀ (pins : List (Addr × Obj)) (s : Shared) (σ : St) (H : Hp) (x : V) (v : Value) (Q : VK),Inv X pins σ H s → RelV x v → r x H Q →
  wpAny (model X.prog X.w) X.A (f v) (EP X pins σ Q) X.xe s
def S9 (X : Cx) (f : Value) (r : List V → Hp → VK → Prop) : Prop :=
 ∀ (pins : List (Addr × Obj)) (s : Shared) (σ : St) (H : Hp) (xs : List V) (us : List Value) (Q : VK),Inv X pins σ H s → Vals xs us → r xs H Q →
  wpAny (model X.prog X.w) X.A (call f us) (EP X pins σ Q) X.xe s
def wC (r : R2) (ta tb : TE) : TE := fun σ H Q=>ta σ H fun x H1=>tb σ H1 fun y H2=>r x y H2 Q
def tUn (r : V → Hp → VK → Prop) (ta : TE) : TE := fun σ H Q=>ta σ H fun x H1=>r x H1 Q
def rI (C : Int → Int → Prop) (g : Int → Int → V) : R2 := fun x y H Q=>∃ i j,x = .int i ∧ y = .int j ∧ C i j ∧ Q (g i j) H
def oM (g : Int → Int → V) : R2 := fun x y H Q=>∃ i j,x = .int i ∧ y = .int j ∧ Q (g i j) H
def rU (g : Int → V) : V → Hp → VK → Prop := fun x H Q=>∃ i,x = .int i ∧ Q (g i) H
section
variable {X : Cx} {a b c : Expr} {ta tb tc : TE} {pos : Pos}
theorem AC9 (ha : PE X a ta) (hb : PE X b tb) {pins : List (Addr × Obj)} {s : Shared} {σ : St} {H : Hp} {R : V → V → Hp → Prop} (I : Inv X pins σ H s)
  (h : ta σ H fun x H1=>tb σ H1 fun y H2=>R x y H2) {Q : Value → Shared → Prop} {f : Value → Value → Sem Value}
  (hf : ∀ v u s2 x y H2,Inv X pins σ H2 s2 → RelV x v → RelV y u → R x y H2 → wpAny (model X.prog X.w) X.A (f v u) Q X.xe s2) :
  wpAny (model X.prog X.w) X.A (eval a X.env) (fun v s₁=>wpAny (model X.prog X.w) X.A (eval b X.env) (fun u s₂=>wpAny (model X.prog X.w) X.A (f v u) Q X.xe s₂) X.xe s₁) X.xe s := by
 refine D8 (ha pins s σ H _ I h) fun v s1 ⟨x,H1,I1,r1,q1⟩=>?_
 refine D8 (hb pins s1 σ H1 _ I1 q1) fun u s2 ⟨y,H2,I2,r2,q2⟩=>?_
 exact hf v u s2 x y H2 I2 r1 r2 q2
theorem G9 {op : Operator} {r : R2} (ho : Q4 X (binaryOp op) r) (ha : PE X a ta) (hb : PE X b tb) : PE X (.BinOp a op b pos) (wC r ta tb) := by
 intro pins s σ H Q I h
 exact wpAny_BinOp (AC9 ha hb I h fun v u s2 x y H2 I2 rx ry q=>ho pins s2 σ H2 x y v u Q I2 rx ry q)
theorem AE8 {op : UnaryOp} {r : V → Hp → VK → Prop} (ho : UnR X (unaryOp op) r) (ha : PE X a ta) : PE X (.UnaryOp op a pos) (tUn r ta) := by
 intro pins s σ H Q I h
 exact UnaryOp_ (D8 (ha pins s σ H _ I h) fun v s1 ⟨x,H1,I1,r1,q1⟩=>ho pins s1 σ H1 x v Q I1 r1 q1)
theorem opI {f : Value → Value → Sem Value} {C : Int → Int → Prop} {g : Int → Int → Int}
  (rule : ∀ (i j : Int) (t u : Tok) (s : Shared) (Q : Value → Shared → Prop) (E : Value → Shared → Prop),C i j → Q (.int (g i j) s.toks) { s with toks := s.toks + 1 } → wpAny (model X.prog X.w) X.A (f (.int i t) (.int j u)) Q E s) :
  Q4 X f (rI C fun i j=>.int (g i j)) := by
 intro pins s σ H x y v u Q I rx ry h
 obtain ⟨i,j,rfl,rfl,hc,q⟩ := h
 obtain ⟨t,rfl⟩ := rx
 obtain ⟨t',rfl⟩ := ry
 exact rule i j t t' s _ _ hc ⟨.int (g i j),H,I.tok _,⟨_,rfl⟩,q⟩
theorem AR0 {f : Value → Value → Sem Value} {g : Int → Int → Int}
  (rule : ∀ (i j : Int) (t u : Tok) (s : Shared) (Q : Value → Shared → Prop) (E : Value → Shared → Prop),Q (.int (g i j) s.toks) { s with toks := s.toks + 1 } → wpAny (model X.prog X.w) X.A (f (.int i t) (.int j u)) Q E s) :
  Q4 X f (oM fun i j=>.int (g i j)) := by
 intro pins s σ H x y v u Q I rx ry h
 obtain ⟨i,j,rfl,rfl,q⟩ := h
 obtain ⟨t,rfl⟩ := rx
 obtain ⟨t',rfl⟩ := ry
 exact rule i j t t' s _ _ ⟨.int (g i j),H,I.tok _,⟨_,rfl⟩,q⟩
theorem uW {f : Value → Value → Sem Value} {g : Int → Int → Bool}
  (rule : ∀ (i j : Int) (t u : Tok) (s : Shared) (Q : Value → Shared → Prop) (E : Value → Shared → Prop),Q (.bool (g i j)) s → wpAny (model X.prog X.w) X.A (f (.int i t) (.int j u)) Q E s) :
  Q4 X f (oM fun i j=>.bl (g i j)) := by
 intro pins s σ H x y v u Q I rx ry h
 obtain ⟨i,j,rfl,rfl,q⟩ := h
 obtain ⟨t,rfl⟩ := rx
 obtain ⟨t',rfl⟩ := ry
 exact rule i j t t' s _ _ ⟨.bl (g i j),H,I,rfl,q⟩
def BH0 (i j : Int) : Prop := 0 < j ∧ j < 1073741824
def BG9 (i j : Int) : Prop := 0 ≤ j ∧ j ≤ 1000000 ∧ i.natAbs < 2 ^ 64
def CMul (i j : Int) : Prop := (-(2 ^ 64) < i ∧ i < 2 ^ 64) ∨ (-(2 ^ 64) < j ∧ j < 2 ^ 64)
theorem CMul.ok {i j : Int} (h : CMul i j) : IntMulOk i j := by
 rcases h with ⟨h1,h2⟩ | ⟨h1,h2⟩
 ·exact .of_left (intBits_le_64 h1 h2)
 ·exact .of_right (intBits_le_64 h1 h2)
theorem U0 : Q4 X (binaryOp .Add) (oM fun i j=>.int (i + j)) := AR0 fun _ _ _ _ _ _ _ q=>add_int q
theorem dY : Q4 X (binaryOp .Sub) (oM fun i j=>.int (i - j)) := AR0 fun _ _ _ _ _ _ _ q=>sub_int q
theorem gN : Q4 X (binaryOp .Mult) (rI CMul fun i j=>.int (i * j)) := opI fun _ _ _ _ _ _ _ hc q=>mul_int q hc.ok
theorem tJ : Q4 X (binaryOp .FloorDiv) (rI BH0 fun i j=>.int (i / j)) := opI fun i j _ _ _ _ _ hc q=>by
 have h1 : (0 : Int) < j := hc.1
 have h2 : j < 1073741824 := hc.2
 exact floordiv_int (by omega) (by rw [Int.fdiv_eq_ediv_of_nonneg i (by omega)]; exact q) (.inl (PyProof.noPylong_small (by omega)))
theorem gO : Q4 X (binaryOp .Mod) (rI (fun _ j=>0 < j) fun i j=>.int (i % j)) := opI fun i j _ _ _ _ _ hc q=>by
 have h1 : (0 : Int) < j := hc
 exact mod_int' (by omega) (by rw [Int.fmod_eq_emod_of_nonneg i (by omega)]; exact q)
theorem gK : Q4 X (binaryOp .Pow) (rI BG9 fun i j=>.int (i ^ j.toNat)) := opI fun _ _ _ _ _ _ _ hc q=>pow_int_small hc.1 hc.2.1 hc.2.2 q
theorem unI {f : Value → Sem Value} {g : Int → Int}
  (rule : ∀ (i : Int) (t : Tok) (s : Shared) (Q : Value → Shared → Prop) (E : Value → Shared → Prop),Q (.int (g i) s.toks) { s with toks := s.toks + 1 } → wpAny (model X.prog X.w) X.A (f (.int i t)) Q E s) :
  UnR X f (rU fun i=>.int (g i)) := by
 intro pins s σ H x v Q I rx h
 obtain ⟨i,rfl,q⟩ := h
 obtain ⟨t,rfl⟩ := rx
 exact rule i t s _ _ ⟨.int (g i),H,I.tok _,⟨_,rfl⟩,q⟩
theorem vY : UnR X (unaryOp .USub) (rU fun i=>.int (-i)) := unI fun _ _ _ _ _ q=>neg_int q
end
def AO9 : V → V → Bool
 | .non,.non=>true | .non,.int _=>true | .int _,.non=>true | .non,.bl _=>true | .bl _,.non=>true | .non,.str _=>true | .str _,.non=>true
 | .int _,.int _=>true | .bl _,.bl _=>true | .str _,.str _=>true | .byt _,.byt _=>true
 | .int _,.str _=>true | .str _,.int _=>true | .bl _,.str _=>true | .str _,.bl _=>true
 | _,_=>false
def rEq : R2 := fun x y H Q=>AO9 x y = true ∧ Q (.bl (decide (x = y))) H
def rNe : R2 := fun x y H Q=>AO9 x y = true ∧ Q (.bl (!decide (x = y))) H
theorem dec_int {i j : Int} : decide (V.int i = V.int j) = (i == j) := by
 rw [Bool.eq_iff_iff]
 simp
theorem yE {i j : Bool} : decide (V.bl i = V.bl j) = (i == j) := by
 rw [Bool.eq_iff_iff]
 simp
theorem tV {i j : Str} : decide (V.str i = V.str j) = (i == j) := by
 rw [Bool.eq_iff_iff]
 simp
theorem tW {i j : Array UInt8} : decide (V.byt i = V.byt j) = (i.toList == j.toList) := by
 rw [Bool.eq_iff_iff]
 cases i
 cases j
 simp
section
variable {X : Cx} {a b c : Expr} {ta tb tc : TE} {pos : Pos}
theorem G7 {pins : List (Addr × Obj)} {σ : St} {H : Hp} {s : Shared} {Q : VK} {k k' : Bool} (I : Inv X pins σ H s) (q : Q (.bl k) H) (e : k = k') : EP X pins σ Q (.bool k') s := by
 subst e
 exact ⟨.bl k,H,I,rfl,q⟩
theorem N4 : Q4 X (compareOp .Eq) rEq := by
 intro pins s σ H x y v u Q I rx ry h
 obtain ⟨hs,q⟩ := h
 cases x with
 | non =>
  cases rx
  cases y with
  | non=>cases ry; exact PySem.EqNone.eq_none_none (G7 I q (by simp))
  | bl j=>cases ry; exact PySem.EqNone.eq_none_bool (G7 I q (by simp))
  | int j=>obtain ⟨t',rfl⟩ := ry; exact PySem.EqNone.eq_none_int (G7 I q (by simp))
  | str j=>obtain ⟨t',rfl⟩ := ry; exact PySem.EqNone.eq_none_str (G7 I q (by simp))
  | _=>exact absurd (show false = true from hs) Bool.false_ne_true
 | bl i =>
  cases rx
  cases y with
  | non=>cases ry; exact PySem.EqNone.eq_bool_none (G7 I q (by simp))
  | bl j=>cases ry; exact eq_bool (G7 I q yE)
  | str j=>obtain ⟨t',rfl⟩ := ry; exact PySem.EqMixed.eq_bool_str (G7 I q (by simp))
  | _=>exact absurd (show false = true from hs) Bool.false_ne_true
 | int i =>
  obtain ⟨t,rfl⟩ := rx
  cases y with
  | non=>cases ry; exact PySem.EqNone.eq_int_none (G7 I q (by simp))
  | int j=>obtain ⟨t',rfl⟩ := ry; exact eq_int (G7 I q dec_int)
  | str j=>obtain ⟨t',rfl⟩ := ry; exact PySem.EqMixed.eq_int_str (G7 I q (by simp))
  | _=>exact absurd (show false = true from hs) Bool.false_ne_true
 | str i =>
  obtain ⟨t,rfl⟩ := rx
  cases y with
  | non=>cases ry; exact PySem.EqNone.eq_str_none (G7 I q (by simp))
  | bl j=>cases ry; exact PySem.EqMixed.eq_str_bool (G7 I q (by simp))
  | int j=>obtain ⟨t',rfl⟩ := ry; exact PySem.EqMixed.eq_str_int (G7 I q (by simp))
  | str j=>obtain ⟨t',rfl⟩ := ry; exact eq_str (G7 I q tV)
  | _=>exact absurd (show false = true from hs) Bool.false_ne_true
 | byt i =>
  obtain ⟨t,rfl⟩ := rx
  cases y with
  | byt j=>obtain ⟨t',rfl⟩ := ry; exact PySem.W.eq_bytes (G7 I q tW)
  | _=>exact absurd (show false = true from hs) Bool.false_ne_true
 | _=>cases y <;> exact absurd (show false = true from hs) Bool.false_ne_true
theorem lM : Q4 X (compareOp .NotEq) rNe := by
 intro pins s σ H x y v u Q I rx ry h
 obtain ⟨hs,q⟩ := h
 cases x with
 | non =>
  cases rx
  cases y with
  | non=>cases ry; exact PySem.EqNone.ne_none_none (G7 I q (by simp))
  | bl j=>cases ry; exact PySem.EqNone.ne_none_bool (G7 I q (by simp))
  | int j=>obtain ⟨t',rfl⟩ := ry; exact PySem.EqNone.ne_none_int (G7 I q (by simp))
  | str j=>obtain ⟨t',rfl⟩ := ry; exact PySem.EqNone.ne_none_str (G7 I q (by simp))
  | _=>exact absurd (show false = true from hs) Bool.false_ne_true
 | bl i =>
  cases rx
  cases y with
  | non=>cases ry; exact PySem.EqNone.ne_bool_none (G7 I q (by simp))
  | bl j=>cases ry; exact ne_bool (G7 I q (congrArg not yE))
  | str j=>obtain ⟨t',rfl⟩ := ry; exact PySem.EqMixed.ne_bool_str (G7 I q (by simp))
  | _=>exact absurd (show false = true from hs) Bool.false_ne_true
 | int i =>
  obtain ⟨t,rfl⟩ := rx
  cases y with
  | non=>cases ry; exact PySem.EqNone.ne_int_none (G7 I q (by simp))
  | int j=>obtain ⟨t',rfl⟩ := ry; exact ne_int (G7 I q (congrArg not dec_int))
  | str j=>obtain ⟨t',rfl⟩ := ry; exact PySem.EqMixed.ne_int_str (G7 I q (by simp))
  | _=>exact absurd (show false = true from hs) Bool.false_ne_true
 | str i =>
  obtain ⟨t,rfl⟩ := rx
  cases y with
  | non=>cases ry; exact PySem.EqNone.ne_str_none (G7 I q (by simp))
  | bl j=>cases ry; exact PySem.EqMixed.ne_str_bool (G7 I q (by simp))
  | int j=>obtain ⟨t',rfl⟩ := ry; exact PySem.EqMixed.ne_str_int (G7 I q (by simp))
  | str j=>obtain ⟨t',rfl⟩ := ry; exact ne_str (G7 I q (congrArg not tV))
  | _=>exact absurd (show false = true from hs) Bool.false_ne_true
 | byt i =>
  obtain ⟨t,rfl⟩ := rx
  cases y with
  | byt j=>obtain ⟨t',rfl⟩ := ry; exact PySem.W.ne_bytes (G7 I q (congrArg not tW))
  | _=>exact absurd (show false = true from hs) Bool.false_ne_true
 | _=>cases y <;> exact absurd (show false = true from hs) Bool.false_ne_true
theorem fC : Q4 X (compareOp .Lt) (oM fun i j=>.bl (decide (i < j))) := uW fun _ _ _ _ _ _ _ q=>lt_int q
theorem AY6 : Q4 X (compareOp .LtE) (oM fun i j=>.bl (decide (i ≤ j))) := uW fun _ _ _ _ _ _ _ q=>le_int q
theorem jB : Q4 X (compareOp .Gt) (oM fun i j=>.bl (decide (j < i))) := uW fun _ _ _ _ _ _ _ q=>gt_int q
theorem AY7 : Q4 X (compareOp .GtE) (oM fun i j=>.bl (decide (j ≤ i))) := uW fun _ _ _ _ _ _ _ q=>ge_int q
theorem wX : Q4 X (compareOp .In) (fun x y H Q=>∃ i j,x = .str i ∧ y = .str j ∧ Q (.bl (!(Builtin.Str.occurrences j i 0 j.length 1).isEmpty)) H) := by
 intro pins s σ H x y v u Q I rx ry h
 obtain ⟨i,j,rfl,rfl,q⟩ := h
 obtain ⟨t,rfl⟩ := rx
 obtain ⟨t',rfl⟩ := ry
 exact in_str (G7 I q rfl)
theorem AQ7 : Q4 X (compareOp .Is) (fun x y H Q=>y = .non ∧ Q (.bl (decide (x = .non))) H) := by
 intro pins s σ H x y v u Q I rx ry h
 obtain ⟨rfl,q⟩ := h
 cases ry
 refine is_none_gen (G7 I q ?_)
 cases x <;> first
  | (cases rx; rfl)
  | (obtain ⟨t,rfl⟩ := rx; rfl)
theorem dZ : Q4 X (compareOp .IsNot) (fun x y H Q=>y = .non ∧ Q (.bl (!decide (x = .non))) H) := by
 intro pins s σ H x y v u Q I rx ry h
 obtain ⟨rfl,q⟩ := h
 cases ry
 refine isnot_none_gen (G7 I q ?_)
 cases x <;> first
  | (cases rx; rfl)
  | (obtain ⟨t,rfl⟩ := rx; rfl)
theorem D9 (b : Expr) {op : CmpOp} (h : op ≠ .In := by decide) (h2 : op ≠ .NotIn := by decide) : behindInMarks op b = false := by
 have e1 : (op == CmpOp.In) = false := by cases op <;> first | rfl | exact absurd rfl h
 have e2 : (op == CmpOp.NotIn) = false := by cases op <;> first | rfl | exact absurd rfl h2
 cases b <;> simp [behindInMarks,e1,e2]
theorem N8 {op : CmpOp} {r : R2} (ho : Q4 X (compareOp op) r) (ha : PE X a ta) (hb : PE X b tb) (hm : behindInMarks op b = false) : PE X (.Compare a [op] [b] pos) (wC r ta tb) := by
 intro pins s σ H Q I h
 exact wpAny_Compare1 (AC9 ha hb I h fun v u s2 x y H2 I2 rx ry q=>ho pins s2 σ H2 x y v u Q I2 rx ry q) hm
def AD9 (t : TE) : TT := fun σ H Q=>t σ H fun x H'=>∃ k,x = .bl k ∧ Q k H'
theorem E1 {op : CmpOp} {r : R2} (ho : Q4 X (compareOp op) r) (ha : PE X a ta) (hb : PE X b tb) (hm : behindInMarks op b = false) : PT X (.Compare a [op] [b] pos) (AD9 (wC r ta tb)) := by
 intro pins s σ H Q I h
 refine wpAny_isTrue_Compare1 (D8 (ha pins s σ H _ I h) fun v s1 ⟨x,H1,I1,r1,q1⟩=>D8 (hb pins s1 σ H1 _ I1 q1) fun u s2 ⟨y,H2,I2,r2,q2⟩ =>
  D8 (ho pins s2 σ H2 x y v u _ I2 r1 r2 q2) fun c s3 ⟨z,H3,I3,r3,k,e,q3⟩=>?_) hm
 subst e
 cases r3
 exact wpAny_truthy_bool ⟨H3,I3,q3⟩
def wD (r r' : R2) (ta tb tc : TE) : TE := fun σ H Q=>ta σ H fun x H1=>tb σ H1 fun y H2=>r x y H2 fun z H3=>∃ k,z = .bl k ∧
 (if k = true then tc σ H3 fun w' H4=>r' y w' H4 Q else Q (.bl false) H3)
theorem fA {op op' : CmpOp} {r r' : R2} (ho : Q4 X (compareOp op) r) (ho' : Q4 X (compareOp op') r') (ha : PE X a ta) (hb : PE X b tb) (hc : PE X c tc)
  (hm : lastMarks [op,op'] [b,c] = false := by with_unfolding_all rfl) : PE X (.Compare a [op,op'] [b,c] pos) (wD r r' ta tb tc) := by
 intro pins s σ H Q I h
 refine Compare_chain (D8 (ha pins s σ H _ I h) fun v s1 ⟨x,H1,I1,r1,q1⟩=>chain_link (D8 (hb pins s1 σ H1 _ I1 q1) fun u s2 ⟨y,H2,I2,r2,q2⟩ =>
  D8 (ho pins s2 σ H2 x y v u _ I2 r1 r2 q2) fun d s3 ⟨z,H3,I3,r3,k,e,q3⟩=>?_)) hm
 subst e
 cases r3
 refine wpAny_truthy_bool ?_
 cases k with
 | false=>exact ite_ff ⟨.bl false,H3,I3,rfl,q3⟩
 | true=>exact ite_tt (chain_last (D8 (hc pins s3 σ H3 _ I3 q3) fun w' s4 ⟨z',H4,I4,r4,q4⟩=>ho' pins s4 σ H4 y z' u w' Q I4 r2 r4 q4))
theorem zQ {op op' : CmpOp} {r r' : R2} (ho : Q4 X (compareOp op) r) (ho' : Q4 X (compareOp op') r') (ha : PE X a ta) (hb : PE X b tb) (hc : PE X c tc)
  (hm : lastMarks [op,op'] [b,c] = false := by with_unfolding_all rfl) : PT X (.Compare a [op,op'] [b,c] pos) (AD9 (wD r r' ta tb tc)) := by
 intro pins s σ H Q I h
 refine isTrue_chain (D8 (ha pins s σ H _ I h) fun v s1 ⟨x,H1,I1,r1,q1⟩=>test_link (D8 (hb pins s1 σ H1 _ I1 q1) fun u s2 ⟨y,H2,I2,r2,q2⟩ =>
  D8 (ho pins s2 σ H2 x y v u _ I2 r1 r2 q2) fun d s3 ⟨z,H3,I3,r3,k,e,q3⟩=>?_)) hm
 subst e
 cases r3
 refine wpAny_truthy_bool ?_
 cases k with
 | false =>
  obtain ⟨k',e',q'⟩ := q3
  cases e'
  exact ite_ff ⟨H3,I3,q'⟩
 | true =>
  refine ite_tt (test_last (D8 (hc pins s3 σ H3 _ I3 q3) fun w' s4 ⟨z',H4,I4,r4,q4⟩=>D8 (ho' pins s4 σ H4 y z' u w' _ I4 r2 r4 q4) fun d' s5 ⟨z2,H5,I5,r5,k2,e2,q5⟩=>?_))
  subst e2
  cases r5
  exact wpAny_truthy_bool ⟨H5,I5,q5⟩
theorem eD : (sizeLine : Nat) < 2 ^ 63 := by rw [sizeLine_eq]; decide
theorem lN : Q4 X (binaryOp .Add) (fun x y H Q=>∃ i j,x = .str i ∧ y = .str j ∧ i.length + j.length ≤ sizeLine ∧ Q (.str (i ++ j)) H) := by
 intro pins s σ H x y v u Q I rx ry h
 obtain ⟨i,j,rfl,rfl,hz,q⟩ := h
 obtain ⟨t,rfl⟩ := rx
 obtain ⟨t',rfl⟩ := ry
 exact add_str (fun t' tk=>⟨.str (i ++ j),H,I.tok _,⟨_,rfl⟩,q⟩) hz
theorem bX {x : V} {us : List Value} (r : Vals [x] us) : ∃ u,us = [u] ∧ RelV x u := by
 cases r with
 | cons r1 r2=>cases r2; exact ⟨_,rfl,r1⟩
theorem uF {x y : V} {us : List Value} (r : Vals [x,y] us) : ∃ u w',us = [u,w'] ∧ RelV x u ∧ RelV y w' := by
 cases r with
 | cons r1 r2 =>
  cases r2 with
  | cons r3 r4=>cases r4; exact ⟨_,_,rfl,r1,r3⟩
theorem AC6 : S9 X (.builtin "ord") (fun xs H Q=>∃ x,xs = [.str x] ∧ x.length = 1 ∧ Q (.int (x.cps.getD 0 0 : Nat)) H) := by
 intro pins s σ H xs us Q I r h
 obtain ⟨x,rfl,hz,q⟩ := h
 obtain ⟨u,rfl,t,rfl⟩ := bX r
 exact ord_of_one hz ⟨.int _,H,I.tok _,⟨_,rfl⟩,q⟩
end
end L2
namespace L2
open PySem PySem.Spec PyProof.Rows
structure ObjM (h : Heap) (x dx C : Addr) (mA : Str → Option Value) : Prop where
 obj : h.get? x = some (PySem.W.instObj C dx)
 ns : h.Ns1 dx mA
 ne : dx ≠ x
theorem xM {h : Heap} {dx : Addr} {mA : Str → Option Value} (n : h.Ns1 dx mA) : ∃ od,h.get? dx = some od ∧ ∀ name,PySem.W.lookIn name od = some (mA name) := by
 obtain ⟨o,es,ep,ho,hd,hk,_,hm⟩ := n
 refine ⟨o,ho,fun name=>?_⟩
 have e := hm name
 unfold nsFind findBy at e
 rw [← Array.find?_toList] at e
 unfold PySem.W.lookIn
 rw [hd]
 dsimp only
 split
 ·rename_i y q
  rw [q] at e
  exact congrArg some e
 ·rename_i q
  rw [q] at e
  have a : es.toList.any (·.refKey) = false := by
   rw [List.any_eq_false]
   intro y hy
   obtain ⟨z,t,hkey⟩ := hk y (Array.mem_toList_iff.mp hy)
   simp [DictEntry.refKey,hkey]
  have a' : ¬ es.toList.any (·.refKey) = true := by rw [a]; exact Bool.false_ne_true
  rw [if_neg a']
  exact congrArg some e
theorem ObjM.look {h : Heap} {x dx C : Addr} {mA : Str → Option Value} (I : ObjM h x dx C mA) : ∃ od,PySem.W.InstAt h x (PySem.W.instObj C dx) C (some od) ∧ ∀ name,PySem.W.lookIn name od = some (mA name) :=
 let ⟨od,ho,hl⟩ := xM I.ns
 ⟨od,⟨I.obj,rfl,rfl,ho⟩,hl⟩
section
variable {prog : Program} {w : World} {A : Around} {E : Value → Shared → Prop} {s : Shared} {K : PySem.W.Frag} {x dx C f : Addr} {mA : Str → Option Value} {name : Str} {v : Value}
theorem AM7 {expr : Bool} {Q : Value → Shared → Prop} (X : K.In s.heap) (I : ObjM s.heap x dx C mA) (hg : PySem.W.plainGet K C name = true) (hh : PySem.W.hasDictIn K C = true)
  (ha : PySem.W.findIn K (.ref C) name = some none) (hv : mA name = some v) (hv' : PySem.W.handedIn v = true) (h : Q v { s with toks := s.toks + 1 }) :
  wpAny (model prog w) A (getAttr (.ref x) name expr) Q E s := by
 obtain ⟨od,J,hl⟩ := I.look
 exact PySem.W.get_value X J (PySem.W.plainGet_of hg).1 (PySem.W.findObj_own hh ha rfl (by rw [hl,hv])) hv' h
theorem AC1 {pl : Sem Bool} {Q : Value × List Value → Shared → Prop} (X : K.In s.heap) (I : ObjM s.heap x dx C mA) (hg : PySem.W.plainGet K C name = true)
  (hf : PySem.W.findIn K (.ref C) name = some (some (.ref f))) (ht : PySem.W.isFn K (.ref f) = true) (hv : mA name = none) (h : Q (.ref f,[.ref x]) s) :
  wpAny (model prog w) A (getMethod (.ref x) name pl) Q E s := by
 obtain ⟨od,J,hl⟩ := I.look
 exact PySem.W.method_fn X J (PySem.W.plainGet_of hg).1 (PySem.W.plainGet_of hg).2 hf (beq_iff_eq.mp ht) (by show (PySem.W.lookIn name od).map (·.isSome) = some false; rw [hl,hv]; rfl) h
theorem AH8 {ns : List Str} {Q : Unit → Shared → Prop} (X : K.In s.heap) (I : ObjM s.heap x dx C mA)
  (hs : PySem.W.findIn K (.ref C) "__setattr__" = some (some (.builtin "object.__setattr__"))) (hp : PySem.W.plainOver K C = true) (ht : PySem.W.takerIn K C name = some none) (hh : PySem.W.hasDictIn K C = true)
  (hw : PySem.Within mA ns) (hsz : ns.length ≤ sizeLine)
  (h : ∀ h',ObjM h' x dx C (fun y=>if y = name then some v else mA y) → Heap.SameBut dx s.heap h' → Q () { s with heap := h',toks := s.toks + 2 }) :
  wpAny (model prog w) A (setAttr (.ref x) name v) Q E s := by
 obtain ⟨od,J,hl⟩ := I.look
 refine PySem.W.set_plain X J hs (PySem.W.osa_open (s := { s with toks := s.toks + 1 }) (r := none) X J hp ht fun b=>?_)
 obtain ⟨cd,hc,hd'⟩ := PySem.W.any_some hh
 have hx : s.heap.get? x = some ⟨.ref C,some dx,.plain,#[]⟩ := I.obj
 refine wpAny_bind (wpAny_pure (wpAny_bind (wpAny_bind (wpAny_loadPart hx (wpAny_bind (PySem.W.Looks.here (s := { s with toks := s.toks + 1 }) (PySem.W.looks_clsIn X hc) ?_))))))
 rw [hd']
 refine wpAny_pure (a := some dx) (wpAny_bind (wpAny_pure (wpAny_bind ?_)))
 refine wpAny_nsSet1 (s := { s with toks := s.toks + 1 }) I.ns fun h' hn2 hs2=>?_
 obtain ⟨oD,esD,epD,hoD,hdD,hcD⟩ := hn2.count (PySem.Within.cons name v hw)
 refine wpAny_bind (wpAny_lookBehind hoD (by rw [hdD]; exact pastItsLine_dict (Nat.le_trans hcD (by rw [List.length_cons]; omega))) ?_)
 exact wpAny_pure (h _ ⟨(hs2.2 _ (Ne.symm I.ne)).trans I.obj,hn2,I.ne⟩ hs2)
theorem AB5 {R : Result → Shared → Prop} {vs : List Value} {kw : List (Str × Value)} (X : K.In s.heap) (hm : PySem.W.makesIn K C = true)
  (hi : PySem.W.findIn K (.ref C) "__init__" = some (some (.ref f))) (hf : PySem.W.typeIn K (.ref f) = some (.type "function"))
  (h : codeAny (model prog w) (A.under (.builtin "type.__call__" ⟨.ref C :: vs,kw⟩)) (.call (.ref f) ⟨.ref (s.heap.objs.size + 1) :: vs,kw⟩) (PySem.W.InitBack (s.heap.objs.size + 1) R)
   { s with heap := (s.heap.push PySem.W.emptyDict).push (PySem.W.instObj C s.heap.objs.size) }) :
  codeAny (model prog w) A (.call (.ref C) ⟨vs,kw⟩) R s := by
 obtain ⟨hh,g,d,t,os⟩ := s
 exact PySem.W.make_core (PySem.W.makes_of X hm) (PySem.W.looks_findIn X hi) (fun self=>PySem.W.bind_fn X self hf) (.inl rfl) h
end
def U8 (f : Str) (v : V) : List (Str × V) → List (Str × V)
 | []=>[(f,v)]
 | (g,x) :: r=>if g = f then (g,v) :: r else (g,x) :: U8 f v r
theorem jQ (f g : Str) (v : V) : ∀ fs : List (Str × V),(U8 f v fs).lookup g = if g = f then some v else fs.lookup g
 | []=>by
  show List.lookup g [(f,v)] = _
  by_cases h : g = f
  ·have hb : (g == f) = true := beq_iff_eq.mpr h
   simp only [List.lookup,hb,if_pos h]
  ·have hb : (g == f) = false := beq_eq_false_iff_ne.mpr h
   simp only [List.lookup,hb,if_neg h]
 | (k,x) :: r=>by
  have ih := jQ f g v r
  rw [show U8 f v ((k,x) :: r) = (if k = f then (k,v) :: r else (k,x) :: U8 f v r) from rfl]
  by_cases hk : k = f
  ·rw [if_pos hk]
   by_cases h : g = k
   ·have hb : (g == k) = true := beq_iff_eq.mpr h
    simp only [List.lookup,hb,if_pos (h.trans hk)]
   ·have hb : (g == k) = false := beq_eq_false_iff_ne.mpr h
    simp only [List.lookup,hb,if_neg (fun e : g = f=>h (e.trans hk.symm))]
  ·rw [if_neg hk]
   by_cases h : g = k
   ·have hb : (g == k) = true := beq_iff_eq.mpr h
    simp only [List.lookup,hb,if_neg (fun e : g = f=>hk (h.symm.trans e))]
   ·have hb : (g == k) = false := beq_eq_false_iff_ne.mpr h
    simp only [List.lookup,hb]
    exact ih
theorem gX (f : Str) (v : V) : ∀ fs : List (Str × V),f ∈ (U8 f v fs).map (·.1) ∧ ∀ g,g ∈ fs.map (·.1) → g ∈ (U8 f v fs).map (·.1)
 | []=>⟨by simp [U8],fun g h=>by simp at h⟩
 | (k,x) :: r=>by
  obtain ⟨i1,i2⟩ := gX f v r
  rw [show U8 f v ((k,x) :: r) = (if k = f then (k,v) :: r else (k,x) :: U8 f v r) from rfl]
  by_cases hk : k = f
  ·rw [if_pos hk]
   subst hk
   exact ⟨by simp,fun g h=>by simpa using h⟩
  ·rw [if_neg hk]
   refine ⟨?_,fun g h=>?_⟩
   ·rw [List.map_cons]
    exact List.mem_cons_of_mem _ i1
   ·rw [List.map_cons] at h ⊢
    rcases List.mem_cons.mp h with e | e
    ·exact List.mem_cons.mpr (.inl e)
    ·exact List.mem_cons_of_mem _ (i2 g e)
theorem jR (f : Str) (v : V) : ∀ fs : List (Str × V),(U8 f v fs).length ≤ fs.length + 1
 | []=>by simp [U8]
 | (k,x) :: r=>by
  have ih := jR f v r
  rw [show U8 f v ((k,x) :: r) = (if k = f then (k,v) :: r else (k,x) :: U8 f v r) from rfl]
  by_cases hk : k = f
  ·rw [if_pos hk,List.length_cons,List.length_cons]; omega
  ·rw [if_neg hk,List.length_cons,List.length_cons]; omega
theorem RelO.some_of {v : V} {o : Option Value} (r : RelO (some v) o) : ∃ u,o = some u ∧ RelV v u := by
 cases o with
 | none=>exact (show False from r).elim
 | some u=>exact ⟨u,rfl,r⟩
theorem RelO.none_of {o : Option Value} (r : RelO none o) : o = none := by
 cases o with
 | none=>rfl
 | some u=>exact (show False from r).elim
theorem xY {v : V} {u : Value} (r : RelV v u) : PySem.W.handedIn u = true := by
 cases v with
 | non=>cases (show u = Value.none from r); rfl
 | bl b=>cases (show u = Value.bool b from r); rfl
 | int i=>obtain ⟨t,e⟩ := (show ∃ t,u = Value.int i t from r); cases e; rfl
 | str x=>obtain ⟨t,e⟩ := (show ∃ t,u = Value.str x t from r); cases e; rfl
 | byt b=>obtain ⟨t,e⟩ := (show ∃ t,u = Value.bytes b t from r); cases e; rfl
 | flt b=>obtain ⟨t,e⟩ := (show ∃ t,u = Value.float b t from r); cases e; rfl
 | ref a=>cases (show u = Value.ref a from r); rfl
 | ty n=>cases (show u = Value.type n from r); rfl
section
variable {P : Program} {w : World} {H H' : Hp} {h h' : Heap} {a C dx : Addr} {fs fs' : List (Str × V)}
theorem nU (hok : HOk P w H h) (e : H a = some (.ins C dx fs)) : ∃ mA,ObjM h a dx C mA ∧ (∀ f,RelO (fs.lookup f) (mA f)) ∧ PySem.Within mA (fs.map (·.1)) ∧ fs.length ≤ 1000 ∧ H dx = some (.own a) := by
 obtain ⟨d,z,ne,ob,mA,n,r,q⟩ := (show ObjOk P w H h a (.ins C dx fs) from hok a _ e)
 exact ⟨mA,⟨ob,n,ne⟩,r,q,z,d⟩
end
structure Cls (K : PySem.W.Frag) (C : Addr) : Prop where
 pg : PySem.W.plainGet K C Str.empty = true
 hd : PySem.W.hasDictIn K C = true
 po : PySem.W.plainOver K C = true
 sa : PySem.W.findIn K (.ref C) "__setattr__" = some (some (.builtin "object.__setattr__"))
theorem Cls.get {K : PySem.W.Frag} {C : Addr} (c : Cls K C) (f : Str) : PySem.W.plainGet K C f = true := c.pg
def NoAttr (K : PySem.W.Frag) (C : Addr) (f : Str) : Prop := PySem.W.findIn K (.ref C) f = some none
theorem NoAttr.taker {K : PySem.W.Frag} {C : Addr} {f : Str} (n : NoAttr K C f) : PySem.W.takerIn K C f = some none := by
 unfold PySem.W.takerIn
 rw [show PySem.W.findIn K (.ref C) f = some none from n]
 rfl
structure rZ (K : PySem.W.Frag) (C : Addr) (m : Str) (f : Addr) : Prop where
 at_ : PySem.W.findIn K (.ref C) m = some (some (.ref f))
 fn : PySem.W.isFn K (.ref f) = true
 kp : PySem.W.keepIn K (.ref f) = true
section
variable {X : Cx} {pins : List (Addr × Obj)} {σ : St} {H : Hp} {s : Shared} {a C dx : Addr} {fs : List (Str × V)} {f : Str} {v : V} {A : Around} {E : Value → Shared → Prop}
theorem mB {b : Bool} {Q : Value → Shared → Prop} (I : Inv X pins σ H s) (e : H a = some (.ins C dx fs)) (c : Cls X.K C) (n : NoAttr X.K C f) (l : fs.lookup f = some v)
  (h : ∀ u s',Inv X pins σ H s' → RelV v u → Q u s') : wpAny (model X.prog X.w) A (getAttr (.ref a) f b) Q E s := by
 obtain ⟨mA,O,r,_,_,_⟩ := nU I.hok e
 obtain ⟨u,hu,ru⟩ := RelO.some_of (v := v) (o := mA f) (by rw [← l]; exact r f)
 exact AM7 I.kIn O (c.get f) c.hd n hu (xY ru) (h u _ (I.tok _) ru)
theorem fN {m : Str} {g : Addr} {pl : Sem Bool} {Q : Value × List Value → Shared → Prop} (I : Inv X pins σ H s) (e : H a = some (.ins C dx fs)) (c : Cls X.K C) (k : rZ X.K C m g) (l : fs.lookup m = none)
  (h : Q (.ref g,[.ref a]) s) : wpAny (model X.prog X.w) A (getMethod (.ref a) m pl) Q E s := by
 obtain ⟨mA,O,r,_,_,_⟩ := nU I.hok e
 have hn : mA m = none := RelO.none_of (by rw [← l]; exact r m)
 exact AC1 I.kIn O (c.get m) k.at_ k.fn hn h
theorem lE {y : V} {u : Value} {Q : Unit → Shared → Prop} (I : Inv X pins σ H s) (e : H a = some (.ins C dx fs)) (c : Cls X.K C) (n : NoAttr X.K C f) (hl : fs.length < 1000) (ry : RelV y u)
  (h : ∀ s',Inv X pins σ (B6 H a (.ins C dx (U8 f y fs))) s' → Q () s') : wpAny (model X.prog X.w) A (setAttr (.ref a) f u) Q E s := by
 obtain ⟨mA,O,r,wi,_,ho⟩ := nU I.hok e
 have hz : (fs.map (·.1)).length ≤ sizeLine := by rw [List.length_map,sizeLine_eq]; omega
 refine AH8 I.kIn O c.sa c.po n.taker c.hd wi hz fun h' O' sb=>h _ ?_
 have hd : ∃ o,h'.get? dx = some o := let ⟨o,_,_,e',_⟩ := O'.ns; ⟨o,e'⟩
 refine I.write (x := a) (e := dx) (by rw [e]; exact True.intro) (.inr ho) (fun b q hb z=>(sb.2 b hb).trans z) hd ?_
 refine ⟨by rw [B5 O.ne]; exact ho,?_,O.ne,O'.obj,_,O'.ns,fun g=>?_,fun g hg=>?_⟩
 ·have := jR f y fs; omega
 ·show RelO ((U8 f y fs).lookup g) (if g = f then some u else mA g)
  rw [jQ]
  by_cases q : g = f
  ·rw [if_pos q,if_pos q]; exact ry
  ·rw [if_neg q,if_neg q]; exact r g
 ·by_cases q : g = f
  ·rw [q]; exact (gX f y fs).1
  ·refine (gX f y fs).2 g (wi g fun z=>hg ?_)
   show (if g = f then some u else mA g) = none
   rw [if_neg q]; exact z
theorem Inv.made (I : Inv X pins σ H s) : Inv X pins σ (B6 (B6 H s.heap.objs.size (.own (s.heap.objs.size + 1))) (s.heap.objs.size + 1) (.ins C s.heap.objs.size []))
  { s with heap := (s.heap.push PySem.W.emptyDict).push (PySem.W.instObj C s.heap.objs.size) } := by
 have e1 : (s.heap.push PySem.W.emptyDict).get? s.heap.objs.size = some PySem.W.emptyDict := Heap.get?_push_size s.heap rfl
 have e2 : ((s.heap.push PySem.W.emptyDict).push (PySem.W.instObj C s.heap.objs.size)).get? (s.heap.objs.size + 1) = some (PySem.W.instObj C s.heap.objs.size) := by
  have := Heap.get?_push_size (s.heap.push PySem.W.emptyDict) (o := PySem.W.instObj C s.heap.objs.size) rfl
  rwa [Heap.size_push] at this
 have e3 : (s.heap.push PySem.W.emptyDict).Ns s.heap.objs.size (fun _=>none) := ⟨PySem.W.emptyDict,#[],_,e1,rfl,(fun e he=>absurd he (by simp)),fun _=>rfl⟩
 have I1 := I.laid (a := s.heap.objs.size) (o := .own (s.heap.objs.size + 1)) (h' := s.heap.push PySem.W.emptyDict) (t' := s.toks) (fun b u q=>Heap.get?_push_of_some _ q) (Nat.le_refl _) ⟨_,e1⟩
 refine I1.laid (a := s.heap.objs.size + 1) (o := .ins C s.heap.objs.size []) (t' := s.toks) (fun b u q=>Heap.get?_push_of_some _ q) (Nat.le_of_eq (Heap.size_push _ _)) ?_
 have ne : s.heap.objs.size ≠ s.heap.objs.size + 1 := Nat.ne_of_lt (Nat.lt_succ_self _)
 refine ⟨by rw [B5 ne,B1],Nat.zero_le _,ne,e2,fun _=>none,(Heap.Ns1.of_empty e3).at fun o q=>Heap.get?_push_of_some _ q,fun _=>True.intro,fun y hy=>absurd rfl hy⟩
theorem AN6 {prog : Program} {w : World} {env : Env} {e : Expr} {f : Str} {pos : Pos} {s : Shared} {Q : Value → Shared → Prop} (hb : attributeBase e f env (eval e env) = eval e env)
  (h : wpAny (model prog w) A (eval e env) (fun o s₁=>wpAny (model prog w) A (getAttr o f true) Q E s₁) E s) : wpAny (model prog w) A (eval (.Attribute e f pos) env) Q E s :=
 Attribute_any_ h (by rw [arm_eval_Attribute,hb])
end
def BC8 (K : PySem.W.Frag) (ta : TE) (f : Str) : TE := fun σ H Q=>ta σ H fun x H1=>∃ a C dx fs v,x = .ref a ∧ H1 a = some (.ins C dx fs) ∧ Cls K C ∧ NoAttr K C f ∧ fs.lookup f = some v ∧ Q v H1
def BD3 (K : PySem.W.Frag) (ta tv : TE) (f : Str) : TS := fun D σ H=>tv σ H fun y H1=>ta σ H1 fun x H2=>∃ a C dx fs,x = .ref a ∧ H2 a = some (.ins C dx fs) ∧ Cls K C ∧ NoAttr K C f ∧ fs.length < 1000 ∧
 D.nx σ (B6 H2 a (.ins C dx (U8 f y fs)))
def AW4 (X : Cx) (op : Operator) (rd : V → V → Hp → VK → Prop) : Prop :=
 ∀ (pins : List (Addr × Obj)) (s : Shared) (σ : St) (H : Hp) (x y : V) (u v : Value) (Q : VK),Inv X pins σ H s → RelV x u → RelV y v → rd x y H Q → wpAny (model X.prog X.w) X.A (inplaceOp op u v) (EP X pins σ Q) X.xe s
def AI4 (K : PySem.W.Frag) (ta tv : TE) (rd : V → V → Hp → VK → Prop) (f : Str) : TS := fun D σ H=>ta σ H fun x H1=>∃ a C dx fs v,x = .ref a ∧ H1 a = some (.ins C dx fs) ∧ Cls K C ∧ NoAttr K C f ∧ fs.lookup f = some v ∧
 tv σ H1 fun y H2=>rd v y H2 fun z H3=>∃ dx' fs',H3 a = some (.ins C dx' fs') ∧ fs'.length < 1000 ∧ D.nx σ (B6 H3 a (.ins C dx' (U8 f z fs')))
section
variable {X : Cx} {o e value : Expr} {f : Str} {pos pos' tpos : Pos} {ta tv : TE}
theorem V0 (he : PE X e ta) (hb : attributeBase e f X.env (eval e X.env) = eval e X.env) : PE X (.Attribute e f pos) (BC8 X.K ta f) := by
 intro pins s σ H Q I h
 refine AN6 hb (D8 (he pins s σ H _ I h) fun u s1 ⟨x,H1,I1,rx,a,C,dx,fs,v,ex,ea,c,n,l,q⟩=>?_)
 subst ex
 obtain rfl : u = Value.ref a := rx
 exact mB I1 ea c n l fun u' s2 I2 ru=>⟨v,H1,I2,ru,q⟩
theorem lK (ha : PE X o ta) (hv : PE X value tv) (hs : swapsWith value (some (.Attribute o f pos')) pos.line X.env = pure false) : PS X (.Assign [.Attribute o f pos'] value pos) (BD3 X.K ta tv f) := by
 intro pins s σ H D I h
 refine plainObj_wpAny_Assign_Attribute (D8 (hv pins s σ H _ I h) fun u s1 ⟨y,H1,I1,ry,q⟩=>D8 (ha pins s1 σ H1 _ I1 q) fun ov s2 ⟨x,H2,I2,rx,a,C,dx,fs,ex,ea,c,n,l,q2⟩=>?_) hs
 subst ex
 obtain rfl : ov = Value.ref a := rx
 exact lE I2 ea c n l ry fun s3 I3=>⟨σ,_,I3,q2⟩
theorem oN {op : Operator} {rd : V → V → Hp → VK → Prop} (ha : PE X o ta) (hv : PE X value tv) (hop : AW4 X op rd) : PS X (.AugAssign (.Attribute o f tpos) op value pos) (AI4 X.K ta tv rd f) := by
 intro pins s σ H D I h
 refine wpAny_AugAssign_AttributeAny (D8 (ha pins s σ H _ I h) fun ov s1 ⟨x,H1,I1,rx,a,C,dx,fs,v,ex,ea,c,n,l,q⟩=>?_)
 subst ex
 obtain rfl : ov = Value.ref a := rx
 refine mB I1 ea c n l fun u s2 I2 ru=>D8 (hv pins s2 σ H1 _ I2 q) fun w3 s3 ⟨y,H2,I3,ry,q3⟩=>D8 (hop pins s3 σ H2 v y u w3 _ I3 ru ry q3) fun w4 s4 ⟨z,H3,I4,rz,dx',fs',ea',l',q4⟩=>?_
 exact lE I4 ea' c n l' rz fun s5 I5=>⟨σ,_,I5,q4⟩
def BE4 : V → V → Hp → VK → Prop := fun x y H Q=>∃ i j,x = .int i ∧ y = .int j ∧ Q (.int (i + j)) H
theorem xT : AW4 X .Add BE4 := by
 rintro pins s σ H x y u v Q I rx ry ⟨i,j,rfl,rfl,q⟩
 obtain ⟨t,rfl⟩ := (show ∃ t,u = Value.int i t from rx)
 obtain ⟨t',rfl⟩ := (show ∃ t',v = Value.int j t' from ry)
 exact PyProof.Rows.iadd_int ⟨.int (i + j),H,I.tok _,⟨_,rfl⟩,q⟩
end
section
variable {X : Cx} {pins : List (Addr × Obj)} {σ : St} {H : Hp} {s : Shared} {A : Around} {E : Value → Shared → Prop} {Q : Value → Shared → Prop} {c : Value} {b : Bool}
end
end L2
namespace L2
open PySem PySem.Spec PyProof.Rows
structure Room (k : Nat) (A : Around) : Prop where
 hd : A.handled = none
 dp : A.depth + 3 * k + 5 < recursionLimit
 un : A.units + 16 * k + 200 < cLine
 gd : A.guards = some []
theorem Room.mono {j k : Nat} {A : Around} (r : Room k A) (h : j ≤ k) : Room j A := ⟨r.hd,by have := r.dp; omega,by have := r.un; omega,r.gd⟩
theorem Room.deeper {k : Nat} {A : Around} (r : Room (k + 1) A) (env : Env) : Room k (A.deeper env) :=
 ⟨r.hd,by have := r.dp; show A.depth + 1 + 3 * k + 5 < _; omega,by have := r.un; show A.units + 3 + 16 * k + 200 < _; omega,r.gd⟩
theorem vC {A : Around} {C : Addr} {us : List Value} {kw : List (Str × Value)} : (A.under (.builtin "type.__call__" ⟨.ref C :: us,kw⟩)).depth = A.depth + 1 := by
 first | rfl | simp [Around.under,Code.weight,Code.isCreation,Code.isGuard,Code.isCaller,Code.frames,Code.isFrame,guardIds]
theorem vB {A : Around} {C : Addr} {us : List Value} {kw : List (Str × Value)} : (A.under (.builtin "type.__call__" ⟨.ref C :: us,kw⟩)).units = A.units + 1 := by
 first | rfl | simp [Around.under,Code.cUnits,Code.frames,Code.isFrame]
theorem sI {A : Around} {C : Addr} {us : List Value} {kw : List (Str × Value)} : (A.under (.builtin "type.__call__" ⟨.ref C :: us,kw⟩)).guards = A.guards := by
 first | rfl | simp [Around.under,Code.guards,pushGuards,Code.isGuard,guardIds]
theorem Room.make {k : Nat} {A : Around} (r : Room (k + 1) A) (C : Addr) (us : List Value) (kw : List (Str × Value)) : Room k (A.under (.builtin "type.__call__" ⟨.ref C :: us,kw⟩)) :=
 ⟨r.hd,by have := r.dp; rw [vC]; omega,by have := r.un; rw [vB]; omega,by rw [sI]; exact r.gd⟩
theorem Room.depth {k : Nat} {A : Around} (r : Room k A) : A.depth < recursionLimit := by have := r.dp; omega
theorem Room.units {k : Nat} {A : Around} (r : Room k A) : A.units + 64 < cLine := by have := r.un; omega
def fW : TA := fun _ H Q=>Q [] H
def pK (ta : TE) (tr : TA) : TA := fun σ H Q=>ta σ H fun x H1=>tr σ H1 fun xs H2=>Q (x :: xs) H2
section
variable {X : Cx} {e : Expr} {es : List Expr} {te : TE} {t : TA} {pos : Pos}
theorem B0 : PA X [] fW := fun _ _ _ _ H Q I h=>Calls.spliced_nil ⟨[],H,I,.nil,h⟩
theorem A9 (ha : PE X e te) (hr : PA X es t) (hs : starEach (e :: es) X.env = (false,eval e X.env) :: starEach es X.env := by rfl) : PA X (e :: es) (pK te t) := by
 intro pos pins s σ H Q I h
 rw [hs]
 show wpAny _ _ (spliced ((false,eval e X.env) :: backTo pos (starEach es X.env))) _ _ s
 refine Calls.spliced_cons (D8 (ha pins s σ H _ I h) fun u s1 ⟨x,H1,I1,r1,q1⟩=>?_)
 exact D8 (hr pos pins s1 σ H1 _ I1 q1) fun us s2 ⟨xs,H2,I2,r2,q2⟩=>⟨x :: xs,H2,I2,.cons r1 r2,q2⟩
def BC2 (t : TA) : TE := fun σ H Q=>t σ H fun xs H1=>xs.length ≤ sizeLine ∧ ∀ p,H1 p = none → Q (.ref p) (B6 H1 p (.tup xs))
def AO3 (t : TA) : TE := fun σ H Q=>t σ H fun xs H1=>xs.length ≤ sizeLine ∧ ∀ p,H1 p = none → Q (.ref p) (B6 H1 p (.lst xs))
theorem M6 {x1} (h : PA X es t) : PE X (.Tuple es x1 pos) (BC2 t) := by
 intro pins s σ H Q I hq
 refine wpAny_Tuple_spliced (D8 (h pos pins s σ H _ I hq) fun us s1 ⟨xs,H1,I1,r,z,q⟩=>⟨by rw [← r.length]; exact z,?_⟩)
 have hf : H1 s1.heap.objs.size = none := I1.hok.fresh (Nat.le_refl _)
 refine ⟨.ref s1.heap.objs.size,B6 H1 s1.heap.objs.size (.tup xs),I1.laid (t' := s1.toks) (fun b u e=>Heap.get?_push_of_some _ e) (Nat.le_refl _) ?_,rfl,q _ hf⟩
 exact ⟨z,us,r,⟨_,Heap.get?_push_size _ rfl,rfl,_,rfl⟩⟩
theorem J0 (h : PA X es t) : PE X (.List es pos) (AO3 t) := by
 intro pins s σ H Q I hq
 refine wpAny_List_spliced (D8 (h pos pins s σ H _ I hq) fun us s1 ⟨xs,H1,I1,r,z,q⟩=>⟨by rw [← r.length]; exact z,?_⟩)
 have hf : H1 s1.heap.objs.size = none := I1.hok.fresh (Nat.le_refl _)
 refine ⟨.ref s1.heap.objs.size,B6 H1 s1.heap.objs.size (.lst xs),I1.laid (t' := s1.toks) (fun b u e=>Heap.get?_push_of_some _ e) (Nat.le_refl _) ?_,rfl,q _ hf⟩
 exact ⟨z,us,0,r,Heap.get?_push_size _ rfl⟩
end
abbrev Sp := List V → Hp → VK → XK → Prop
abbrev X7 := List Env → Hp → Shared → XK → Value → Shared → Prop
structure Env0 (P : Program) (w : World) (K : PySem.W.Frag) (mg : Str → Option Value) (base : Heap) (A : Around) (outer : List Env) (s : Shared) (H : Hp) : Prop where
 frames : A.frames = some outer
 mod : Mod K mg base
 bs : ∀ b o,base.get? b = some o → s.heap.get? b = some o ∧ H b = none
 bsz : base.objs.size ≤ s.heap.objs.size
 funs : s.heap.FunFrames base outer
 frf : ∀ b ∈ V9 outer,H b = none
 hok : HOk P w H s.heap
 bare : AllBare s.gens
def CE (outer : List Env) (P : Program) (w : World) (H : Hp) (s : Shared) (Q : VK) (u : Value) (s' : Shared) : Prop :=
 ∃ v H',s'.os = s.os ∧ AllBare s'.gens ∧ Un (V9 outer) [] H H' s.heap s'.heap ∧ HOk P w H' s'.heap ∧ RelV v u ∧ Q v H'
def CR (CX : X7) (outer : List Env) (P : Program) (w : World) (H : Hp) (s : Shared) (Q : VK) (E : XK) (r : Result) (s' : Shared) : Prop :=
 match r with
 | .ok (.ret u)=>CE outer P w H s Q u s'
 | .ok _=>False
 | .error e=>CX outer H s E e s'
structure FnOk (P : Program) (w : World) (K : PySem.W.Frag) (mg : Str → Option Value) (base : Heap) (CX : X7) (k : Nat) (f : Addr) (fd : FuncData) (ps : List Str) (sp : Sp) : Prop where
 len : ∀ vs H Q E,sp vs H Q E → vs.length = ps.length
 run : ∀ (A : Around) (outer : List Env) (s : Shared) (H : Hp) (args : Args) (us : List Value) (vs : List V) (Q : VK) (E : XK),Room k A → Env0 P w K mg base A outer s H → BindsTo s fd args (ps.zip us) → Vals vs us → sp vs H Q E →
  codeAny (model P w) A (.call (.ref f) args) (CR CX outer P w H s Q E) s
theorem FnOk.mono {P : Program} {w : World} {K : PySem.W.Frag} {mg : Str → Option Value} {base : Heap} {CX : X7} {j k : Nat} {f : Addr} {fd : FuncData} {ps : List Str} {sp : Sp} (F : FnOk P w K mg base CX j f fd ps sp) (h : j ≤ k) :
  FnOk P w K mg base CX k f fd ps sp := ⟨F.len,fun A outer s H args us vs Q E hr=>F.run A outer s H args us vs Q E (hr.mono h)⟩
theorem Env0.make {P : Program} {w : World} {K : PySem.W.Frag} {mg : Str → Option Value} {base : Heap} {A : Around} {outer : List Env} {s : Shared} {H : Hp} (e : Env0 P w K mg base A outer s H) (C : Addr) (us : List Value) (kw : List (Str × Value)) :
  Env0 P w K mg base (A.under (.builtin "type.__call__" ⟨.ref C :: us,kw⟩)) outer s H := ⟨by first | exact e.frames | (simpa [Around.under,Code.envs,Code.isFrame,pushEnvs] using e.frames),e.mod,e.bs,e.bsz,e.funs,e.frf,e.hok,e.bare⟩
section
variable {X : Cx} {pins : List (Addr × Obj)} {σ : St} {H : Hp} {s s' : Shared}
theorem Inv.env0 (I : Inv X pins σ H s) : Env0 X.prog X.w X.K X.mg X.base X.A X.stack s H :=
 ⟨I.ok.frames,I.ok.mod,I.bs,Nat.le_trans I.ok.bsz I.sz,I.stack,I.stkFree,I.hok,I.bare⟩
theorem Inv.after {Q : VK} {u : Value} (I : Inv X pins σ H s) (h : CE X.stack X.prog X.w H s Q u s') : EP X pins σ Q u s' := by
 obtain ⟨v,H',os,bare,un,hok,r,q⟩ := h
 obtain ⟨hh,g,d,t,os'⟩ := s'
 obtain rfl : os' = s.os := os
 exact ⟨v,H',I.call (h' := hh) (g' := g) (d' := d) (t' := t) (ch := []) un hok bare (fun b z=>absurd z (by simp)),r,q⟩
end
def uL (sp : Sp) (dvs : List V) (E : XK) (t : TA) : TE := fun σ H Q=>t σ H fun vs H1=>sp (vs ++ dvs) H1 Q E
def eR (C : Addr) (m : Str) (sp : Sp) (dvs : List V) (E : XK) (ta : TE) (t : TA) : TE := fun σ H Q=>ta σ H fun x H1=>∃ a dx fs,x = .ref a ∧ H1 a = some (.ins C dx fs) ∧ fs.lookup m = none ∧
 t σ H1 fun vs H2=>sp (x :: (vs ++ dvs)) H2 Q E
def AE0 (C : Addr) (sp : Sp) (dvs : List V) (E : XK) (t : TA) : TE := fun σ H Q=>t σ H fun vs H1=>∀ x dx,H1 x = none → H1 dx = none → dx ≠ x →
 sp (.ref x :: (vs ++ dvs)) (B6 (B6 H1 dx (.own x)) x (.ins C dx [])) (fun v H2=>v = .non ∧ Q (.ref x) H2) E
def Binds (K : PySem.W.Frag) (fd : FuncData) (ps : List Str) (ds : List Value) : Prop :=
 ∀ (s : Shared) (us : List Value),K.In s.heap → (us ++ ds).length = ps.length → BindsTo s fd ⟨us,[]⟩ (ps.zip (us ++ ds))
theorem Binds.all {K : PySem.W.Frag} {fd : FuncData} {ps : List Str} (h : ∀ us : List Value,us.length = ps.length → bindArgs fd ⟨us,[]⟩ = pure (ps.zip us)) : Binds K fd ps [] := fun s us _ hl=>by
 rw [List.append_nil] at hl ⊢
 exact .of_eq (h us hl)
def S7 (CX : X7) (X : Cx) (E : XK) : Prop := ∀ (pins : List (Addr × Obj)) (σ : St) (H : Hp) (s : Shared) (e : Value) (s' : Shared),Inv X pins σ H s → CX X.stack H s E e s' → X.xe e s'
section
variable {X : Cx} {CX : X7} {k : Nat} {f C : Addr} {fd : FuncData} {ps : List Str} {sp : Sp} {dvs : List V} {ds : List Value} {E : XK} {x m : Str} {p pos apos : Pos} {e o : Expr} {es : List Expr} {ta : TE} {t : TA}
theorem lF {pins : List (Addr × Obj)} {σ : St} {H : Hp} {s : Shared} {Q : VK} {us : List Value} {vs : List V} (F : FnOk X.prog X.w X.K X.mg X.base CX k f fd ps sp) (hr : Room k X.A) (hb : Binds X.K fd ps ds) (hd : Vals dvs ds) (hx : S7 CX X E)
  (I : Inv X pins σ H s) (r : Vals vs us) (h : sp (vs ++ dvs) H Q E) : wpAny (model X.prog X.w) X.A (call (.ref f) us) (EP X pins σ Q) X.xe s := by
 have r2 : Vals (vs ++ dvs) (us ++ ds) := r.append hd
 have hl : (us ++ ds).length = ps.length := by rw [← r2.length]; exact F.len _ _ _ _ h
 refine wpAny_call (codeAny_mono (F.run X.A X.stack s H ⟨us,[]⟩ (us ++ ds) (vs ++ dvs) Q E hr I.env0 (hb s us I.kIn hl) r2 h) fun r s' hq=>?_)
 cases r with
 | error e=>exact hx pins σ H s e s' I hq
 | ok fl =>
  cases fl with
  | ret u=>exact I.after hq
  | next=>exact False.elim hq
  | brk=>exact False.elim hq
  | cont=>exact False.elim hq
theorem tH (F : FnOk X.prog X.w X.K X.mg X.base CX k f fd ps sp) (hr : Room k X.A) (hg : Gl X x) (hm : X.mg x = some (.ref f)) (hk : PySem.W.keepIn X.K (.ref f) = true) (hb : Binds X.K fd ps ds) (hd : Vals dvs ds) (hx : S7 CX X E)
  (ha : PA X (e :: es) t) (hdb : (x == ("__debug__" : Str)) = false := by decide) (he : starEach (e :: es) X.env = (false,eval e X.env) :: starEach es X.env := by rfl) (hpl : (backTo pos (starEach es X.env)).any (·.1) = false := by rfl) :
  PE X (.Call (.Name x p) (e :: es) [] pos) (uL sp dvs E t) := by
 intro pins s σ H Q I h
 refine wpAny_Call_Name_kw (Z1 I hg hm ?_ hdb)
 refine PySem.W.callWith_K (h₀ := X.base) I.ok.mod.kin hk (D8 (ha pos pins s σ H _ I h) fun us s1 ⟨vs,H1,I1,r,q⟩=>⟨I1.kIn,?_⟩) he hpl
 exact lF F hr hb hd hx I1 r q
theorem AJ1 {pl : Sem Bool} (he : PE X o ta) (c : Cls X.K C) (hm : rZ X.K C m f) (F : FnOk X.prog X.w X.K X.mg X.base CX k f fd ps sp) (hr : Room k X.A) (hb : Binds X.K fd ps ds) (hd : Vals dvs ds) (hx : S7 CX X E) (ha : PA X (e :: es) t)
  (hst : starEach (e :: es) X.env = (false,eval e X.env) :: starEach es X.env := by rfl) (hpl : (backTo pos (starEach es X.env)).any (·.1) = false := by rfl)
  (ht : eval (.Call (.Attribute o m apos) (e :: es) [] pos) X.env = (do
   let ov ← eval o X.env
   standAt apos.atName
   let (f,first) ← holding [ov] (getMethod ov m pl)
   callWith pos f first (backTo pos (starEach (e :: es) X.env)) (backToKw pos (keywordEach [] X.env))) := by rfl) :
  PE X (.Call (.Attribute o m apos) (e :: es) [] pos) (eR C m sp dvs E ta t) := by
 intro pins s σ H Q I h
 refine PySem.W.methodCall_KW (pl := pl) (D8 (he pins s σ H _ I h) fun u s1 ⟨x,H1,I1,rx,a,dx,fs,ex,ea,l,q⟩=>?_) ht
 subst ex
 obtain rfl : u = Value.ref a := rx
 refine fN I1 ea c hm l ?_
 refine PySem.W.callWith_K (first := [.ref a]) (h₀ := X.base) I.ok.mod.kin hm.kp (D8 (ha pos pins s1 σ H1 _ I1 q) fun us s2 ⟨vs,H2,I2,r,q2⟩=>⟨I2.kIn,?_⟩) hst hpl
 exact lF (us := .ref a :: us) (vs := .ref a :: vs) F hr hb hd hx I2 (.cons rfl r) q2
theorem qN {pl : Sem Bool} (he : PE X o ta) (c : Cls X.K C) (hm : rZ X.K C m f) (F : FnOk X.prog X.w X.K X.mg X.base CX k f fd ps sp) (hr : Room k X.A) (hb : Binds X.K fd ps ds) (hd : Vals dvs ds) (hx : S7 CX X E)
  (ht : eval (.Call (.Attribute o m apos) [] [] pos) X.env = (do
   let ov ← eval o X.env
   standAt apos.atName
   let (f,first) ← holding [ov] (getMethod ov m pl)
   callWith pos f first (backTo pos (starEach [] X.env)) (backToKw pos (keywordEach [] X.env))) := by rfl) :
  PE X (.Call (.Attribute o m apos) [] [] pos) (eR C m sp dvs E ta fW) := by
 intro pins s σ H Q I h
 refine PySem.W.methodCall_KW (pl := pl) (D8 (he pins s σ H _ I h) fun u s1 ⟨x,H1,I1,rx,a,dx,fs,ex,ea,l,q⟩=>?_) ht
 subst ex
 obtain rfl : u = Value.ref a := rx
 refine fN I1 ea c hm l ?_
 exact PySem.W.callWith_K0 (first := [.ref a]) I1.kIn hm.kp (lF (us := [.ref a]) (vs := [.ref a]) F hr hb hd hx I1 (.cons rfl .nil) q)
structure Mk (K : PySem.W.Frag) (C f : Addr) : Prop where
 makes : PySem.W.makesIn K C = true
 init : PySem.W.findIn K (.ref C) "__init__" = some (some (.ref f))
 fn : PySem.W.isFn K (.ref f) = true
 kp : PySem.W.keepIn K (.ref C) = true
theorem qL {pins : List (Addr × Obj)} {σ : St} {H : Hp} {s : Shared} {Q : VK} {us : List Value} {vs : List V} (M : Mk X.K C f) (F : FnOk X.prog X.w X.K X.mg X.base CX k f fd ps sp) (hr : Room (k + 1) X.A) (hb : Binds X.K fd ps ds) (hd : Vals dvs ds)
  (hx : S7 CX X E) (I : Inv X pins σ H s) (r : Vals vs us)
  (h : ∀ x dx,H x = none → H dx = none → dx ≠ x → sp (.ref x :: (vs ++ dvs)) (B6 (B6 H dx (.own x)) x (.ins C dx [])) (fun v H2=>v = .non ∧ Q (.ref x) H2) E) :
  wpAny (model X.prog X.w) X.A (call (.ref C) us) (EP X pins σ Q) X.xe s := by
 have hq := h (s.heap.objs.size + 1) s.heap.objs.size (I.hok.fresh (Nat.le_succ _)) (I.hok.fresh (Nat.le_refl _)) (Nat.ne_of_lt (Nat.lt_succ_self _))
 have I2 := Inv.made (C := C) I
 have r2 : Vals (V.ref (s.heap.objs.size + 1) :: (vs ++ dvs)) (Value.ref (s.heap.objs.size + 1) :: (us ++ ds)) := .cons rfl (r.append hd)
 have hl : (Value.ref (s.heap.objs.size + 1) :: us ++ ds).length = ps.length := by
  have e := r2.length
  rw [F.len _ _ _ _ hq] at e
  exact e.symm
 refine wpAny_call (AB5 (f := f) I.kIn M.makes M.init (beq_iff_eq.mp M.fn) (codeAny_mono (F.run _ X.stack _ _ ⟨Value.ref (s.heap.objs.size + 1) :: us,[]⟩ (Value.ref (s.heap.objs.size + 1) :: (us ++ ds)) _ _ E (hr.make C us [])
  (I2.env0.make C us []) (hb _ (Value.ref (s.heap.objs.size + 1) :: us) I2.kIn hl) r2 hq) fun r s' hq'=>?_))
 cases r with
 | error e=>exact hx pins σ _ _ e s' I2 hq'
 | ok fl =>
  cases fl with
  | ret u =>
   obtain ⟨v,H',I3,rv,ev,q3⟩ := I2.after hq'
   subst ev
   exact ⟨rv,⟨V.ref (s.heap.objs.size + 1),H',I3,rfl,q3⟩⟩
  | next=>exact False.elim hq'
  | brk=>exact False.elim hq'
  | cont=>exact False.elim hq'
theorem AJ2 (M : Mk X.K C f) (F : FnOk X.prog X.w X.K X.mg X.base CX k f fd ps sp) (hr : Room (k + 1) X.A) (hg : Gl X x) (hm : X.mg x = some (.ref C)) (hb : Binds X.K fd ps ds) (hd : Vals dvs ds) (hx : S7 CX X E)
  (ha : PA X (e :: es) t) (hdb : (x == ("__debug__" : Str)) = false := by decide) (he : starEach (e :: es) X.env = (false,eval e X.env) :: starEach es X.env := by rfl) (hpl : (backTo pos (starEach es X.env)).any (·.1) = false := by rfl) :
  PE X (.Call (.Name x p) (e :: es) [] pos) (AE0 C sp dvs E t) := by
 intro pins s σ H Q I h
 refine wpAny_Call_Name_kw (Z1 I hg hm ?_ hdb)
 refine PySem.W.callWith_K (h₀ := X.base) I.ok.mod.kin M.kp (D8 (ha pos pins s σ H _ I h) fun us s1 ⟨vs,H1,I1,r,q⟩=>⟨I1.kIn,?_⟩) he hpl
 exact qL M F hr hb hd hx I1 r q
theorem qO (M : Mk X.K C f) (F : FnOk X.prog X.w X.K X.mg X.base CX k f fd ps sp) (hr : Room (k + 1) X.A) (hg : Gl X x) (hm : X.mg x = some (.ref C)) (hb : Binds X.K fd ps ds) (hd : Vals dvs ds) (hx : S7 CX X E)
  (hdb : (x == ("__debug__" : Str)) = false := by decide) : PE X (.Call (.Name x p) [] [] pos) (AE0 C sp dvs E fW) := by
 intro pins s σ H Q I h
 refine wpAny_Call_Name_kw (Z1 I hg hm ?_ hdb)
 exact PySem.W.callWith_K0 I.kIn M.kp (qL (us := []) M F hr hb hd hx I .nil h)
end
section
variable {X : Cx} {CX : X7} {k : Nat} {f C : Addr} {fd : FuncData} {ps ks : List Str} {sp : Sp} {E : XK} {x m : Str} {p pos apos kpos : Pos} {e o : Expr} {es : List Expr} {kws : List Keyword} {te ta : TE} {t tk : TA} {nm : Option Str}
variable {g : List Value → List Value → List Value} {gV : List V → List V → List V}
end
structure D7 (N P : List Str) (sc : Scope) : Prop where
 kind : sc.kind = .function
 co : sc.isCoroutine = false
 gen : sc.isGenerator = false
 nd : N.Nodup
 pre : N.take P.length = P
 par : ∀ x ∈ P,sc.names.lookup x = some .local ∨ sc.names.lookup x = some .cell
 nofree : ∀ y ∈ sc.names,y.2 ≠ .free
theorem pC {kindOf : Str → Option NameKind} {x : Str} : ∀ {binds : List (Str × Value)} {m : Str → Option Value},(∀ v,(x,v) ∉ binds) → bindL kindOf binds m x = m x
 | [],_,_=>rfl
 | (n,v) :: r,m,h=>by
  unfold bindL
  rw [pC fun w hw=>h w (List.mem_cons_of_mem _ hw)]
  split
  ·have : x ≠ n := by rintro rfl; exact h v List.mem_cons_self
   simp [this]
  ·rfl
theorem pF {kindOf : Str → Option NameKind} {x : Str} : ∀ {binds : List (Str × Value)} {m : Str → Option Value},(∀ v,(x,v) ∉ binds) → bindC kindOf binds m x = m x
 | [],_,_=>rfl
 | (n,v) :: r,m,h=>by
  unfold bindC
  rw [pF fun w hw=>h w (List.mem_cons_of_mem _ hw)]
  split
  ·rfl
  ·have : x ≠ n := by rintro rfl; exact h v List.mem_cons_self
   simp [this]
theorem pE {kindOf : Str → Option NameKind} {x : Str} {v : Value} : ∀ {P : List Str} {vs : List Value} {i : Nat} {m : Str → Option Value},P.Nodup → P[i]? = some x → vs[i]? = some v → kindOf x = some .local →
  bindL kindOf (P.zip vs) m x = some v
 | [],_,_,_,_,h,_,_=>by simp at h
 | _ :: _,[],_,_,_,_,h,_=>by simp at h
 | p :: P,w :: vs,0,m,nd,h1,h2,hk=>by
  simp at h1 h2; subst h1; subst h2
  show bindL kindOf ((p,w) :: P.zip vs) m p = _
  unfold bindL
  rw [pC fun v hv=>(List.nodup_cons.mp nd).1 (List.of_mem_zip hv).1,if_pos hk]
  simp
 | p :: P,w :: vs,i + 1,m,nd,h1,h2,hk=>by
  show bindL kindOf ((p,w) :: P.zip vs) m x = _
  unfold bindL
  exact pE (i := i) (List.nodup_cons.mp nd).2 (by simpa using h1) (by simpa using h2) hk
theorem pG {kindOf : Str → Option NameKind} {x : Str} {v : Value} : ∀ {P : List Str} {vs : List Value} {i : Nat} {m : Str → Option Value},P.Nodup → P[i]? = some x → vs[i]? = some v → kindOf x ≠ some .local →
  bindC kindOf (P.zip vs) m x = some v
 | [],_,_,_,_,h,_,_=>by simp at h
 | _ :: _,[],_,_,_,_,h,_=>by simp at h
 | p :: P,w :: vs,0,m,nd,h1,h2,hk=>by
  simp at h1 h2; subst h1; subst h2
  show bindC kindOf ((p,w) :: P.zip vs) m p = _
  unfold bindC
  rw [pF fun v hv=>(List.nodup_cons.mp nd).1 (List.of_mem_zip hv).1,if_neg hk]
  simp
 | p :: P,w :: vs,i + 1,m,nd,h1,h2,hk=>by
  show bindC kindOf ((p,w) :: P.zip vs) m x = _
  unfold bindC
  exact pG (i := i) (List.nodup_cons.mp nd).2 (by simpa using h1) (by simpa using h2) hk
def start (N : List Str) (vs : List V) : St := vs.map some ++ List.replicate (N.length - vs.length) none
def X1 (CX : X7) (P : Program) (w : World) (K : PySem.W.Frag) (mg : Str → Option Value) (base : Heap) (N : List Str) (qual : Str) (scope : Scope) (f : Addr) (cd : Value) (A : Around) (outer : List Env) (s : Shared) (H : Hp) (E : XK) : Cx where
 prog := P
 w := w
 K := K
 mg := mg
 base := base
 A := A.deeper (envOfC qual scope s.heap.objs.size f cd)
 N := N
 s₀ := s
 H₀ := H
 env := envOfC qual scope s.heap.objs.size f cd
 outer := outer
 stack := envOfC qual scope s.heap.objs.size f cd :: outer
 ex := []
 calm := true
 fn := fun _=>true
 pn := []
 xe := fun e s'=>wpAny (model P w) (A.deeper (envOfC qual scope s.heap.objs.size f cd)) (leaving (envOfC qual scope s.heap.objs.size f cd) e) (fun _ s''=>CX outer H s E e s'') (fun e' s''=>CX outer H s E e' s'') s'
theorem rQ {sc : Scope} {n : Nat} {x : Str} (h : sc.names.lookup x = some .cell) : ∃ c,(cellsFrom n sc.names []).lookup x = some c := by
 have q := PySem.W.cellsFrom_some sc.names n [] (.inl h)
 exact Option.isSome_iff_exists.mp q
theorem xS {CX : X7} {P : Program} {w : World} {K : PySem.W.Frag} {mg : Str → Option Value} {base : Heap} {N ps : List Str} {qual : Str} {scope : Scope} {f : Addr} {cd : Value} {A : Around} {outer : List Env} {s s1 : Shared} {H : Hp} {E : XK} {us : List Value} {vs : List V}
  (S : D7 N ps scope) (hd : A.handled = none) (e0 : Env0 P w K mg base A outer s H) (hl : vs.length = ps.length) (r : Vals vs us)
  (x : InCallC s s.heap.objs.size (bindL (envOfC qual scope s.heap.objs.size f cd).kindOf (ps.zip us) fun _=>none) (cellsFrom (s.heap.objs.size + 1) scope.names []) (bindC (envOfC qual scope s.heap.objs.size f cd).kindOf (ps.zip us) fun _=>none) s1) :
  Inv (X1 CX P w K mg base N qual scope f cd A outer s H E) [] (start N vs) H s1 := by
 have hpl : ps.length ≤ N.length := by have := congrArg List.length S.pre; rw [List.length_take] at this; omega
 obtain ⟨h1,tk,rfl,hk⟩ := x.done
 have noA : ∀ b : Addr,b ∉ (X1 CX P w K mg base N qual scope f cd A outer s H E).ex := fun b z=>absurd (show b ∈ ([] : List Addr) from z) (by simp)
 refine ⟨⟨e0.mod,S.kind,rfl,rfl,Nat.le_refl _,fun y z c h1 h2=>?_,fun y hy=>?_,fun y c _ h=>?_,fun _=>hd,Around.frames_deeper e0.frames,.inr ⟨rfl,rfl⟩,fun b z=>absurd z (noA b),e0.bs,e0.bsz,fun b _ _=>noA b,fun b z=>absurd z (noA b),e0.funs,e0.frf⟩,
  rfl,e0.bare,Un.kept hk,⟨_,x.toInCall.ns,fun i y v h1 h2 h3=>?_⟩,fun y c h=>⟨_,x.cell y c h⟩,e0.hok.fresh (Nat.le_refl _),fun y c h=>?_,fun p hp=>absurd (show p ∈ ([] : List (Addr × Obj)) from hp) (by simp),e0.hok.kept hk,?_⟩
 ·exact name_of_addr x.apart (PySem.mem_of_lookup h1) (PySem.mem_of_lookup h2)
 ·have hy : scope.names.lookup y = some .cell ∨ scope.names.lookup y = some .free := hy
  rcases hy with hy | hy
  ·exact rQ hy
  ·exact absurd rfl (S.nofree _ (PySem.mem_of_lookup hy))
 ·exact Nat.le_of_lt (x.above y c (PySem.mem_of_lookup h))
 ·have hi : i < vs.length := by
   unfold start at h2
   by_cases hi : i < vs.length
   ·exact hi
   ·rw [List.getElem?_append_right (by simpa using hi)] at h2
    rw [List.getElem?_replicate] at h2
    split at h2 <;> cases h2
  have ha : vs[i]? = some v := by
   unfold start at h2
   rw [List.getElem?_append_left (by simpa using hi),List.getElem?_map] at h2
   cases e : vs[i]? with
   | none=>rw [e] at h2; cases h2
   | some a=>rw [e] at h2; cases h2; rfl
  obtain ⟨u,hu,rv⟩ := r.get ha
  have hp : ps[i]? = some y := by
   rw [← S.pre,List.getElem?_take_of_lt (by omega)]; exact h1
  have ndP : ps.Nodup := by rw [← S.pre]; exact S.nd.sublist (List.take_sublist _ _)
  refine ⟨u,rv,?_⟩
  rcases S.par y (List.mem_of_getElem? hp) with k | k
  ·exact .inl ⟨k,pE ndP hp hu k⟩
  ·obtain ⟨c,e⟩ := rQ (n := s.heap.objs.size + 1) k
   refine .inr ⟨.inl k,c,e,?_⟩
   have q := x.cell y c e
   rw [pG ndP hp hu (by show scope.names.lookup y ≠ _; rw [k]; decide)] at q
   exact q
 ·exact e0.hok.fresh (Nat.le_of_lt (x.above y c (PySem.mem_of_lookup h)))
 ·unfold start
  show _ = N.length
  rw [List.length_append,List.length_map,List.length_replicate]
  omega
theorem AF9 {CX : X7} {P : Program} {w : World} {K : PySem.W.Frag} {mg : Str → Option Value} {base : Heap} {k : Nat} {f : Addr} {name qual : Str} {params : Arguments} {body : List Stmt} {scope : Scope} {dV kV doc pm cdv ct oc : Value} {an od : Option Addr}
  {osl : Array (Option Value)} {N ps : List Str} {sp : Sp} (lk : K.lookup f = some ⟨oc,od,.func (PySem.W.fnOf name qual params body scope dV kV doc pm an cdv ct),osl⟩) (hcd : PySem.W.codeIn K cdv qual = true) (S : D7 N ps scope)
  (len : ∀ vs H Q E,sp vs H Q E → vs.length = ps.length)
  (hbody : ∀ (A : Around) (outer : List Env) (s : Shared) (H : Hp) (vs : List V) (Q : VK) (E : XK),Room k (A.deeper (envOfC qual scope s.heap.objs.size f cdv)) → sp vs H Q E →
   ∃ t,PSs (X1 CX P w K mg base N qual scope f cdv A outer s H E) body t ∧ t { nx := fun _ H'=>Q .non H',rt := Q } (start N vs) H) :
  FnOk P w K mg base CX (k + 1) f (PySem.W.fnOf name qual params body scope dV kV doc pm an cdv ct) ps sp := by
 refine ⟨len,fun A outer s H args us vs Q E hr e0 hb r hsp=>?_⟩
 have hl := len _ _ _ _ hsp
 have KX : K.In s.heap := e0.mod.kin.keeps fun b o e=>(e0.bs b o e).1
 have lim : s.heap.NoLimit := e0.mod.nolimit.keeps fun b o e=>(e0.bs b o e).1
 have hkind : ∀ y ∈ ps.zip us,scope.names.lookup y.1 = some .local ∨ (scope.names.lookup y.1 = some .cell ∧ ((cellsFrom (s.heap.objs.size + 1) scope.names []).lookup y.1).isSome = true) := fun ⟨n,v⟩ hy=>by
  rcases S.par n (List.of_mem_zip hy).1 with q | q
  ·exact .inl q
  ·exact .inr ⟨q,PySem.W.cellsFrom_some _ _ _ (.inl q)⟩
 refine codeAny_call_function hr.depth (KX _ _ lk) rfl S.co S.gen rfl (PySem.W.codeRec_of KX hcd) (hb _ _ _ _ ?_)
 refine wpAny_newFunctionEnv_cells S.kind hkind fun env he s1 x=>?_
 subst he
 refine ⟨lim.keeps x.toInCall.keep,codeAny_func ?_⟩
 obtain ⟨t,ht,hq⟩ := hbody A outer s H vs Q E (hr.deeper _) hsp
 have I : Inv (X1 CX P w K mg base N qual scope f cdv A outer s H E) [] (start N vs) H s1 := xS S hr.hd e0 hl r x
 refine wpAny_mono (ht [] s1 (start N vs) H _ I hq) (fun fl s' hs=>?_) fun e s' hs=>hs
 have fin : ∀ {σ' : St} {H' : Hp} {v : V} {u : Value},Inv (X1 CX P w K mg base N qual scope f cdv A outer s H E) [] σ' H' s' → RelV v u → Q v H' → CE outer P w H s Q u s' :=
  fun {σ' H' v u} J rv q=>⟨v,H',J.os,J.bare,J.base,J.hok,rv,q⟩
 cases fl with
 | ret u =>
  obtain ⟨v,σ',H',J,rv,q⟩ := hs
  exact fin J rv q
 | next =>
  obtain ⟨σ',H',J,q⟩ := hs
  exact fin (v := V.non) (u := Value.none) J rfl q
 | brk =>
  obtain ⟨_,_,_,q⟩ := hs
  exact False.elim q
 | cont =>
  obtain ⟨_,_,_,q⟩ := hs
  exact False.elim q
end L2
namespace L2
open PySem PySem.Spec PyProof.Rows
section
variable {X : Cx} {x : Str} {p pos : Pos} {e : Expr} {es : List Expr} {t : TA} {id T : String} {r : List V → Hp → VK → Prop}
def tCB (r : List V → Hp → VK → Prop) (t : TA) : TE := fun σ H Q=>t σ H fun vs H1=>r vs H1 Q
theorem G1 (hc : S9 X (.builtin id) r) (hg : Gl X x) (hm : X.mg x = none) (hv : bootBuiltins x = some (.builtin id)) (ha : PA X (e :: es) t) (hn : x ≠ "__name__" := by decide) (hdb : (x == ("__debug__" : Str)) = false := by decide)
  (he : starEach (e :: es) X.env = (false,eval e X.env) :: starEach es X.env := by rfl) (hpl : (backTo pos (starEach es X.env)).any (·.1) = false := by rfl) : PE X (.Call (.Name x p) (e :: es) [] pos) (tCB r t) := by
 intro pins s σ H Q I h
 refine wpAny_Call_Name_kw (bR I hg hm hv ?_ hn hdb)
 exact PyProof.Rows.callWith_builtin1 (D8 (ha pos pins s σ H _ I h) fun us s1 ⟨vs,H1,I1,r1,q1⟩=>hc pins s1 σ H1 vs us Q I1 r1 q1) he hpl
theorem N9 (hc : S9 X (.type T) r) (hg : Gl X x) (hm : X.mg x = none) (hv : bootBuiltins x = some (.type T)) (ha : PA X (e :: es) t) (hn : x ≠ "__name__" := by decide) (hdb : (x == ("__debug__" : Str)) = false := by decide)
  (he : starEach (e :: es) X.env = (false,eval e X.env) :: starEach es X.env := by rfl) (hpl : (backTo pos (starEach es X.env)).any (·.1) = false := by rfl) : PE X (.Call (.Name x p) (e :: es) [] pos) (tCB r t) := by
 intro pins s σ H Q I h
 refine wpAny_Call_Name_kw (bR I hg hm hv ?_ hn hdb)
 exact PyProof.Rows.callWith_type1 (D8 (ha pos pins s σ H _ I h) fun us s1 ⟨vs,H1,I1,r1,q1⟩=>hc pins s1 σ H1 vs us Q I1 r1 q1) he hpl
end
end L2
namespace HT
open PySem PyProof.Rows
section
open PySem.SeqAt
open PySem.AutoSeq1 (wpAny_loadPart')
open PySem.MeetsSeq PySem.MeetsSeq2 PySem.MeetsSeq3
end
section
variable {prog : Program} {w : World} {A : Around} {E : Value → Shared → Prop} {s : Shared}
def sIx (n d : Nat) : Option Int → Nat
 | none=>d
 | some v=>if v < 0 then (v + (n : Int)).toNat else min v.toNat n
theorem sIx_none (n d : Nat) : sIx n d none = d := rfl
theorem sIx_nat (n d k : Nat) : sIx n d (some (k : Int)) = min k n := by
 show (if (k : Int) < 0 then ((k : Int) + (n : Int)).toNat else min (k : Int).toNat n) = min k n
 rw [if_neg (by omega),Int.toNat_natCast]
theorem AP7 (n d : Nat) (hd : d ≤ n) (o : Option Int) : sIx n d o ≤ n := by
 cases o with
 | none=>exact hd
 | some v =>
  show (if v < 0 then (v + (n : Int)).toNat else min v.toNat n) ≤ n
  by_cases hv : v < 0
  ·rw [if_pos hv]; omega
  ·rw [if_neg hv]; exact Nat.min_le_right _ _
theorem tX (v : Int) (n d : Nat) : (if v < 0 then max (v + (n : Int)) 0 else min v (n : Int)) = ((sIx n d (some v) : Nat) : Int) := by
 show (if v < 0 then max (v + (n : Int)) 0 else min v (n : Int)) = (((if v < 0 then (v + (n : Int)).toNat else min v.toNat n) : Nat) : Int)
 by_cases hv : v < 0
 ·simp only [if_pos hv]; omega
 ·simp only [if_neg hv]; omega
theorem vS (lo hi : Option Int) (n : Nat) : Builtin.Slice.sliceAdjust lo hi 1 (n : Int) = (((sIx n 0 lo : Nat) : Int),((sIx n n hi : Nat) : Int)) := by
 have h1 : ¬ ((1 : Int) < 0) := by omega
 unfold Builtin.Slice.sliceAdjust
 simp only [h1,if_false]
 refine Prod.ext ?_ ?_
 ·cases lo with
  | none=>rfl
  | some v=>exact tX v n 0
 ·cases hi with
  | none=>rfl
  | some v=>exact tX v n n
theorem uU (i j : Nat) : Builtin.Slice.slicePlaces (i : Int) (j : Int) 1 = j - i := by
 unfold Builtin.Slice.slicePlaces
 have h1 : (1 : Int) > 0 := by omega
 simp only [h1,if_true,Int.ediv_one]
 split <;> omega
theorem lB {v : Value} {o : Option Int} {Q : Option Int → Shared → Prop} (p : IsPart v o) (h : Q o s) : wpAny (model prog w) A (Builtin.Slice.slicePartIndex v) Q E s := by
 cases p with
 | none=>exact slicePart_none h
 | int i t=>exact slicePart_int h
theorem sliceApplied_gen {sl : Addr} {vl vu : Value} {lo hi : Option Int} {n : Nat} {Q : Int × Int × Nat → Shared → Prop} (hs : s.heap.IsSliceOf sl vl vu .none) (pl : IsPart vl lo) (pu : IsPart vu hi)
  (h : Q (((sIx n 0 lo : Nat) : Int),1,sIx n n hi - sIx n 0 lo) s) : wpAny (model prog w) A (Builtin.Slice.sliceApplied (.ref sl) (pure (n : Int))) Q E s := by
 obtain ⟨os,hos,hcs,hds⟩ := id hs
 unfold Builtin.Slice.sliceApplied Builtin.Slice.sliceFields
 refine wpAny_bind (wpAny_bind (wpAny_field hos hds (x := vl) rfl (wpAny_bind (wpAny_field hos hds (x := vu) rfl (wpAny_bind (wpAny_field hos hds (x := .none) rfl (wpAny_pure ?_)))))))
 refine wpAny_bind (slicePart_none ?_)
 show wpAny _ _ (if ((1 : Int) == 0) = true then _ else _) _ _ s
 rw [if_neg (by decide)]
 refine wpAny_bind (lB pl (wpAny_bind (lB pu (wpAny_bind (wpAny_pure ?_)))))
 show wpAny _ _ (match Builtin.Slice.sliceAdjust lo hi 1 (n : Int) with | (lo,hi)=>pure (lo,(1 : Int),Builtin.Slice.slicePlaces lo hi 1)) _ _ s
 rw [vS lo hi n]
 show wpAny _ _ (pure (((sIx n 0 lo : Nat) : Int),(1 : Int),Builtin.Slice.slicePlaces ((sIx n 0 lo : Nat) : Int) ((sIx n n hi : Nat) : Int) 1)) _ _ s
 rw [uU]
 exact wpAny_pure h
theorem zU (xs : Array Value) (i k : Nat) : ((List.range k).filterMap fun (m : Nat)=>xs[((i : Int) + (m : Int) * 1).toNat]?).toArray = ((xs.toList.drop i).take k).toArray := by
 have e : (fun (m : Nat)=>xs[((i : Int) + (m : Int) * 1).toNat]?) = fun m=>xs[i + m]? := by
  funext m
  have : ((i : Int) + (m : Int) * 1).toNat = i + m := by omega
  rw [this]
 rw [e]
 have := pick_run xs i k
 rw [List.filterMap_map] at this
 have e2 : ((fun x=>xs[x]?) ∘ fun x=>i + x) = fun m=>xs[i + m]? := rfl
 rw [e2] at this
 rw [this]
theorem getItem_tuple_cut {t sl : Addr} {items : Array Value} {vl vu : Value} {lo hi : Option Int} {Q : Value → Shared → Prop} (ht : IsTup s.heap t items) (hs : s.heap.IsSliceOf sl vl vu .none) (pl : IsPart vl lo) (pu : IsPart vu hi)
  (hw : ¬ (sIx items.size 0 lo = 0 ∧ sIx items.size items.size hi = items.size))
  (h : Q (.ref s.heap.objs.size) { s with heap := s.heap.push { cls := .type "tuple",data := .seq ((items.toList.drop (sIx items.size 0 lo)).take (sIx items.size items.size hi - sIx items.size 0 lo)).toArray } })
  (hsz : items.size ≤ sizeLine) : wpAny (model prog w) A (getItem (.ref t) (.ref sl)) Q E s := by
 have htake : sizeOk (.seq ((items.toList.drop (sIx items.size 0 lo)).take (sIx items.size items.size hi - sIx items.size 0 lo)).toArray) := by
  show ((items.toList.drop (sIx items.size 0 lo)).take (sIx items.size items.size hi - sIx items.size 0 lo)).toArray.size ≤ sizeLine
  rw [List.size_toArray,List.length_take,List.length_drop,Array.length_toList]
  omega
 have hj : sIx items.size items.size hi ≤ items.size := AP7 _ _ (Nat.le_refl _) hi
 obtain ⟨os,hos,hcs,hds⟩ := id hs
 have hTs : s.TypeIs (.ref sl) "slice" := ⟨os,hos,hcs⟩
 unfold getItem
 try with_reducible refine wpAny_holding ?_
 first | refine wpAny_bind (wpAny_pure ?_) | skip
 refine wpAny_bind (wpAny_sequenceKey ht.typeIs (by decide) ?_)
 refine wpAny_bind (wpAny_callSpecial?_slot (name := Str.ofString "__getitem__") ht.typeIs PyProof.Rows.slot_tuple_getitem
  (wpAny_call_entry PyProof.Rows.slot_tuple_getitem ht.typeIs entry_tuple_getitem ?_ (args_tuple_getitem _ _)))
 show wpAny _ _ (Builtin.Tuple.tupleItemsOf (.ref t) >>= _) _ _ s
 refine wpAny_bind (tupleItemsOf_ ht ?_)
 refine wpAny_bind (wpAny_typeOf hTs ?_)
 rw [if_pos (by decide)]
 refine wpAny_bind (sliceApplied_gen hs pl pu ?_)
 have hno : ¬ ((((sIx items.size 0 lo : Nat) : Int) == 0 && (1 : Int) == 1 && (sIx items.size items.size hi - sIx items.size 0 lo) == items.size) = true) := by
  intro q
  rw [Bool.and_eq_true,Bool.and_eq_true] at q
  have q1 : ((sIx items.size 0 lo : Nat) : Int) = 0 := eq_of_beq q.1.1
  have q2 : sIx items.size items.size hi - sIx items.size 0 lo = items.size := eq_of_beq q.2
  exact hw ⟨by omega,by omega⟩
 show wpAny _ _ (if (((sIx items.size 0 lo : Nat) : Int) == 0 && (1 : Int) == 1 && (sIx items.size items.size hi - sIx items.size 0 lo) == items.size) = true then _ else _) _ _ s
 rw [if_neg hno,zU]
 first
  | exact wpAny_bind (m := Builtin.Tuple.tupleExact _) (wpAny_newObj_type (wpAny_pure ⟨_,rfl,wpAny_pure h⟩) htake)
  | exact wpAny_bind (m := Builtin.Tuple.tupleExact _) (wpAny_newObj_type (wpAny_bind (wpAny_pure (wpAny_pure ⟨_,rfl,wpAny_pure h⟩))) htake)
  | exact wpAny_bind (wpAny_bind (m := Builtin.Tuple.tupleExact _) (wpAny_newObj_type (wpAny_pure (wpAny_pure ⟨_,rfl,wpAny_pure h⟩)) htake))
  | exact wpAny_bind (wpAny_bind (m := Builtin.Tuple.tupleExact _) (wpAny_newObj_type (wpAny_pure ⟨_,rfl,wpAny_pure h⟩) htake))
end
end HT
namespace L2
open PySem PySem.Spec PyProof.Rows
abbrev TO := St → Hp → (Option Int → Hp → Prop) → Prop
def PO (X : Cx) (e : Option Expr) (t : TO) : Prop :=
 ∀ (pins : List (Addr × Obj)) (s : Shared) (σ : St) (H : Hp) (Q : Option Int → Hp → Prop),Inv X pins σ H s → t σ H Q →
  wpAny (model X.prog X.w) X.A (evalPart e X.env) (fun u s'=>∃ o H',Inv X pins σ H' s' ∧ IsPart u o ∧ Q o H') X.xe s
def AH1 : TO := fun _ H Q=>Q none H
def AX3 (t : TE) : TO := fun σ H Q=>t σ H fun x H1=>∃ i,x = .int i ∧ Q (some i) H1
section
variable {X : Cx} {e : Expr} {te : TE} {lo hi : Option Expr} {tl th : TO} {pos p2 : Pos}
theorem nJ : PO X none AH1 := by
 intro pins s σ H Q I h
 rw [evalPart_none]
 exact wpAny_pure ⟨none,H,I,.none,h⟩
theorem N6 (h : PE X e te) : PO X (some e) (AX3 te) := by
 intro pins s σ H Q I hw
 rw [evalPart_some]
 refine D8 (h pins s σ H _ I hw) fun u s1 ⟨x,H1,I1,r1,q1⟩=>?_
 obtain ⟨i,rfl,q⟩ := q1
 obtain ⟨t,rfl⟩ := r1
 exact ⟨some i,H1,I1,.int i t,q⟩
def uB (X : Cx) (r : V → Option Int → Option Int → Hp → VK → Prop) : Prop :=
 ∀ (pins : List (Addr × Obj)) (s : Shared) (σ : St) (H : Hp) (x : V) (v vl vu : Value) (lo hi : Option Int) (sl : Addr) (Q : VK),Inv X pins σ H s → RelV x v → s.heap.IsSliceOf sl vl vu .none → IsPart vl lo → IsPart vu hi → r x lo hi H Q →
  ∃ T id,typeLookup (.type T) "__getitem__" = pure (some (.builtin id)) ∧ s.TypeIs v T ∧ wpAny (model X.prog X.w) X.A (getItem v (.ref sl)) (EP X pins σ Q) X.xe s
def tSl (r : V → Option Int → Option Int → Hp → VK → Prop) (te : TE) (tl th : TO) : TE := fun σ H Q=>te σ H fun x H1=>tl σ H1 fun l H2=>th σ H2 fun u H3=>r x l u H3 Q
theorem T0 {r : V → Option Int → Option Int → Hp → VK → Prop} (hr : uB X r) (he : PE X e te) (hl : PO X lo tl) (hu : PO X hi th) : PE X (.Subscript e (.Slice lo hi none p2) pos) (tSl r te tl th) := by
 intro pins s σ H Q I h
 refine Subscript_ (D8 (he pins s σ H _ I h) fun v s1 ⟨x,H1,I1,r1,q1⟩=>?_)
 refine wpAny_Slice (D8 (hl pins s1 σ H1 _ I1 q1) fun vl s2 ⟨l,H2,I2,pl,q2⟩=>D8 (hu pins s2 σ H2 _ I2 q2) fun vu s3 ⟨u,H3,I3,pu,q3⟩=>?_)
 rw [evalPart_none]
 refine wpAny_pure ?_
 have I4 : Inv X pins σ H3 { s3 with heap := s3.heap.push { cls := .type "slice",data := .fields #[vl,vu,.none] } } := I3.kept (t' := s3.toks) fun b ob q=>Heap.get?_push_of_some _ q
 obtain ⟨T,id,hT,ht,hg⟩ := hr pins { s3 with heap := s3.heap.push { cls := .type "slice",data := .fields #[vl,vu,.none] } } σ H3 x v vl vu l u s3.heap.objs.size Q I4 r1 (Heap.IsSliceOf.new ..) pl pu q3
 show wpAny (model X.prog X.w) X.A (subscriptTail e (.Slice lo hi none p2) v (.ref s3.heap.objs.size)) (EP X pins σ Q) X.xe { s3 with heap := s3.heap.push { cls := .type "slice",data := .fields #[vl,vu,.none] } }
 exact tail_any (ops := [.ref s3.heap.objs.size,v]) ht hT hg (by with_unfolding_all rfl)
def Y3 (xs : List V) (lo hi : Option Int) : List V := (xs.drop (HT.sIx xs.length 0 lo)).take (HT.sIx xs.length xs.length hi - HT.sIx xs.length 0 lo)
theorem jV (xs : List V) (lo hi : Option Int) : (Y3 xs lo hi).length ≤ xs.length := by
 unfold Y3
 rw [List.length_take,List.length_drop]
 omega
def BD5 (K : PySem.W.Frag) : V → Option Int → Option Int → Hp → VK → Prop := fun x lo hi H Q=>∃ a xs,x = .ref a ∧ SqT K H a xs ∧
 ¬ (HT.sIx xs.length 0 lo = 0 ∧ HT.sIx xs.length xs.length hi = xs.length) ∧ ∀ p,H p = none → Q (.ref p) (B6 H p (.tup (Y3 xs lo hi)))
theorem AO8 : uB X (BD5 X.K) := by
 intro pins s σ H x v vl vu lo hi sl Q I rx hs pl pu h
 obtain ⟨a,xs,rfl,hx,hw,q⟩ := h
 cases rx
 obtain ⟨its,r,ht,hz⟩ := I.tuple hx
 have hlen : its.toArray.size = xs.length := by rw [List.size_toArray]; exact r.length.symm
 refine ⟨"tuple",_,PyProof.Rows.slot_tuple_getitem.lookup,ht.typeIs,?_⟩
 refine HT.getItem_tuple_cut ht hs pl pu (by rw [hlen]; exact hw) ?_ (by rw [hlen]; exact hz)
 rw [hlen]
 refine ⟨.ref s.heap.objs.size,_,I.laid (t' := s.toks) (o := .tup (Y3 xs lo hi)) (fun b ob q=>Heap.get?_push_of_some _ q) (Nat.le_refl _) ?_,rfl,q _ (I.hok.fresh (Nat.le_refl _))⟩
 exact ⟨Nat.le_trans (jV xs lo hi) hz,_,(r.drop (HT.sIx xs.length 0 lo)).take (HT.sIx xs.length xs.length hi - HT.sIx xs.length 0 lo),IsTup.new _ _⟩
end
end L2
namespace L2
open PySem PySem.Spec PyProof.Rows
def lV (n : Nat) (i : Int) : Option Nat := if 0 ≤ i then (if i < n then some i.toNat else none) else if -(n : Int) ≤ i then some (i + n).toNat else none
def cU {α : Type} (xs : List α) (i : Int) : Option α := (lV xs.length i).bind fun j=>xs[j]?
theorem tN {n : Nat} {i : Int} {j : Nat} (h : lV n i = some j) : seqIndex? i n = some j ∧ j < n ∧ -(n : Int) ≤ i ∧ i < n := by
 unfold lV at h
 by_cases h0 : 0 ≤ i
 ·rw [if_pos h0] at h
  by_cases h1 : i < n
  ·rw [if_pos h1] at h
   have e : i.toNat = j := Option.some.inj h
   exact ⟨by rw [seqIndex_of h0 h1,e],by omega,by omega,h1⟩
  ·rw [if_neg h1] at h; cases h
 ·rw [if_neg h0] at h
  by_cases h1 : -(n : Int) ≤ i
  ·rw [if_pos h1] at h
   have e : (i + n).toNat = j := Option.some.inj h
   exact ⟨by rw [seqIndex_neg (by omega) h1,e],by omega,h1,by omega⟩
  ·rw [if_neg h1] at h; cases h
theorem nZ {α : Type} {xs : List α} {i : Int} {v : α} (h : cU xs i = some v) : ∃ j,seqIndex? i xs.length = some j ∧ xs[j]? = some v ∧ j < xs.length ∧ -(xs.length : Int) ≤ i ∧ i < xs.length := by
 unfold cU at h
 cases e : lV xs.length i with
 | none=>rw [e] at h; cases h
 | some j =>
  rw [e] at h
  obtain ⟨h1,h2,h3,h4⟩ := tN e
  exact ⟨j,h1,h,h2,h3,h4⟩
theorem G2 {α : Type} {xs : List α} {j : Nat} {v : α} (h : xs[j]? = some v) : cU xs (j : Int) = some v := by
 have hj : j < xs.length := (List.getElem?_eq_some_iff.mp h).1
 have e : lV xs.length (j : Int) = some j := by
  unfold lV
  rw [if_pos (by omega),if_pos (by omega)]; simp
 unfold cU; rw [e]; exact h
theorem AD4 {α : Type} (xs : List α) (v : α) : cU (xs ++ [v]) (-1) = some v := by
 have hl : (xs ++ [v]).length = xs.length + 1 := by simp
 have e : lV (xs ++ [v]).length (-1) = some xs.length := by
  unfold lV
  rw [hl,if_neg (by decide),if_pos (by omega)]
  congr 1
  omega
 unfold cU
 rw [e]
 show (xs ++ [v])[xs.length]? = some v
 simp
def AN7 (b : Expr) : Prop := ∀ o i,subscripted b false o i = operate [o,i] (getItem o i)
def zA (X : Cx) (r : R2) : Prop :=
 ∀ (value slice : Expr) (pins : List (Addr × Obj)) (s : Shared) (σ : St) (H : Hp) (x y : V) (v u : Value) (Q : VK),Inv X pins σ H s → RelV x v → RelV y u → r x y H Q →
  subscripted slice false v u = operate [v,u] (getItem v u) → wpAny (model X.prog X.w) X.A (subscriptTail value slice v u) (EP X pins σ Q) X.xe s
def MtR (X : Cx) (id : String) (r : V → List V → Hp → VK → Prop) : Prop :=
 ∀ (pins : List (Addr × Obj)) (s : Shared) (σ : St) (H : Hp) (x : V) (xs : List V) (v : Value) (us : List Value) (Q : VK),Inv X pins σ H s → RelV x v → Vals xs us → r x xs H Q →
  wpAny (model X.prog X.w) X.A (call (.builtin id) (v :: us)) (EP X pins σ Q) X.xe s
section
variable {X : Cx} {a b : Expr} {ta tb : TE} {pos : Pos}
theorem G5 {r : R2} (hr : zA X r) (ha : PE X a ta) (hb : PE X b tb) (hs : AN7 b) : PE X (.Subscript a b pos) (wC r ta tb) := by
 intro pins s σ H Q I h
 exact Subscript_ (AC9 ha hb I h fun v u s2 x y H2 I2 rx ry q=>hr a b pins s2 σ H2 x y v u Q I2 rx ry q (hs _ _))
def BE0 (K : PySem.W.Frag) : R2 := fun x y H Q=>∃ p xs i v,x = .ref p ∧ y = .int i ∧ SqL K H p xs ∧ cU xs i = some v ∧ Q v H
def AQ0 (K : PySem.W.Frag) : R2 := fun x y H Q=>∃ p xs i v,x = .ref p ∧ y = .int i ∧ SqT K H p xs ∧ cU xs i = some v ∧ Q v H
def BD9 : R2 := fun x y H Q=>∃ z i c,x = .str z ∧ y = .int i ∧ z.length ≤ sizeLine ∧ cU z.cps.toList i = some c ∧ Q (.str ⟨#[c]⟩) H
theorem K5 : zA X (BE0 X.K) := by
 intro value slice pins s σ H x y v u Q I rx ry h hs
 obtain ⟨p,xs,i,z,rfl,rfl,hq,he,q⟩ := h
 cases rx
 obtain ⟨t,rfl⟩ := ry
 obtain ⟨its,r,pl,hz⟩ := I.list hq
 obtain ⟨j,h1,h2,h3,h4,h5⟩ := nZ he
 obtain ⟨w,ew,rw'⟩ := r.get h2
 have hl := r.length
 have hn := eD
 have fin : EP X pins σ Q w s := ⟨z,H,I,rw',q⟩
 by_cases h0 : 0 ≤ i
 ·have hj : i.toNat = j := by
   rw [seqIndex_of h0 h5] at h1
   exact Option.some.inj h1
  exact item_listR pl.isList h0 (by omega) (by rw [hj]; simpa using ew) fin hs
 ·have hj : (i + (its.toArray.size : Int)).toNat = j := by
   rw [seqIndex_neg (by omega) h4] at h1
   rw [List.size_toArray,← hl]
   exact Option.some.inj h1
  exact subscriptTail_builtinR (x := w) pl.isList.typeIs slot_list_getitem.lookup
   (wpAny_getItem_list_neg (Q := fun r s'=>r = w ∧ EP X pins σ Q r s') pl.isList (by omega) (by rw [List.size_toArray] <;> omega) (by omega) (by rw [hj]; simpa using ew) ⟨rfl,fin⟩) hs
theorem aG : zA X (AQ0 X.K) := by
 intro value slice pins s σ H x y v u Q I rx ry h hs
 obtain ⟨p,xs,i,z,rfl,rfl,hq,he,q⟩ := h
 cases rx
 obtain ⟨t,rfl⟩ := ry
 obtain ⟨its,r,pl,hz⟩ := I.tuple hq
 obtain ⟨j,h1,h2,h3,h4,h5⟩ := nZ he
 obtain ⟨w,ew,rw'⟩ := r.get h2
 have hl := r.length
 have hn := eD
 have fin : EP X pins σ Q w s := ⟨z,H,I,rw',q⟩
 exact subscriptTail_builtinR (x := w) pl.typeIs slot_tuple_getitem.lookup
  (getItem_tuple (j := j) (Q := fun r s'=>r = w ∧ EP X pins σ Q r s') pl (by omega) (by omega) (by rw [List.size_toArray,← hl]; exact h1) (by simpa using ew) ⟨rfl,fin⟩) hs
theorem aH : zA X BD9 := by
 intro value slice pins s σ H x y v u Q I rx ry h hs
 obtain ⟨z,i,c,rfl,rfl,hz,he,q⟩ := h
 obtain ⟨t,rfl⟩ := rx
 obtain ⟨t',rfl⟩ := ry
 obtain ⟨j,h1,h2,h3,h4,h5⟩ := nZ he
 have hl : z.cps.toList.length = z.length := by simp [Str.length]
 rw [hl] at h1 h4 h5
 have hn := eD
 exact tail_any (typeIs_str s z t) slot_str_getitem.lookup (getItem_str (c := c) (by
  have e1 : decide (i < -(2 ^ 63 : Int)) = false := decide_eq_false (by omega)
  have e2 : decide (i ≥ 2 ^ 63) = false := decide_eq_false (by omega)
  rw [e1,e2,Bool.or_false]) (by rw [h1]; simpa using h2) ⟨.str ⟨#[c]⟩,H,I.tok _,⟨_,rfl⟩,q⟩) hs
theorem vA (its : List Value) (n j : Nat) (u : Value) : Obj.mapSeq (·.setIfInBounds j u) { cls := .type "list",data := .seq its.toArray n } = { cls := .type "list",data := .seq (its.set j u).toArray n } := by
 simp [Obj.mapSeq]
theorem Inv.lst {pins : List (Addr × Obj)} {σ : St} {H : Hp} {s : Shared} {p : Addr} {xs : List V} (I : Inv X pins σ H s) (h : H p = some (.lst xs)) :
  ∃ (its : List Value) (n : Nat),Vals xs its ∧ s.heap.get? p = some { cls := .type "list",data := .seq its.toArray n } ∧ xs.length ≤ sizeLine := by
 obtain ⟨z,its,n,r,e⟩ := I.hok p _ h
 exact ⟨its,n,r,e,z⟩
theorem Inv.lstUpd {pins : List (Addr × Obj)} {σ : St} {H : Hp} {s : Shared} {p : Addr} {xs ys : List V} {its its' : List Value} {n n' : Nat} {f : Obj → Obj} (I : Inv X pins σ H s) (h : H p = some (.lst xs))
  (ho : s.heap.get? p = some { cls := .type "list",data := .seq its.toArray n }) (hf : f { cls := .type "list",data := .seq its.toArray n } = { cls := .type "list",data := .seq its'.toArray n' }) (r : Vals ys its') (hz : ys.length ≤ sizeLine) (t : Nat) :
  Inv X pins σ (B6 H p (.lst ys)) { s with heap := s.heap.update p f,toks := t } := by
 have e : (s.heap.update p f).get? p = some { cls := .type "list",data := .seq its'.toArray n' } := by
  rw [Heap.get?_update_self f ho (by rw [hf] <;> rfl),hf]
 refine I.write (x := p) (e := p) (by rw [h]; trivial) (.inl rfl) (fun b u hb q=>(Heap.get?_update_other _ _ (Ne.symm hb)).trans q) ⟨_,e⟩ ?_
 exact ⟨hz,its',n',r,e⟩
def AY4 : V → V → V → Hp → (Hp → Prop) → Prop := fun o i v H Q=>∃ p xs k j,o = .ref p ∧ i = .int k ∧ H p = some (.lst xs) ∧ lV xs.length k = some j ∧ Q (B6 H p (.lst (xs.set j v)))
theorem zH : AV7 X AY4 := by
 intro pins s σ H o i v ov iv u Q I ro ri rv h
 obtain ⟨p,xs,k,j,rfl,rfl,hp,hj,q⟩ := h
 cases ro
 obtain ⟨t,rfl⟩ := ri
 obtain ⟨its,n,r,ho,hz⟩ := I.lst hp
 obtain ⟨h1,h2,h3,h4⟩ := tN hj
 have hl := r.length
 have hn := eD
 have I' : Inv X pins σ (B6 H p (.lst (xs.set j v))) { s with heap := s.heap.update p (Obj.mapSeq (·.setIfInBounds j u)) } :=
  I.lstUpd hp ho (vA its n j u) (r.set rv j) (by rw [List.length_set]; exact hz) s.toks
 by_cases h0 : 0 ≤ k
 ·have hk : k.toNat = j := by
   rw [seqIndex_of h0 h4] at h1
   exact Option.some.inj h1
  exact PySem.W.ki_setAt ho h0 (by omega) (by rw [List.size_toArray,← hl]; exact h4) (by rw [hk]; exact ⟨_,I',q⟩)
 ·have hk : (k + (its.toArray.size : Int)).toNat = j := by
   rw [seqIndex_neg (by omega) h3] at h1
   rw [List.size_toArray,← hl]
   exact Option.some.inj h1
  exact PySem.W.ki_setBack ho (by omega) (by rw [List.size_toArray,← hl]; exact h3) (by omega) (by rw [hk]; exact ⟨_,I',q⟩)
theorem qJ (lo hi : Option Int) (n : Nat) : (sliceBounds lo hi none n).1 = ((HT.sIx n 0 lo : Nat) : Int) ∧ (sliceBounds lo hi none n).2.1 = ((HT.sIx n n hi : Nat) : Int) ∧ (sliceBounds lo hi none n).2.2 = 1 := by
 refine ⟨?_,?_,rfl⟩
 ·cases lo with
  | none=>simp [sliceBounds,HT.sIx]
  | some i =>
   simp only [sliceBounds,HT.sIx,Option.getD_none,show (1 : Int) > 0 by decide,if_true]
   by_cases h : i < 0
   ·simp only [h,if_true] <;> omega
   ·simp only [h,if_false] <;> omega
 ·cases hi with
  | none=>simp [sliceBounds,HT.sIx]
  | some i =>
   simp only [sliceBounds,HT.sIx,Option.getD_none,show (1 : Int) > 0 by decide,if_true]
   by_cases h : i < 0
   ·simp only [h,if_true] <;> omega
   ·simp only [h,if_false] <;> omega
theorem pI (its : List Value) (lo hi : Option Int) : slicePick its.toArray lo hi none = ((its.drop (HT.sIx its.length 0 lo)).take (HT.sIx its.length its.length hi - HT.sIx its.length 0 lo)).toArray := by
 obtain ⟨h1,h2,h3⟩ := qJ lo hi its.toArray.size
 unfold slicePick
 rw [h1,h2,h3]
 simp only [sliceRange_one,pick_run,List.size_toArray] <;> rfl
def BD6 (K : PySem.W.Frag) : V → Option Int → Option Int → Hp → VK → Prop := fun x lo hi H Q=>∃ a xs,x = .ref a ∧ SqL K H a xs ∧ ∀ p,H p = none → Q (.ref p) (B6 H p (.lst (Y3 xs lo hi)))
theorem AH6 : uB X (BD6 X.K) := by
 intro pins s σ H x v vl vu lo hi sl Q I rx hs pl pu h
 obtain ⟨a,xs,rfl,hx,q⟩ := h
 cases rx
 obtain ⟨its,r,ht,hz⟩ := I.list hx
 have hlen := r.length
 refine ⟨"list",_,slot_list_getitem.lookup,ht.isList.typeIs,?_⟩
 refine wpAny_getItem_list_slice ht.isList hs pl pu .none (by simp) ?_ (by rw [List.size_toArray] <;> omega)
 rw [pI,← hlen]
 refine ⟨.ref s.heap.objs.size,_,I.laid (t' := s.toks) (o := .lst (Y3 xs lo hi)) (fun b ob q=>Heap.get?_push_of_some _ q) (Nat.le_refl _) ?_,rfl,q _ (I.hok.fresh (Nat.le_refl _))⟩
 exact ⟨Nat.le_trans (jV xs lo hi) hz,_,0,(r.drop (HT.sIx xs.length 0 lo)).take (HT.sIx xs.length xs.length hi - HT.sIx xs.length 0 lo),Heap.get?_push_size _ rfl⟩
def aR : V → Bool
 | .non=>true
 | .bl _=>true
 | .int _=>true
 | .str _=>true
 | _=>false
def oW : V → V → Bool
 | .non,.non=>true
 | .bl a,.bl b=>a == b
 | .bl a,.int b=>(if a then 1 else 0) == b
 | .int a,.bl b=>a == (if b then 1 else 0)
 | .int a,.int b=>a == b
 | .str a,.str b=>a == b
 | _,_=>false
theorem AU1 {A : Around} {s : Shared} {y x : V} {u v : Value} (ry : RelV y u) (rx : RelV x v) (fy : aR y = true) (fx : aR x = true) : SeqAt.EqAt A s u v (oW y x) := by
 cases y with
 | non =>
  cases ry
  cases x with
  | non=>cases rx; exact SeqAt.EqAt.same _
  | bl b=>cases rx; exact SeqAt.EqAt.none_bool b
  | int b=>obtain ⟨t,rfl⟩ := rx; exact SeqAt.EqAt.none_int b t
  | str b=>obtain ⟨t,rfl⟩ := rx; exact SeqAt.EqAt.none_str b t
  | _=>exact absurd (show false = true from fx) Bool.false_ne_true
 | bl a =>
  cases ry
  cases x with
  | non=>cases rx; exact SeqAt.EqAt.bool_none a
  | bl b=>cases rx; exact SeqAt.EqAt.bool_bool a b
  | int b=>obtain ⟨t,rfl⟩ := rx; exact SeqAt.EqAt.bool_int a b t
  | str b=>obtain ⟨t,rfl⟩ := rx; exact SeqAt.EqAt.bool_str a b t
  | _=>exact absurd (show false = true from fx) Bool.false_ne_true
 | int a =>
  obtain ⟨t',rfl⟩ := ry
  cases x with
  | non=>cases rx; exact SeqAt.EqAt.int_none a t'
  | bl b=>cases rx; exact SeqAt.EqAt.int_bool a t' b
  | int b=>obtain ⟨t,rfl⟩ := rx; exact SeqAt.EqAt.int_int a t' b t
  | str b=>obtain ⟨t,rfl⟩ := rx; exact SeqAt.EqAt.int_str a t' b t
  | _=>exact absurd (show false = true from fx) Bool.false_ne_true
 | str a =>
  obtain ⟨t',rfl⟩ := ry
  cases x with
  | non=>cases rx; exact SeqAt.EqAt.str_none a t'
  | bl b=>cases rx; exact SeqAt.EqAt.str_bool a t' b
  | int b=>obtain ⟨t,rfl⟩ := rx; exact SeqAt.EqAt.str_int a t' b t
  | str b=>obtain ⟨t,rfl⟩ := rx; exact SeqAt.EqAt.str_str a t' b t
  | _=>exact absurd (show false = true from fx) Bool.false_ne_true
 | _=>exact absurd (show false = true from fy) Bool.false_ne_true
def bT (x : V) (u : Value) : Bool := match u with
 | .none=>oW .non x
 | .bool b=>oW (.bl b) x
 | .int i _=>oW (.int i) x
 | .str z _=>oW (.str z) x
 | _=>false
theorem yB {x y : V} {u : Value} (r : RelV y u) (f : aR y = true) : bT x u = oW y x := by
 cases y with
 | non=>cases r; rfl
 | bl b=>cases r; rfl
 | int i=>obtain ⟨t,rfl⟩ := r; rfl
 | str z=>obtain ⟨t,rfl⟩ := r; rfl
 | _=>exact absurd (show false = true from f) Bool.false_ne_true
theorem eL {x : V} : ∀ {xs : List V} {us : List Value},Vals xs us → xs.all aR = true → us.any (bT x) = xs.any fun y=>oW y x
 | _,_,.nil,_=>rfl
 | y :: xs,u :: us,.cons r t,f=>by
  rw [List.all_cons,Bool.and_eq_true] at f
  rw [List.any_cons,List.any_cons,yB r f.1,eL t f.2]
theorem bO {A : Around} {s : Shared} {x : V} {v : Value} (rx : RelV x v) (fx : aR x = true) : ∀ {xs : List V} {us : List Value},Vals xs us → xs.all aR = true → ∀ u ∈ us,SeqAt.EqAt A s u v (bT x u)
 | _,_,.nil,_=>fun u hu=>by cases hu
 | y :: xs,u :: us,.cons r t,f=>fun u' hu=>by
  rw [List.all_cons,Bool.and_eq_true] at f
  rcases List.mem_cons.mp hu with rfl | hu
  ·rw [yB r f.1]; exact AU1 r rx f.1 fx
  ·exact bO rx fx t f.2 u' hu
def eI (x : V) (xs : List V) : Bool := xs.any fun y=>oW y x
def rIn (K : PySem.W.Frag) (neg : Bool) : R2 := fun x y H Q=>∃ p xs,y = .ref p ∧ (SqL K H p xs ∨ SqT K H p xs) ∧ aR x = true ∧ xs.all aR = true ∧ Q (.bl (if neg then !eI x xs else eI x xs)) H
theorem gQ : Q4 X (compareOp .In) (rIn X.K false) := by
 intro pins s σ H x y v u Q I rx ry h
 obtain ⟨p,xs,rfl,hq,fx,fs,q⟩ := h
 cases ry
 rcases hq with hq | hq
 ·obtain ⟨its,r,pl,hz⟩ := I.list hq
  refine SeqAt.in_listAt (bT x) pl.isList (fun w hw=>bO rx fx r fs w (by simpa using hw)) ⟨.bl _,H,I,rfl,?_⟩
  rw [show its.toArray.any (bT x) = its.any (bT x) by simp,eL r fs]
  exact q
 ·obtain ⟨its,r,pl,hz⟩ := I.tuple hq
  refine SeqAt.in_tupleAt (bT x) pl (fun w hw=>bO rx fx r fs w (by simpa using hw)) ⟨.bl _,H,I,rfl,?_⟩
  rw [show its.toArray.any (bT x) = its.any (bT x) by simp,eL r fs]
  exact q
theorem qQ : Q4 X (compareOp .NotIn) (rIn X.K true) := by
 intro pins s σ H x y v u Q I rx ry h
 obtain ⟨p,xs,rfl,hq,fx,fs,q⟩ := h
 cases ry
 rcases hq with hq | hq
 ·obtain ⟨its,r,pl,hz⟩ := I.list hq
  refine SeqAt.notIn_listAt (bT x) pl.isList (fun w hw=>bO rx fx r fs w (by simpa using hw)) ⟨.bl _,H,I,rfl,?_⟩
  rw [show its.toArray.any (bT x) = its.any (bT x) by simp,eL r fs]
  exact q
 ·obtain ⟨its,r,pl,hz⟩ := I.tuple hq
  refine SeqAt.notIn_tupleAt (bT x) pl (fun w hw=>bO rx fx r fs w (by simpa using hw)) ⟨.bl _,H,I,rfl,?_⟩
  rw [show its.toArray.any (bT x) = its.any (bT x) by simp,eL r fs]
  exact q
theorem K4 : S9 X (.builtin "len") (fun xs H Q=>∃ p ys,xs = [.ref p] ∧ (SqL X.K H p ys ∨ SqT X.K H p ys) ∧ Q (.int ys.length) H) := by
 intro pins s σ H xs us Q I r h
 obtain ⟨p,ys,rfl,hq,q⟩ := h
 obtain ⟨u,rfl,rx⟩ := bX r
 cases rx
 have hn := eD
 rcases hq with hq | hq
 ·obtain ⟨its,r',pl,hz⟩ := I.list hq
  have hlen := r'.length
  exact Calls.call_len_list pl.isList (by simp only [List.size_toArray] <;> omega) ⟨.int ys.length,H,I.tok _,⟨s.toks + 1,by rw [List.size_toArray,hlen]⟩,q⟩
 ·obtain ⟨its,r',pl,hz⟩ := I.tuple hq
  have hlen := r'.length
  exact len_tuple pl (by simp only [List.size_toArray] <;> omega) ⟨.int ys.length,H,I.tok _,⟨s.toks + 1,by rw [List.size_toArray,hlen]⟩,q⟩
theorem V1 : S9 X (.builtin "len") (fun xs H Q=>∃ z,xs = [.str z] ∧ z.length ≤ sizeLine ∧ Q (.int z.length) H) := by
 intro pins s σ H xs us Q I r h
 obtain ⟨z,rfl,hz,q⟩ := h
 obtain ⟨u,rfl,t,rfl⟩ := bX r
 have hn := eD
 exact len_str (by omega) ⟨.int z.length,H,I.tok _,⟨_,rfl⟩,q⟩
theorem bU : S9 X (.type "list") (fun xs H Q=>∃ p ys,xs = [.ref p] ∧ (SqL X.K H p ys ∨ SqT X.K H p ys) ∧ ∀ l,H l = none → Q (.ref l) (B6 H l (.lst ys))) := by
 intro pins s σ H xs us Q I r h
 obtain ⟨p,ys,rfl,hq,q⟩ := h
 obtain ⟨u,rfl,rx⟩ := bX r
 cases rx
 have fin : ∀ (its : List Value),Vals ys its → ys.length ≤ sizeLine → ∀ (h' : Heap) (c' : Nat),(∀ b o',s.heap.get? b = some o' → h'.get? b = some o') →
   h'.get? s.heap.objs.size = some { cls := .type "list",dict := none,data := .seq its.toArray c',slots := #[] } → EP X pins σ Q (.ref s.heap.objs.size) { s with heap := h' } := fun its r' hz h' c' kp e =>
  ⟨.ref s.heap.objs.size,_,I.laid (t' := s.toks) kp (Nat.le_refl _) (show ObjOk X.prog X.w _ h' _ (.lst ys) from ⟨hz,its,c',r',e⟩),rfl,q _ (I.hok.fresh (Nat.le_refl _))⟩
 rcases hq with hq | hq
 ·obtain ⟨its,r',pl,hz⟩ := I.list hq
  have hlen := r'.length
  obtain ⟨o,ho,hc,n,hd⟩ := pl.isList
  exact call_list_seq p (.inl rfl) ho hc hd (fun h' c' kp e=>fin its r' hz h' c' kp e) (by simp only [List.size_toArray] <;> omega)
 ·obtain ⟨its,r',pl,hz⟩ := I.tuple hq
  have hlen := r'.length
  obtain ⟨o,ho,hc,n,hd⟩ := pl
  exact call_list_seq p (.inr rfl) ho hc hd (fun h' c' kp e=>fin its r' hz h' c' kp e) (by simp only [List.size_toArray] <;> omega)
theorem U1 : S9 X (.type "tuple") (fun xs H Q=>∃ p ys,xs = [.ref p] ∧ ((SqL X.K H p ys ∧ ∀ l,H l = none → Q (.ref l) (B6 H l (.tup ys))) ∨ (SqT X.K H p ys ∧ Q (.ref p) H))) := by
 intro pins s σ H xs us Q I r h
 obtain ⟨p,ys,rfl,h⟩ := h
 obtain ⟨u,rfl,rx⟩ := bX r
 cases rx
 rcases h with ⟨hq,q⟩ | ⟨hq,q⟩
 ·obtain ⟨its,r',pl,hz⟩ := I.list hq
  have hlen := r'.length
  refine call_tuple_list pl.isList (fun h' kp=>?_) (by simp only [List.size_toArray] <;> omega)
  have I1 : Inv X pins σ H { s with heap := h' } := I.kept (t' := s.toks) kp
  have I2 : Inv X pins σ (B6 H h'.objs.size (.tup ys)) { s with heap := h'.push { cls := .type "tuple",data := .seq its.toArray } } :=
   I1.laid (t' := s.toks) (fun b o e=>Heap.get?_push_of_some _ e) (Nat.le_refl _) (show ObjOk X.prog X.w _ _ _ (.tup ys) from ⟨hz,its,r',IsTup.new _ _⟩)
  exact ⟨.ref h'.objs.size,_,I2,rfl,q _ (I1.hok.fresh (Nat.le_refl _))⟩
 ·obtain ⟨its,r',pl,hz⟩ := I.tuple hq
  exact call_tuple_same pl ⟨.ref p,H,I,rfl,q⟩
def tyV (K : PySem.W.Frag) (T : String) (x : V) (H : Hp) : Prop := match x with
 | .str _=>T = "str"
 | .int _=>T = "int"
 | .ref p=>(T = "list" ∧ ∃ xs,SqL K H p xs) ∨ (T = "tuple" ∧ ∃ o,K.lookup p = some o ∧ o.cls = .type "tuple" ∧ o.dict = none) ∨
   (T = "dict" ∧ ((∃ kvs,H p = some (.dK kvs)) ∨ ∃ kvs,H p = some (.dT kvs))) ∨ (T = "set" ∧ ∃ S n,H p = some (.set S n))
 | _=>False
theorem vZ {pins : List (Addr × Obj)} {σ : St} {H : Hp} {s : Shared} {T : String} {x : V} {v : Value} (I : Inv X pins σ H s) (r : RelV x v) (ty : tyV X.K T x H) :
  s.TypeIs v T ∧ ∀ a,v = .ref a → ∃ ob,s.heap.get? a = some ob ∧ ob.dict = none := by
 cases x with
 | str z =>
  obtain ⟨t,rfl⟩ := r
  cases (show T = "str" from ty)
  exact ⟨typeIs_str s z t,fun _ e=>nomatch e⟩
 | int i =>
  obtain ⟨t,rfl⟩ := r
  cases (show T = "int" from ty)
  exact ⟨typeIs_int s i t,fun _ e=>nomatch e⟩
 | ref p =>
  cases r
  rcases ty with ⟨rfl,xs,hq⟩ | ⟨rfl,o,hk,hc,hd⟩ | ⟨rfl,hk⟩ | ⟨rfl,S,n,hk⟩
  ·obtain ⟨its,_,pl,_⟩ := I.list hq
   refine ⟨pl.isList.typeIs,fun a e=>?_⟩
   cases e
   obtain ⟨o,n,e,c,hd,_⟩ := pl
   exact ⟨o,e,hd⟩
  ·refine ⟨⟨o,I.kIn p o hk,hc⟩,fun a e=>?_⟩
   cases e
   exact ⟨o,I.kIn _ o hk,hd⟩
  ·have z : ∃ o,s.heap.get? p = some o ∧ o.ExactDict := by
    rcases hk with ⟨kvs,hk⟩ | ⟨kvs,hk⟩
    ·obtain ⟨_,_,_,_,o,_,_,e,ex,_⟩ := I.hok p _ hk
     exact ⟨o,e,ex⟩
    ·obtain ⟨_,_,_,_,o,_,_,e,ex,_⟩ := I.hok p _ hk
     exact ⟨o,e,ex⟩
   obtain ⟨o,e,ex⟩ := z
   refine ⟨⟨o,e,ex.1⟩,fun a e2=>?_⟩
   cases e2
   exact ⟨o,e,ex.2.1⟩
  ·obtain ⟨o,_,_,_,e,ex,_⟩ := I.hok p _ hk
   refine ⟨⟨o,e,ex.1⟩,fun a e2=>?_⟩
   cases e2
   exact ⟨o,e,ex.2.1⟩
 | _=>exact False.elim ty
def BD1 (K : PySem.W.Frag) (T : String) (r : V → List V → Hp → VK → Prop) (to : TE) : TE := fun σ H Q=>to σ H fun x H1=>tyV K T x H1 ∧ r x [] H1 Q
def tBM (K : PySem.W.Frag) (T : String) (r : V → List V → Hp → VK → Prop) (to : TE) (t : TA) : TE := fun σ H Q=>to σ H fun x H1=>tyV K T x H1 ∧ t σ H1 fun xs H2=>r x xs H2 Q
variable {o e : Expr} {es : List Expr} {to : TE} {t : TA} {name : Str} {apos cpos : Pos} {T id : String} {r : V → List V → Hp → VK → Prop}
theorem AQ5 (pa : PlainAttrs T) (slot : Slot T name id) (hty : typeOf (.builtin id) = pure (.type "method_descriptor")) (hm : MtR X id r) (ho : PE X o to)
  (hbase : attributeBase o name X.env (eval o X.env) = eval o X.env := by rfl) (hline : (apos.endLine == cpos.line) = true := by rfl) : PE X (.Call (.Attribute o name apos) [] [] cpos) (BD1 X.K T r to) := by
 intro pins s σ H Q I h
 refine wpAny_Call_method0_late hbase hline (D8 (ho pins s σ H _ I h) fun v s1 ⟨x,H1,I1,r1,ty,q1⟩=>?_)
 obtain ⟨h1,h2⟩ := vZ I1 r1 ty
 exact ⟨T,id,pa,slot,hty,h1,h2,Calls.callWith_builtin rfl (PySem.evalArgs_none (hm pins s1 σ H1 x [] v [] Q I1 r1 .nil q1))⟩
theorem O0 (pa : PlainAttrs T) (slot : Slot T name id) (hty : typeOf (.builtin id) = pure (.type "method_descriptor")) (hm : MtR X id r) (ho : PE X o to) (ha : PA X (e :: es) t)
  (hbase : attributeBase o name X.env (eval o X.env) = eval o X.env := by rfl)
  (hfew : ((backTo cpos (starEach (e :: es) X.env)).all (fun x=>!x.1) && (backToKw cpos (keywordEach [] X.env)).all (fun x=>x.1.isSome)
   && decide ((e :: es).length + ([] : List Keyword).length + (if ([] : List Keyword).isEmpty then 0 else 1) < 30)) = true := by rfl)
  (hline : (apos.endLine == cpos.line) = true := by rfl) (hs : starEach (e :: es) X.env = (false,eval e X.env) :: starEach es X.env := by rfl) (hplain : (backTo cpos (starEach es X.env)).any (·.1) = false := by rfl) :
  PE X (.Call (.Attribute o name apos) (e :: es) [] cpos) (tBM X.K T r to t) := by
 intro pins s σ H Q I h
 refine wpAny_Call_method_late hbase hfew hline rfl (D8 (ho pins s σ H _ I h) fun v s1 ⟨x,H1,I1,r1,ty,q1⟩=>?_)
 obtain ⟨h1,h2⟩ := vZ I1 r1 ty
 refine ⟨T,id,pa,slot,hty,h1,h2,?_⟩
 have hA := ha cpos pins s1 σ H1 _ I1 q1
 rw [hs] at hA ⊢
 refine Calls.callWith_builtin (by show (false || (backTo cpos (starEach es X.env)).any (·.1)) = false; rw [hplain] <;> rfl) (Calls.evalArgs_plain ?_)
 exact D8 hA fun us s2 ⟨vs,H2,I2,r2,q2⟩=>hm pins s2 σ H2 x vs v us Q I2 r1 r2 q2
end
end L2
namespace L2
open PySem PySem.Spec PyProof.Rows
def MtM (X : Cx) (id : String) (r : V → List V → Hp → VK → Prop) : Prop :=
 ∀ (pins : List (Addr × Obj)) (s : Shared) (σ : St) (H : Hp) (x : V) (xs : List V) (v : Value) (us : List Value) (Q : VK),Inv X pins σ H s → RelV x v → Vals xs us → r x xs H Q →
  wpAny (model X.prog X.w) X.A (call (.builtin id) (v :: us)) (EP X pins σ Q) X.xe s
theorem Vals.one : ∀ {x : V} {us : List Value},Vals [x] us → ∃ u,us = [u] ∧ RelV x u
 | _,_,.cons r .nil=>⟨_,rfl,r⟩
theorem Vals.zero : ∀ {us : List Value},Vals [] us → us = []
 | _,.nil=>rfl
theorem Vals.dropLast {xs : List V} {us : List Value} (h : Vals xs us) : Vals xs.dropLast us.dropLast := by
 induction h with
 | nil=>exact .nil
 | cons r t ih =>
  cases t with
  | nil=>exact .nil
  | cons q t'=>exact .cons r ih
theorem Vals.eraseIdx : ∀ {xs : List V} {us : List Value} (i : Nat),Vals xs us → Vals (xs.eraseIdx i) (us.eraseIdx i)
 | _,_,_,.nil=>.nil
 | _,_,0,.cons _ t=>t
 | _,_,i + 1,.cons r t=>.cons r (Vals.eraseIdx i t)
theorem vK {α : Type} (l : List α) : l.eraseIdx (l.length - 1) = l.dropLast := by
 induction l with
 | nil=>rfl
 | cons a r ih =>
  cases r with
  | nil=>rfl
  | cons b r =>
   have e : (a :: b :: r).length - 1 = ((b :: r).length - 1) + 1 := by
    have h1 : (a :: b :: r).length = r.length + 2 := rfl
    have h2 : (b :: r).length = r.length + 1 := rfl
    omega
   rw [e,List.eraseIdx_cons_succ,ih]
   all_goals rfl
theorem oQ {α : Type} : ∀ (l : List α) (i : Nat),(l.eraseIdx i).length ≤ l.length
 | [],_=>Nat.le_refl _
 | _ :: _,0=>Nat.le_succ _
 | _ :: r,i + 1=>Nat.succ_le_succ (oQ r i)
section
variable {X : Cx} {pins : List (Addr × Obj)} {σ : St} {H : Hp} {s : Shared} {l b : Addr} {xs ys zs : List V}
theorem Inv.lset {its its' : List Value} {n : Nat} {f : Array Value → Array Value} {t' : Nat} (I : Inv X pins σ H s) (hH : H l = some (.lst xs))
  (e : s.heap.get? l = some { cls := .type "list",data := .seq its.toArray n }) (hf : f its.toArray = its'.toArray) (hv : Vals ys its') (hz : ys.length ≤ sizeLine) :
  Inv X pins σ (B6 H l (.lst ys)) { s with heap := s.heap.update l (Obj.mapSeq f),toks := t' } := by
 have q := PySem.IsL.update e f
 rw [hf] at q
 refine I.write (x := l) (e := l) (by rw [hH]; exact trivial) (.inl rfl) (fun b' u hb hu=>(Heap.get?_update_other s.heap (Obj.mapSeq f) (Ne.symm hb)).trans hu) ⟨_,q⟩ ?_
 exact ⟨hz,its',_,hv,q⟩
theorem Inv.lnew {its : List Value} {t' : Nat} (I : Inv X pins σ H s) (hv : Vals ys its) (hz : ys.length ≤ sizeLine) :
  Inv X pins σ (B6 H s.heap.objs.size (.lst ys)) { s with heap := s.heap.push { cls := .type "list",data := .seq its.toArray },toks := t' } :=
 I.laid (fun _ _ q=>Heap.get?_push_of_some _ q) (Nat.le_refl _) ⟨hz,its,0,hv,Heap.get?_push_size _ rfl⟩
theorem Inv.fresh (I : Inv X pins σ H s) : H s.heap.objs.size = none := I.hok.fresh (Nat.le_refl _)
theorem Inv.lstM (I : Inv X pins σ H s) (hH : H l = some (.lst xs)) : xs.length ≤ sizeLine ∧ ∃ (its : List Value) (n : Nat),Vals xs its ∧ xs.length = its.length ∧ s.heap.get? l = some { cls := .type "list",data := .seq its.toArray n } := by
 obtain ⟨z,its,n,r,e⟩ := I.hok l _ hH
 exact ⟨z,its,n,r,r.length,e⟩
theorem qW {n : Nat} (h : n ≤ sizeLine) : Builtin.List.listTooLong n = false := by
 unfold Builtin.List.listTooLong
 exact decide_eq_false (by omega)
end
section
variable {X : Cx}
def AI6 : V → List V → Hp → VK → Prop := fun x vs H Q=>∃ l xs y,x = .ref l ∧ vs = [y] ∧ H l = some (.lst xs) ∧ xs.length < sizeLine ∧ Q .non (B6 H l (.lst (xs ++ [y])))
theorem J7 : MtM X "list.append" AI6 := by
 intro pins s σ H x vs v us Q I rx rv h
 obtain ⟨l,xs,y,rfl,rfl,hH,hz,q⟩ := h
 cases rx
 obtain ⟨u,rfl,ru⟩ := rv.one
 obtain ⟨z,its,n,r,hl,e⟩ := I.lstM hH
 refine call_meets F.slot_list_append ⟨_,e,rfl⟩ F.entry_list_append (F.args_list_append_2 _ _) (PySem.list_append l its.toArray n u (by rw [List.size_toArray]; omega)) ⟨e,?_⟩
 refine ⟨.non,_,I.lset (its' := its ++ [u]) hH e (by simp) (r.append (.cons ru .nil)) ?_,rfl,q⟩
 rw [List.length_append,List.length_singleton]
 omega
def BD8 : V → List V → Hp → VK → Prop := fun x vs H Q=>∃ l xs y,x = .ref l ∧ vs = [] ∧ H l = some (.lst xs) ∧ xs[xs.length - 1]? = some y ∧ Q y (B6 H l (.lst xs.dropLast))
theorem AS3 : MtM X "list.pop" BD8 := by
 intro pins s σ H x vs v us Q I rx rv h
 obtain ⟨l,xs,y,rfl,rfl,hH,hy,q⟩ := h
 cases rx
 have hus := rv.zero
 subst hus
 obtain ⟨z,its,n,r,hl,e⟩ := I.lstM hH
 obtain ⟨u,hu,ru⟩ := r.get hy
 have hy' : its.toArray[its.toArray.size - 1]? = some u := by
  show its.toArray[its.length - 1]? = some u
  rw [← Array.getElem?_toList,← hl]
  exact hu
 refine call_meets F.slot_list_pop ⟨_,e,rfl⟩ F.entry_list_pop (F.args_list_pop_1 _) (MeetsSeq.list_pop_last l its.toArray n u hy' (by rw [List.size_toArray]; omega)) ⟨e,?_⟩
 refine ⟨y,_,I.lset (its' := its.dropLast) hH e ?_ r.dropLast ?_,ru,q⟩
 ·show its.toArray.eraseIdxIfInBounds (its.toArray.size - 1) = its.dropLast.toArray
  rw [List.size_toArray,List.eraseIdxIfInBounds_toArray,vK]
 ·rw [List.length_dropLast]
  omega
def AP9 : V → List V → Hp → VK → Prop := fun x vs H Q=>∃ l xs i k y,x = .ref l ∧ vs = [.int i] ∧ H l = some (.lst xs) ∧ -(2 ^ 63) ≤ i ∧ i < 2 ^ 63 ∧ seqIndex? i xs.length = some k ∧ xs[k]? = some y ∧ Q y (B6 H l (.lst (xs.eraseIdx k)))
theorem fJ : MtM X "list.pop" AP9 := by
 intro pins s σ H x vs v us Q I rx rv h
 obtain ⟨l,xs,i,k,y,rfl,rfl,hH,h1,h2,hk,hy,q⟩ := h
 cases rx
 obtain ⟨u,rfl,ru⟩ := rv.one
 obtain ⟨t,rfl⟩ := ru
 obtain ⟨z,its,n,r,hl,e⟩ := I.lstM hH
 obtain ⟨w,hw,rw'⟩ := r.get hy
 refine call_meets F.slot_list_pop ⟨_,e,rfl⟩ F.entry_list_pop (F.args_list_pop_2 _ _)
  (MeetsSeq.list_pop_at l its.toArray n i t k w (fitsIndex_both h1 h2) (by rw [List.size_toArray,← hl]; exact hk) (by rw [← Array.getElem?_toList]; exact hw) (by rw [List.size_toArray]; omega)) ⟨e,?_⟩
 refine ⟨y,_,I.lset (its' := its.eraseIdx k) hH e ?_ (r.eraseIdx k) ?_,rw',q⟩
 ·show its.toArray.eraseIdxIfInBounds k = (its.eraseIdx k).toArray
  rw [List.eraseIdxIfInBounds_toArray]
 ·have := oQ xs k
  omega
def BE3 : R2 := fun x y H Q=>∃ l b xs zs,x = .ref l ∧ y = .ref b ∧ H l = some (.lst xs) ∧ H b = some (.lst zs) ∧ xs.length + zs.length ≤ sizeLine ∧ ∀ p,H p = none → Q (.ref p) (B6 H p (.lst (xs ++ zs)))
theorem wY : Q4 X (binaryOp .Add) BE3 := by
 intro pins s σ H x y v u Q I rx ry h
 obtain ⟨l,b,xs,zs,rfl,rfl,hH,hB,hz,q⟩ := h
 cases rx
 cases ry
 obtain ⟨z,its,n,r,hl,e⟩ := I.lstM hH
 obtain ⟨z2,its2,n2,r2,hl2,e2⟩ := I.lstM hB
 refine PySem.P.add_list e e2 ?_ (by rw [List.size_toArray,List.size_toArray]; omega)
 have ea : its.toArray ++ its2.toArray = (its ++ its2).toArray := by simp
 rw [ea]
 exact ⟨.ref _,_,I.lnew (t' := s.toks) (r.append r2) (by rw [List.length_append]; omega),rfl,q _ I.fresh⟩
end
section
variable {prog : Program} {w : World} {A : Around} {E : Value → Shared → Prop} {s : Shared}
end
section
variable {X : Cx}
end
end L2
namespace Att
open PySem PySem.W PySem.Calls PyProof.Rows
theorem lY {P : Params} {h : Heap} : ∀ (ns : List Int) (vs : List Value),WellAll P h vs (ns.map WData.int) → IntsAre vs ns := by
 intro ns
 induction ns with
 | nil =>
  intro vs w
  rw [List.map_nil] at w
  cases w
  exact .nil
 | cons n ns ih =>
  intro vs w
  rw [List.map_cons] at w
  cases w with
  | cons a b =>
   cases a
   exact .cons _ _ (ih _ b)
theorem wH {l : OpenLaw} {n : Nat} (hn : l.most = some n) {P : Params} {h : Heap} {args : List WData} {vals : List Value}
  (hpre : l.row.toRowW.claim.pre args = true) (hwl : WellAll P h vals args) :
  ∃ a vs ns,vals = [Value.ref a] ∧ args = [WData.list (ns.map WData.int)] ∧ h.get? a = some { cls := .type "list",data := .seq vs.toArray } ∧ IntsAre vs ns ∧ ns.length ≤ n := by
 have hsh : WShape.hasAll [] args [.list .int] = true := (pre_splitW hpre).1
 have hc : l.pre.holds [] { args := args } = true := (pre_splitW hpre).2
 obtain ⟨d,r,rfl,h1,h2⟩ := hasAllW_cons hsh
 obtain rfl := hasAllW_nil h2
 obtain ⟨xs,rfl,h3⟩ := hasW_list h1
 obtain ⟨ns,rfl⟩ := items_int h3
 have hlen : ns.length ≤ n := by
  unfold OpenLaw.pre at hc
  have h4 : (WTm.not (.lt (.lit (.int (n : Int))) (.len (.arg 0)))).holds [] { args := [.list (ns.map .int)] } = true := by
   have h4 := (holds_andW hc).1
   rw [hn] at h4
   exact h4
  have h5 := condW_of h4 (w_not (w_lt w_lit (w_len_list (w_arg rfl))))
  rw [List.length_map] at h5
  refine Nat.le_of_not_lt fun q=>?_
  have q' : (n : Int) < ((ns.length : Nat) : Int) := by omega
  first
   | (rw [decide_eq_true q'] at h5; exact absurd h5 (by decide))
   | (simp at h5; omega)
 cases hwl with
 | cons w1 w2 =>
  cases w2
  cases w1 with
  | list ho hall=>exact ⟨_,_,ns,rfl,rfl,ho,lY ns _ hall,hlen⟩
theorem wT (l : OpenLaw) (args : List WData) : l.row.toRowW.claim.post args (.bool true) args = true :=
 postW_of (r := l.row.toRowW) (X := (true == true))
  (show WShape.has [] (.bool true) .bool = true by first | rfl | decide | simp [WShape.has,WShape.arms,WShape.armsAll])
  (show (WTm.eq .res (.lit (.bool true))).value [] { args := args,res := some (.bool true),after := args } = some (.bool (true == true)) from w_eq_bool (w_res rfl) w_lit) rfl
theorem attach_call {l : OpenLaw} {n : Nat} {q : Program} {loose : List Str} {XP : (Str → Option Value) → Heap → Prop} {YP : World → Heap → Prop} {d : DefRec}
  (hn : l.most = some n) (hdf : d.params.defaults = [])
  (call : ∀ (w : World) (s₀ s₁ : Shared) (mg mb : Str → Option Value) (fa : Addr) (o : Obj) (pm cd doc : Value) (a : Addr) (vs : List Value) (ns : List Int),
   Ground q loose [] XP w s₀ mg mb s₁.heap → YP w s₁.heap →
   s₁.heap.get? fa = some o → o.data = .func (docDef d.name d.params d.body d.scope pm cd doc) → s₁.heap.CodeRec cd d.name → mg d.name = some (.ref fa) →
   s₁.heap.get? a = some { cls := .type "list",data := .seq vs.toArray } → IntsAre vs ns → ns.length ≤ n → s₁.gens = #[] →
   codeAny (model l.prog w) callerA (.call (.ref fa) ⟨[.ref a],[]⟩) (fun r s'=>r = .ok (.ret (.bool true)) ∧ OldK s₁.heap s'.heap ∧ s'.os = s₁.os ∧ AllBare s'.gens) s₁) :
  WalkO q loose XP YP l.row.toRowW d [] (fun f vs=>PySem.call f vs) := by
 intro w s₀ s₁ mg mb G Y fa o pm cd doc dV kV ho hd hcd hD hmg hg args vals as hpre hlay hrd hwl hlo
 obtain rfl : dV = .none := Dflts.none hD hdf
 obtain rfl : kV = .none := Dflts.noKw hD
 obtain ⟨a,vs,ns,rfl,rfl,hobj,hints,hlen⟩ := wH hn hpre hwl
 refine enter_call (codeAny_mono (call w s₀ s₁ mg mb fa o pm cd doc a vs ns G Y ho (fd_plain hd) hcd hmg hobj hints hlen hg) fun r s' hq=>?_)
 obtain ⟨rfl,h2,h3,h4⟩ := hq
 exact ⟨.inl ⟨.bool true,.bool true,[],rfl,fun _=>rfl,.bool true,wT l _,fun _=>⟨List.Pairwise.nil,fun _ hm=>(nomatch hm)⟩⟩,h2,h3,h4⟩
section
variable {prog : Program} {w : World} {A : Around} {E : Value → Shared → Prop} {s : Shared} {K : Frag}
end
end Att
namespace L2
open PySem PySem.Spec PyProof.Rows
theorem oG : ∀ {vs : List Value} {ns : List Int},IntsAre vs ns → Vals (ns.map V.int) vs
 | _,_,.nil=>.nil
 | _,_,.cons n t h=>.cons ⟨t,rfl⟩ (oG h)
def AD6 (H : Hp) : Prop := ∀ b,H b = none ∨ ∃ o xs,H b = some (.frz o (.lst xs))
theorem AB9 {P : Program} {w : World} {K : PySem.W.Frag} {mg mb : Str → Option Value} {CX : X7} {k : Nat} {fa a : Addr} {fd : FuncData} {x : Str} {sp : Sp} {s₁ : Shared} {vs : List Value} {ns : List Int}
  (KX : K.In s₁.heap) (hns : s₁.heap.Ns mainGlobals mg) (hb : s₁.heap.Ns builtinsNs mb) (hbb : ∀ x : Str,x ≠ "__name__" → mb x = bootBuiltins x) (hlim : s₁.heap.NoLimit) (hg : s₁.gens = #[])
  (ha : s₁.heap.get? a = some { cls := .type "list",data := .seq vs.toArray }) (hi : IntsAre vs ns) (hl : ns.length ≤ sizeLine) (hr : Room k callerA)
  (F : ∀ base : Heap,K.In base → base.Ns mainGlobals mg → FnOk P w K mg base CX k fa fd [x] sp) (hbind : ∀ (s : Shared) (u : Value),BindsTo s fd ⟨[u],[]⟩ [(x,u)])
  (hsp : ∀ H : Hp,AD6 H → SqL K H a (ns.map V.int) → sp [.ref a] H (fun v _=>v = .bl true) fun _ _ _=>False)
  (hCX : ∀ H e s',CX [] H s₁ (fun _ _ _=>False) e s' → False) :
  codeAny (model P w) callerA (.call (.ref fa) ⟨[.ref a],[]⟩) (fun r s'=>r = .ok (.ret (.bool true)) ∧ OldK s₁.heap s'.heap ∧ s'.os = s₁.os ∧ AllBare s'.gens) s₁ := by
 have rv := oG hi
 have lenV := hi.length
 have core : ∀ H : Hp,AD6 H → SqL K H a (ns.map V.int) → HOk P w H s₁.heap → (∀ b,H b ≠ none → b = a) → (H a ≠ none → K.lookup a = none) →
   codeAny (model P w) callerA (.call (.ref fa) ⟨[.ref a],[]⟩) (fun r s'=>r = .ok (.ret (.bool true)) ∧ OldK s₁.heap s'.heap ∧ s'.os = s₁.os ∧ AllBare s'.gens) s₁ := by
  intro H hO hS hok hA hK
  have base_of : ∀ {b : Addr} {o : Obj},s₁.heap.get? b = some o → H b = none → (fM s₁.heap H).get? b = some o := fun e n=>AC0 e n
  have noA : ∀ {b : Addr} {o : Obj} {es : Array DictEntry} {ep : Nat},s₁.heap.get? b = some o → o.data = .dict es ep → H b = none := fun {b o es ep} e d=>by
   cases q : H b with
   | none=>rfl
   | some u =>
    have e' : b = a := hA b (by rw [q]; simp)
    subst e'
    rw [ha] at e; cases e
    have d' : Data.seq vs.toArray _ = Data.dict es ep := d
    cases d'
  have nsK : ∀ {b : Addr} {m : Str → Option Value},s₁.heap.Ns b m → (fM s₁.heap H).Ns b m := fun {b m} ⟨o,es,ep,e,d,r⟩=>⟨o,es,ep,base_of e (noA e d),d,r⟩
  have hKb : K.In (fM s₁.heap H) := fun b o e=>base_of (KX b o e) (by
   cases q : H b with
   | none=>rfl
   | some u =>
    have e' : b = a := hA b (by rw [q]; simp)
    subst e'
    rw [hK (by rw [q]; simp)] at e; cases e)
  have hM : Mod K mg (fM s₁.heap H) := ⟨hKb,nsK hns,⟨mb,nsK hb,hbb⟩,let ⟨mc,h1,h2⟩ := hlim; ⟨mc,nsK h1,h2⟩⟩
  have e0 : Env0 P w K mg (fM s₁.heap H) callerA [] s₁ H := ⟨rfl,hM,fun b o e=>AL5 e,Nat.le_of_eq (xW _ _),trivial,fun b hb=>absurd (show b ∈ ([] : List Addr) from hb) (by simp),hok,.of_eq hg⟩
  refine codeAny_mono ((F _ hKb (nsK hns)).run callerA [] s₁ H ⟨[.ref a],[]⟩ [.ref a] [.ref a] _ _ hr e0 (hbind s₁ (.ref a)) (.cons rfl .nil) (hsp H hO hS)) fun r s' h=>?_
  cases r with
  | error e=>exact (hCX H e s' h).elim
  | ok fl =>
   cases fl with
   | next=>exact False.elim h
   | brk=>exact False.elim h
   | cont=>exact False.elim h
   | ret u =>
    obtain ⟨v,H',os,bare,un,hok',r',q⟩ := h
    have q' : v = .bl true := q
    subst q'
    obtain rfl : u = Value.bool true := r'
    refine ⟨rfl,OldK.of_keep fun b o e=>?_,os,bare⟩
    cases q : H b with
    | none=>exact un.keep b o e q (by intro z; exact absurd (show b ∈ ([] : List Addr) from z) (by simp)) (by simp)
    | some u =>
     rcases hO b with z | ⟨ob,xs,z⟩
     ·rw [q] at z; cases z
     ·have z2 := un.frzs b ob _ z
      obtain ⟨e1,_⟩ := hok b _ z
      obtain ⟨e2,_⟩ := hok' b _ z2
      rw [e] at e1; cases e1
      exact e2
 cases hk : K.lookup a with
 | some o =>
  have e := KX a o hk
  rw [ha] at e
  cases e
  refine core (fun _=>none) (fun _=>.inl rfl) (.inr ⟨_,vs.toArray,_,hk,rfl,rfl,rfl,by rw [List.size_toArray,lenV]; exact hl,by simpa using rv⟩) (fun b u z=>by have z' : (none : Option HO) = some u := z; cases z') (fun b z=>absurd rfl z) fun z=>absurd rfl z
 | none =>
  refine core (fun b=>if b = a then some (.frz { cls := .type "list",data := .seq vs.toArray } (.lst (ns.map V.int))) else none) (fun b=>?_) (.inl (.inr ⟨{ cls := .type "list",data := .seq vs.toArray },if_pos rfl⟩)) (fun b u z=>?_) (fun b z=>?_) fun _=>hk
  ·by_cases hb : b = a
   ·exact .inr ⟨_,_,if_pos hb⟩
   ·exact .inl (if_neg hb)
  ·by_cases hb : b = a
   ·have z' := (if_pos hb).symm.trans z
    cases z'
    subst hb
    exact ⟨ha,by rw [List.length_map]; exact hl,vs,_,rv,ha⟩
   ·have z' := (if_neg hb).symm.trans z
    cases z'
  ·by_cases hb : b = a
   ·exact hb
   ·exact absurd (if_neg hb) z
end L2
namespace L2
open PySem PySem.Spec PyProof.Rows
theorem walk_of {l : PySem.W.OpenLaw} {n k : Nat} {q : Program} {loose : List Str} {XP : (Str → Option Value) → Heap → Prop} {YP : World → Heap → Prop} {d : DefRec} {K : Params → PySem.W.Frag} {CX : World → X7} {sp : World → Sp} {x : Str}
  (hn : l.most = some n) (hn2 : n ≤ sizeLine) (hdf : d.params.defaults = []) (hr : Room k callerA)
  (hY : ∀ (w : World) (h : Heap),YP w h → (K w.params).In h)
  (F : ∀ (w : World) (mg : Str → Option Value) (fa : Addr) (h : Heap),(K w.params).In h → h.Ns mainGlobals mg → mg d.name = some (.ref fa) →
   ∃ fd : FuncData,(∀ (s : Shared) (u : Value),BindsTo s fd ⟨[u],[]⟩ [(x,u)]) ∧
    ∀ base : Heap,(K w.params).In base → base.Ns mainGlobals mg → FnOk l.prog w (K w.params) mg base (CX w) k fa fd [x] (sp w))
  (hsp : ∀ (w : World) (H : Hp) (a : Addr) (ns : List Int),ns.length ≤ n → AD6 H → SqL (K w.params) H a (ns.map V.int) → sp w [.ref a] H (fun v _=>v = .bl true) fun _ _ _=>False)
  (hCX : ∀ (w : World) (H : Hp) (s : Shared) (e : Value) (s' : Shared),CX w [] H s (fun _ _ _=>False) e s' → False) :
  PySem.W.WalkO q loose XP YP l.row.toRowW d [] (fun f vs=>PySem.call f vs) := by
 refine Att.attach_call hn hdf fun w s₀ s₁ mg mb fa o pm cd doc a vs ns G Y ho hd hcd hmg hobj hints hlen hg=>?_
 have KX := hY w _ Y
 obtain ⟨fd,hb,hF⟩ := F w mg fa _ KX G.T.g hmg
 exact AB9 KX G.T.g G.T.b G.T.builtins G.T.nolimit hg hobj hints (Nat.le_trans hlen hn2) hr hF hb (fun H hO hS=>hsp w H a ns hlen hO hS) fun H e s'=>hCX w H s₁ e s'
end L2
namespace L2
open PySem PySem.Spec PyProof.Rows
def D6 (s : Stmt) : Arguments := match s with
 | .FunctionDef _ a _ _ _ _ _ _ _ _=>a
 | _=>{ posonlyargs := [],args := [],vararg := none,kwonlyargs := [],kw_defaults := [],kwarg := none,defaults := [] }
def D5 (s : Stmt) : List Stmt := match s with
 | .FunctionDef _ _ b _ _ _ _ _ _ _=>b
 | _=>[]
def B3 (s : Stmt) : Scope := match s with
 | .FunctionDef _ _ _ _ _ _ sc _ _ _=>sc
 | _=>{ kind := .function,names := [],isGenerator := false,isCoroutine := false }
abbrev K3 : X7 := fun _ _ _ _ _ _=>False
abbrev E0 : XK := fun _ _ _=>False
theorem M8 {X : Cx} : S7 K3 X E0 := fun _ _ _ _ _ _ _ h=>h.elim
structure Fun (K : PySem.W.Frag) (x qual : Str) (st : Stmt) (f : Addr) (fd : FuncData) : Prop where
 ex : ∃ (oc : Value) (od : Option Addr) (kV doc pm : Value) (an : Option Addr) (cdv ct : Value) (osl : Array (Option Value)),
  fd = PySem.W.fnOf x qual (D6 st) (D5 st) (B3 st) .none kV doc pm an cdv ct ∧ K.lookup f = some ⟨oc,od,.func fd,osl⟩ ∧ PySem.W.codeIn K cdv qual = true
 kp : PySem.W.keepIn K (.ref f) = true
section
variable {P : Program} {w : World} {K : PySem.W.Frag} {mg : Str → Option Value} {base : Heap}
theorem Fun.ok {x qual : Str} {st : Stmt} {f : Addr} {fd : FuncData} {N ps : List Str} {k : Nat} {sp : Sp} (F : Fun K x qual st f fd) (S : D7 N ps (B3 st)) (len : ∀ vs H Q E,sp vs H Q E → vs.length = ps.length)
  (hbody : ∀ (cdv : Value) (A : Around) (outer : List Env) (s : Shared) (H : Hp) (vs : List V) (Q : VK) (E : XK),Room k (A.deeper (envOfC qual (B3 st) s.heap.objs.size f cdv)) → sp vs H Q E →
   ∃ t,PSs (X1 K3 P w K mg base N qual (B3 st) f cdv A outer s H E).nox (D5 st) t ∧ t { nx := fun _ H'=>Q .non H',rt := Q } (start N vs) H) : FnOk P w K mg base K3 (k + 1) f fd ps sp := by
 obtain ⟨oc,od,kV,doc,pm,an,cdv,ct,osl,rfl,lk,hcd⟩ := F.ex
 refine AF9 lk hcd S len fun A outer s H vs Q E hr hsp=>?_
 obtain ⟨t,h,q⟩ := hbody cdv A outer s H vs Q E hr hsp
 exact ⟨t,h.nox,q⟩
theorem Fun.binds {x qual : Str} {st : Stmt} {f : Addr} {fd : FuncData} {ps : List Str} (F : Fun K x qual st f fd)
  (h : ∀ (kV doc pm : Value) (an : Option Addr) (cdv ct : Value) (us : List Value),us.length = ps.length → bindArgs (PySem.W.fnOf x qual (D6 st) (D5 st) (B3 st) .none kV doc pm an cdv ct) ⟨us,[]⟩ = pure (ps.zip us)) : Binds K fd ps [] := by
 obtain ⟨oc,od,kV,doc,pm,an,cdv,ct,osl,rfl,lk,hcd⟩ := F.ex
 exact .all (h kV doc pm an cdv ct)
theorem E6 {x qual : Str} {st : Stmt} {f : Addr} {oc : Value} {od an : Option Addr} {osl : Array (Option Value)} {kV doc pm cdv ct : Value} (l : K.lookup f = some ⟨oc,od,.func (PySem.W.fnOf x qual (D6 st) (D5 st) (B3 st) .none kV doc pm an cdv ct),osl⟩)
  (c : PySem.W.codeIn K cdv qual = true) (k : PySem.W.keepIn K (.ref f) = true) : Fun K x qual st f (PySem.W.fnOf x qual (D6 st) (D5 st) (B3 st) .none kV doc pm an cdv ct) := ⟨⟨oc,od,kV,doc,pm,an,cdv,ct,osl,rfl,l,c⟩,k⟩
end
theorem AF7 {A : Around} {k : Nat} (hr : Room k A) : A.units + 1 < cLine := Nat.lt_of_le_of_lt (Nat.add_le_add_left (by decide : 1 ≤ 64) _) hr.units
theorem oJ {n : Nat} (h : n ≤ 1000) : n < sizeLine := Nat.lt_of_le_of_lt h (by decide)
section
variable {X : Cx}
theorem pv (i : Nat) {x : Str} {pos : Pos} (hN : X.N[i]? = some x := by rfl) (hv : rV X.env.scope x := by first | exact Or.inl rfl | exact Or.inr (Or.inl rfl) | exact Or.inr (Or.inr rfl)) (hd : (x == ("__debug__" : Str)) = false := by decide)
  (hcd : (x == ("__classdict__" : Str)) = false := by decide) : PE X (.Name x pos) (uI i) := AQ4 hN hv hd hcd
end
theorem F0 {A B : Prop} (h : B) : if false = true then A else B := by
 rw [if_neg Bool.false_ne_true]
 exact h
theorem E8 {A B : Prop} (h : A) : if true = true then A else B := by
 rw [if_pos rfl]
 exact h
theorem R0 {c A B : Prop} [Decidable c] (h1 : c → A) (h2 : ¬ c → B) : if c then A else B := by
 by_cases h : c
 ·rw [if_pos h]
  exact h1 h
 ·rw [if_neg h]
  exact h2 h
def Same (H H' : Hp) : Prop := ∀ b o,H b = some o → H' b = some o
theorem Same.refl (H : Hp) : Same H H := fun _ _ h=>h
theorem Same.trans {H H1 H2 : Hp} (a : Same H H1) (b : Same H1 H2) : Same H H2 := fun c o h=>b c o (a c o h)
theorem Same.seq {K : PySem.W.Frag} {H H' : Hp} {a : Addr} {xs : List V} (e : Same H H') (h : SqL K H a xs) : SqL K H' a xs := by
 rcases h with (h | ⟨o,h⟩) | h
 ·exact .inl (.inl (e _ _ h))
 ·exact .inl (.inr ⟨o,e _ _ h⟩)
 ·exact .inr h
end L2
namespace L2
open PySem PySem.Spec PyProof.Rows
def ExL (H : Hp) (g : Heap) (h : Heap) (ex : Addr) (cls : Value) : Prop :=
 ∃ oe vs,h.get? ex = some oe ∧ oe.cls = cls ∧ oe.data = .fields vs ∧ oe.dict = none ∧ g.get? ex = none ∧ H ex = none ∧
  (vs[1]? = some .none ∨ ∃ T oT ts,vs[1]? = some (.ref T) ∧ g.get? T = none ∧ T ≠ ex ∧ H T = none ∧ h.get? T = some oT ∧ oT.data = .fields ts ∧ ts[3]? = some .none)
theorem ExL.mono {H : Hp} {g g' : Heap} {h : Heap} {ex : Addr} {cls : Value} (x : ExL H g h ex cls) (k : ∀ b,g.get? b = none → g'.get? b = none) : ExL H g' h ex cls := by
 obtain ⟨oe,vs,h1,h2,h3,hd,h4,h5,h6⟩ := x
 refine ⟨oe,vs,h1,h2,h3,hd,k _ h4,h5,?_⟩
 rcases h6 with h6 | ⟨T,oT,ts,a,b,c⟩
 ·exact .inl h6
 ·exact .inr ⟨T,oT,ts,a,k _ b,c⟩
def M0 (P : Program) (w : World) : X7 := fun outer H s E e s' =>
 ∃ ex cls H',e = .ref ex ∧ s'.os = s.os ∧ AllBare s'.gens ∧ Un (V9 outer) [] H H' s.heap s'.heap ∧ HOk P w H' s'.heap ∧ ExL H' s.heap s'.heap ex cls ∧ E cls none H'
theorem nX (f : Array Value → Array Value) (o : Obj) : (Obj.mapFields f o).dict = o.dict := by
 obtain ⟨c,d,dt,sl⟩ := o
 cases dt <;> rfl
theorem ObjOk.there {P : Program} {w : World} {H : Hp} {h : Heap} {a : Addr} {o : HO} (x : ObjOk P w H h a o) : ∃ u,h.get? a = some u := by
 cases o with
 | lst xs=>obtain ⟨_,_,_,_,e⟩ := x; exact ⟨_,e⟩
 | tup xs=>obtain ⟨_,_,_,_,e,_⟩ := x; exact ⟨_,e⟩
 | dK kvs=>obtain ⟨_,_,_,_,o,_,_,e,_⟩ := x; exact ⟨_,e⟩
 | dT kvs=>obtain ⟨_,_,_,_,o,_,_,e,_⟩ := x; exact ⟨_,e⟩
 | set S n=>obtain ⟨o,_,_,_,e,_⟩ := x; exact ⟨_,e⟩
 | ins C dx fs=>obtain ⟨_,_,_,e,_⟩ := x; exact ⟨_,e⟩
 | own y=>obtain ⟨_,e⟩ := x; exact ⟨_,e⟩
 | xd fs=>obtain ⟨_,⟨_,_,_,e,_⟩,_⟩ := x; exact ⟨_,e⟩
 | rng lo hi=>obtain ⟨_,_,_,e⟩ := x; exact ⟨_,e⟩
 | frz ob u=>obtain ⟨e,_⟩ := x; exact ⟨_,e⟩
 | tbl ps=>exact ⟨_,(show h.get? a = some _ from x)⟩
 | met f y=>exact ⟨_,(show h.get? a = some _ from x)⟩
 | ext φ=>obtain ⟨_,⟨_,e⟩,_⟩ := x; exact ⟨_,e⟩
theorem HOk.none {P : Program} {w : World} {H : Hp} {h : Heap} {a : Addr} (x : HOk P w H h) (e : h.get? a = none) : H a = none := by
 cases q : H a with
 | none=>rfl
 | some o =>
  obtain ⟨u,e'⟩ := (x a o q).there
  rw [e] at e'; cases e'
theorem Inv.new {X : Cx} {pins : List (Addr × Obj)} {σ : St} {H : Hp} {s : Shared} (I : Inv X pins σ H s) (hex : X.ex = []) {b : Addr} (e : s.heap.get? b = none) : X.s₀.heap.get? b = none := by
 cases q : X.s₀.heap.get? b with
 | none=>rfl
 | some o =>
  obtain ⟨o',e'⟩ := I.base.there b o q (by rw [hex]; simp)
  rw [e] at e'; cases e'
section
variable {M : Model} {A : Around} {E : Value → Shared → Prop} {s : Shared}
theorem oO {base : Heap} {env : Env} {outer : List Env} {L e : Addr} {oe : Obj} {vs : Array Value} {head : Value} {hadNext : Bool} {Q : Unit → Shared → Prop}
  (hfr : A.frames = some (env :: outer)) (hl : s.heap.FunFrames base (env :: outer)) (hf : env.frame = some L) (he : s.heap.get? e = some oe) (hd : oe.data = .fields vs) (hsz : 1 < vs.size)
  (h : ∀ h' T,s.heap.objs.size ≤ T → (∀ b o,s.heap.get? b = some o → b ≠ e → b ∉ V9 (env :: outer) → h'.get? b = some o) →
   (∀ b o,s.heap.get? b = some o → b ≠ e → ∃ sl,h'.get? b = some { o with slots := sl }) →
   (∃ oe' vs',h'.get? e = some oe' ∧ oe'.cls = oe.cls ∧ oe'.data = .fields vs' ∧ oe'.dict = oe.dict ∧ vs'[1]? = some (.ref T)) →
   (∃ oT ts,h'.get? T = some oT ∧ oT.data = .fields ts ∧ ts[3]? = some .none) → Q () { s with heap := h' }) :
  wpAny M A (do let a ← frameOf env; let pl ← entryPlaceOf L hadNext; let b ← EntryCells.newEntry head a .none (rawInt L) .none pl; setField (.ref e) 1 b) (fun _ s'=>wpAny M A (setFlight (.ref e) none) Q E s') E s := by
 have hene : e ∉ V9 (env :: outer) := fun hm=>by
  obtain ⟨_,o,ho,hnf⟩ := hl.mem hm
  rw [he] at ho; injection ho with ho; subst ho; exact hnf vs hd
 refine wpAny_bind (wpAny_frameOf_fun hfr hl hf fun h₁ hs₁=>?_)
 refine wpAny_bind (wpAny_entryPlaceOf fun pl hpl=>?_)
 unfold EntryCells.newEntry newFields
 refine wpAny_bind (wpAny_newObj_type ?_ (hpl.sizeOk5 _ _ _ _ _))
 generalize hob : ({ cls := .type "traceback",dict := none,data := .fields ([head,.ref L,.none,rawInt L,.none] ++ (if pl.isEmpty then List.replicate 6 Value.none else pl)).toArray } : Obj) = ob
 have hobd : ob.data = .fields ([head,.ref L,.none,rawInt L,.none] ++ (if pl.isEmpty then List.replicate 6 Value.none else pl)).toArray := by rw [← hob]
 have hobf : ob.isFreed = false := by rw [← hob]; rfl
 have he₁ : h₁.get? e = some oe := (hs₁.2.1 e hene).trans he
 have he₂ : (h₁.push ob).get? e = some oe := Heap.get?_push_of_some _ he₁
 refine wpAny_setField he₂ hd hsz ?_
 have hTe : h₁.objs.size ≠ e := Nat.ne_of_gt (Heap.lt_size he₁)
 have hd₃ := Obj.data_mapFields hd (·.setIfInBounds 1 (Value.ref h₁.objs.size))
 have he₃ := Heap.get?_update_self (Obj.mapFields (·.setIfInBounds 1 (Value.ref h₁.objs.size))) he₂ (Obj.isFreed_of_fields hd₃)
 have hT₃ := (Heap.get?_update_other (h₁.push ob) (Obj.mapFields (·.setIfInBounds 1 (Value.ref h₁.objs.size))) (Ne.symm hTe)).trans (Heap.get?_push_size h₁ hobf)
 unfold setFlight
 refine wpAny_bind (wpAny_field he₃ hd₃ (x := .ref h₁.objs.size) (by simp [hsz]) ?_)
 rw [if_pos (show (Value.ref h₁.objs.size != Value.none) = true from by simp)]
 refine wpAny_setField hT₃ hobd (by simp only [List.size_toArray,List.length_append,List.length_cons,List.length_nil] <;> omega) (h _ h₁.objs.size (Nat.le_of_eq hs₁.1.symm) ?_ ?_ ?_ ?_)
 ·intro b o hb hbe hbf
  have hb₁ := (hs₁.2.1 b hbf).trans hb
  rw [Heap.get?_update_other _ _ (Nat.ne_of_gt (Heap.lt_size hb₁)),Heap.get?_update_other _ _ (Ne.symm hbe)]
  exact Heap.get?_push_of_some _ hb₁
 ·intro b o hb hbe
  obtain ⟨sl,hb₁⟩ := hs₁.2.2 b o hb
  refine ⟨sl,?_⟩
  rw [Heap.get?_update_other _ _ (Nat.ne_of_gt (Heap.lt_size hb₁)),Heap.get?_update_other _ _ (Ne.symm hbe)]
  exact Heap.get?_push_of_some _ hb₁
 ·refine ⟨_,_,?_,Obj.cls_mapFields _ _,hd₃,nX _ _,by simp [hsz]⟩
  rw [Heap.get?_update_other _ _ hTe]; exact he₃
 ·exact ⟨_,_,Heap.get?_update_self _ hT₃ (Obj.isFreed_of_fields (Obj.data_mapFields hobd _)),Obj.data_mapFields hobd _,by first | (simp; done) | (rcases hpl with rfl | ⟨_,_,_,_,_,_,_,rfl⟩ <;> simp)⟩
end
section
variable {X : Cx} {pins : List (Addr × Obj)} {σ : St} {H : Hp} {s : Shared} {E' : Value → Shared → Prop}
theorem lS {Q : Unit → Shared → Prop} {L ex : Addr} {cls : Value} {g : Heap} (I : Inv X pins σ H s) (hst : X.stack = X.env :: X.outer) (hf : X.env.frame = some L) (hx : ExL H g s.heap ex cls) (hn : ∀ b,s.heap.objs.size ≤ b → g.get? b = none)
  (h : ∀ h',(∀ b o,s.heap.get? b = some o → (g.get? b ≠ none ∨ H b ≠ none) → b ∉ V9 X.stack → h'.get? b = some o) → (∀ b o,s.heap.get? b = some o → (g.get? b ≠ none ∨ H b ≠ none) → ∃ sl,h'.get? b = some { o with slots := sl }) →
   (∀ b o,s.heap.get? b = some o → ∃ o',h'.get? b = some o') → ExL H g h' ex cls → Q () { s with heap := h' }) :
  wpAny (model X.prog X.w) X.A (noteFrame (.ref ex) X.env) (fun _ s'=>wpAny (model X.prog X.w) X.A (setFlight (.ref ex) none) Q E' s') E' s := by
 obtain ⟨oe,vs,he,hc,hd,hdi,hne,hHe,hh⟩ := hx
 have hfr : X.A.frames = some (X.env :: X.outer) := by rw [← hst]; exact I.ok.frames
 have hl : s.heap.FunFrames X.base (X.env :: X.outer) := by rw [← hst]; exact I.stack
 unfold noteFrame
 simp only [hf]
 rcases hh with h1 | ⟨T,oT,ts,h1,hnT,hTe,hHT,hT,hdT,h3⟩
 ·refine wpAny_bind (wpAny_field he hd h1 ?_)
  rw [if_neg (by decide)]
  refine oO hfr hl hf he hd (Array.getElem?_eq_some_iff.mp h1).1 fun h' T hT k1 k2 ⟨oe',vs',a1,a2,a3,a5,a4⟩ ⟨oT,ts,c1,c2,c3⟩=>?_
  have ne : ∀ b,(g.get? b ≠ none ∨ H b ≠ none) → b ≠ ex := fun b hb z=>by
   subst z
   rcases hb with hb | hb
   ·exact hb hne
   ·exact hb hHe
  refine h h' (fun b o hb h1 h2=>k1 b o hb (ne b h1) (by rw [← hst]; exact h2)) (fun b o hb h1=>k2 b o hb (ne b h1)) (fun b o hb=>?_) ⟨oe',vs',a1,a2.trans hc,a3,a5.trans hdi,hne,hHe,.inr ⟨T,oT,ts,a4,hn _ hT,?_,I.hok.fresh hT,c1,c2,c3⟩⟩
  ·by_cases hbe : b = ex
   ·subst hbe; exact ⟨_,a1⟩
   ·obtain ⟨sl,q⟩ := k2 b o hb hbe; exact ⟨_,q⟩
  ·exact Nat.ne_of_gt (Nat.lt_of_lt_of_le (Heap.lt_size he) hT)
 ·refine wpAny_bind (wpAny_field he hd h1 ?_)
  rw [if_pos (show (Value.ref T != Value.none) = true from by simp)]
  refine wpAny_bind (wpAny_field hT hdT h3 ?_)
  rw [if_neg (show ¬ ((Value.none == rawInt L) = true) from by simp [rawInt])]
  refine wpAny_bind (wpAny_setField hT hdT (Array.getElem?_eq_some_iff.mp h3).1 ?_)
  have other : ∀ b,b ≠ T → (s.heap.update T (Obj.mapFields (·.setIfInBounds 3 Value.none))).get? b = s.heap.get? b := fun b hb=>Heap.get?_update_other _ _ (Ne.symm hb)
  have hT2 : (s.heap.update T (Obj.mapFields (·.setIfInBounds 3 Value.none))).get? T = some _ := Heap.get?_update_self _ hT (Obj.isFreed_of_fields (Obj.data_mapFields hdT _))
  have hsz : (s.heap.update T (Obj.mapFields (·.setIfInBounds 3 Value.none))).objs.size = s.heap.objs.size := Heap.size_after_update ..
  refine oO hfr (hl.of_keeps fun b o hb hnf=>⟨o,(other b fun z=>?_).trans hb,rfl⟩) hf ((other ex (Ne.symm hTe)).trans he) hd (Array.getElem?_eq_some_iff.mp h1).1 fun h' T' hT' k1 k2 ⟨oe',vs',a1,a2,a3,a5,a4⟩ ⟨oT',ts',c1,c2,c3⟩=>?_
  ·subst z; rw [hT] at hb; cases hb; exact hnf ts hdT
  have hT'' : s.heap.objs.size ≤ T' := by rw [← hsz]; exact hT'
  have ne : ∀ b,(g.get? b ≠ none ∨ H b ≠ none) → b ≠ ex ∧ b ≠ T := fun b hb=>by
   refine ⟨fun z=>?_,fun z=>?_⟩
   ·subst z
    rcases hb with hb | hb
    ·exact hb hne
    ·exact hb hHe
   ·subst z
    rcases hb with hb | hb
    ·exact hb hnT
    ·exact hb hHT
  refine h h' (fun b o hb h1 h2=>k1 b o ((other b (ne b h1).2).trans hb) (ne b h1).1 (by rw [← hst]; exact h2)) (fun b o hb h1=>k2 b o ((other b (ne b h1).2).trans hb) (ne b h1).1) (fun b o hb=>?_)
   ⟨oe',vs',a1,a2.trans hc,a3,a5.trans hdi,hne,hHe,.inr ⟨T',oT',ts',a4,hn _ hT'',?_,I.hok.fresh hT'',c1,c2,c3⟩⟩
  ·by_cases hbe : b = ex
   ·subst hbe; exact ⟨_,a1⟩
   ·by_cases hbT : b = T
    ·subst hbT; obtain ⟨sl,q⟩ := k2 b _ hT2 hbe; exact ⟨_,q⟩
    ·obtain ⟨sl,q⟩ := k2 b o ((other b hbT).trans hb) hbe; exact ⟨_,q⟩
  ·exact Nat.ne_of_gt (Nat.lt_of_lt_of_le (Heap.lt_size he) hT'')
theorem xO {ex : Addr} {cls : Value} {E : XK} (I : Inv X pins σ H s) (hst : X.stack = X.env :: X.outer) (hex : X.ex = []) (hf : X.env.frame = some X.env.locals) (hx : ExL H X.s₀.heap s.heap ex cls) (q : E cls none H) :
  wpAny (model X.prog X.w) X.A (leaving X.env (.ref ex)) (fun _ s''=>M0 X.prog X.w X.outer X.H₀ X.s₀ E (.ref ex) s'') E' s := by
 unfold leaving
 refine wpAny_bind (lS I hst hf hx (fun b z=>Heap.get?_none_of_le (Nat.le_trans I.sz z)) fun h' k1 k2 k3 hx'=>?_)
 have own : ∀ b a,H b = some (.own a) → H b ≠ none := fun b a e z=>by rw [z] at e; cases e
 have hB := I.base
 rw [hex] at hB
 have stk : ∀ b,b < X.s₀.heap.objs.size → b ∉ X.fs → b ∉ V9 X.stack := fun b hb hn hz=>by
  rcases List.mem_cons.mp (I.stkSub b hz) with e | e
  ·exact absurd (Nat.lt_of_lt_of_le hb I.ok.above) (by rw [e]; exact Nat.lt_irrefl _)
  ·exact hn e
 have sS : ∀ b,H b ≠ none → b ∉ V9 X.stack := fun b hb hz=>hb (I.stkFree b hz)
 refine ⟨ex,cls,H,rfl,I.os,I.bare,⟨fun b o e n hb hx=>?_,fun b o e n hb hx=>?_,hB.free,fun b o e hx=>?_,hB.tups,hB.frzs,hB.tbls⟩,fun b o e=>(I.hok b o e).stay (fun c u hc r=>?_) (fun _ q=>q) fun _ _ q=>q,hx',q⟩
 ·exact k1 b o (hB.keep b o e n hb hx) (.inl (by rw [e]; exact fun z=>nomatch z)) (stk b (Heap.lt_size e) hb)
 ·obtain ⟨sl,e1⟩ := hB.slot b o e n hb hx
  obtain ⟨sl',e2⟩ := k2 b _ e1 (.inl (by rw [e]; exact fun z=>nomatch z))
  exact ⟨sl',e2⟩
 ·obtain ⟨o',e1⟩ := hB.there b o e hx
  exact k3 b o' e1
 ·have hc' : H c ≠ none := by
   rcases hc with rfl | hc
   ·intro z; rw [z] at e; cases e
   ·exact own c b hc
  exact k1 c u r (.inr hc') (sS c hc')
end
theorem G0 {P : Program} {w : World} {K : PySem.W.Frag} {mg : Str → Option Value} {base : Heap} {N : List Str} {qual : Str} {scope : Scope} {f : Addr} {cd : Value} {A : Around} {outer : List Env} {s : Shared} {H : Hp} {E E' : XK} (k : ∀ c d H',E' c d H' → E c d H') :
  S7 (M0 P w) (X1 (M0 P w) P w K mg base N qual scope f cd A outer s H E) E' := by
 intro pins σ H2 s2 e s' I h
 obtain ⟨ex,cls,H',rfl,os,bare,un,hok,hx,q⟩ := h
 obtain ⟨hh,g,d,t,os'⟩ := s'
 obtain rfl : os' = s2.os := os
 have J := I.call (h' := hh) (g' := g) (d' := d) (t' := t) (ch := []) un hok bare (fun b z=>absurd z (by simp))
 exact xO (X := X1 (M0 P w) P w K mg base N qual scope f cd A outer s H E) J rfl rfl rfl (hx.mono fun b e=>I.new rfl e) (k _ _ _ q)
end L2
namespace L2
open PySem PySem.Spec PyProof.Rows
structure XC (K : PySem.W.Frag) (C : Addr) (bmB : List Value) (newId : String) : Prop where
 ex : PySem.W.excIn K C bmB newId = true
 ga : PySem.W.findIn K (.ref C) "__getattribute__" = some (some (.builtin "BaseException.__getattribute__"))
 gt : PySem.W.findIn K (.ref C) "__getattr__" = some none
 cl : PySem.W.findIn K (.ref C) "__class__" = some (some (.builtin "object.__class__"))
 mo : PySem.W.mroIn K C (.type "object") = some true
 mb : PySem.W.mroIn K C (.type "BaseException") = some true
theorem XC.obj {K : PySem.W.Frag} {C : Addr} {bmB : List Value} {newId : String} (q : PySem.W.excIn K C bmB newId = true) :
  ∃ bm N nm qn bs hdct sn sub ab col dd k0 k1 k2 k3 k5,K.lookup C = some (excClassObj nm qn C N bs bm hdct sn sub ab col dd k0 k1 k2 k3 k5 newId) ∧ PySem.W.nsOkIn K N = true ∧ PySem.W.nsIn K N "__init__" = some none ∧ PySem.W.tailIn K bmB bm = true := by
 unfold PySem.W.excIn at q
 split at q
 ·rename_i dd cd sl ho
  split at q
  ·rename_i C' bm k0 k1 k2 k3 n k5 hm hs
   simp only [Bool.and_eq_true,beq_iff_eq,Bool.not_eq_true'] at q
   obtain ⟨⟨⟨⟨⟨rfl,rfl⟩,hdel⟩,ht⟩,hok⟩,hni⟩ := q
   obtain ⟨nm,bs,mro,ns,qn,hd,sn,sub,ab,col,del⟩ := cd
   dsimp only at hm hdel hok hni
   subst hm hdel
   have hsl : sl = #[k0,k1,k2,k3,some (.builtin n),k5] := by
    obtain ⟨l⟩ := sl
    simp only at hs
    rw [hs]
   subst hsl
   exact ⟨bm,ns,nm,qn,bs,hd,sn,sub,ab,col,dd,k0,k1,k2,k3,k5,ho,hok,hni,ht⟩
  ·cases q
 ·cases q
theorem AL8 {K : PySem.W.Frag} {N : Addr} {h h' : Heap} {m : Str → Option Value} (X : K.In h) (X' : K.In h') (ok : PySem.W.nsOkIn K N = true) (n : h.Ns N m) : h'.Ns N m := by
 unfold PySem.W.nsOkIn at ok
 split at ok
 ·rename_i ho
  obtain ⟨o,es,ep,e,r⟩ := n
  have e1 := X _ _ ho
  rw [e] at e1
  cases e1
  exact ⟨_,es,ep,X' _ _ ho,r⟩
 ·cases ok
def AO2 (C : Addr) (E : XK) (t : TA) : TS := fun _ σ H=>t σ H fun vs H1=>vs.length ≤ sizeLine ∧ E (.ref C) none H1
theorem R6 {P : Program} {w : World} {K : PySem.W.Frag} {mg : Str → Option Value} {base : Heap} {N : List Str} {qual : Str} {scope : Scope} {f : Addr} {cd : Value} {A : Around} {outer : List Env} {s₀ : Shared} {H₀ : Hp} {E : XK}
  {C : Addr} {B newId initId : String} {bmB : List Value} {x : Str} {np cpos pos : Pos} {e : Expr} {es : List Expr} {t : TA}
  (FB : ExcBaseFacts B newId initId bmB) (c : XC K C bmB newId) (hg : Gl (X1 (M0 P w) P w K mg base N qual scope f cd A outer s₀ H₀ E) x) (hm : mg x = some (.ref C))
  (ha : PA (X1 (M0 P w) P w K mg base N qual scope f cd A outer s₀ H₀ E) (e :: es) t)
  (he : starEach (e :: es) (envOfC qual scope s₀.heap.objs.size f cd) = (false,eval e (envOfC qual scope s₀.heap.objs.size f cd)) :: starEach es (envOfC qual scope s₀.heap.objs.size f cd) := by rfl)
  (hplain : (backTo cpos (starEach es (envOfC qual scope s₀.heap.objs.size f cd))).any (·.1) = false := by rfl) (hdb : (x == ("__debug__" : Str)) = false := by decide) :
  PS (X1 (M0 P w) P w K mg base N qual scope f cd A outer s₀ H₀ E) (.Raise (some (.Call (.Name x np) (e :: es) [] cpos)) none pos) (AO2 C E t) := by
 intro pins s σ H D I h
 obtain ⟨bm,Nn,nm,qn,bs,hdct,sn,sub,ab,col,dd,k0,k1,k2,k3,k5,lC,hok,hni,ht⟩ := XC.obj c.ex
 have T := PySem.W.tail_of_in I.kIn ht
 have hN : s.heap.Ns Nn (s.heap.nsMap Nn) := .of_isNs (PySem.W.isNs_of_in I.kIn hok)
 refine wpAny_Raise_call_subT (C := C) (nm := nm) (q := qn) (N := Nn) (bs := bs) (bm := bm) (hdct := hdct) (sn := sn) (sub := sub) (ab := ab) (col := col) (dd := dd) (k0 := k0) (k1 := k1) (k2 := k2) (k3 := k3) (k5 := k5)
  FB (mN := s.heap.nsMap Nn) (T.hasType FB.hasBase) (I.ok.hd rfl) (by
   show (backTo cpos (starEach (e :: es) (envOfC qual scope s₀.heap.objs.size f cd))).any (·.1) = false
   rw [he]; show (false || (backTo cpos (starEach es (envOfC qual scope s₀.heap.objs.size f cd))).any (·.1)) = false; rw [hplain]; rfl) (PySem.W.nsMap_none_of_in I.kIn hok hni) (Z1 I hg hm ⟨rfl,?_⟩ hdb)
 have hp := ha cpos pins s σ H _ I h
 have he' : starEach (e :: es) (X1 (M0 P w) P w K mg base N qual scope f cd A outer s₀ H₀ E).env = (false,eval e (envOfC qual scope s₀.heap.objs.size f cd)) :: starEach es (envOfC qual scope s₀.heap.objs.size f cd) := he
 rw [he'] at hp ⊢
 refine Calls.evalArgs_plain (wpAny_mono hp (fun us s2 h2=>?_) fun _ _ y=>y)
 obtain ⟨vs,H1,I1,r,hl,q⟩ := h2
 refine ⟨rfl,by rw [← r.length]; exact hl,I1.kIn _ _ lC,AL8 I.kIn I1.kIn hok hN,PySem.W.tail_of_in I1.kIn ht,fun h' ex mx=>?_⟩
 have J : Inv (X1 (M0 P w) P w K mg base N qual scope f cd A outer s₀ H₀ E) pins σ H1 { s2 with heap := h' } := I1.un (t' := s2.toks) (Un.kept mx.keeps) (I1.hok.kept mx.keeps)
 obtain ⟨tp,ht1,ht2,ht3⟩ := mx.there
 exact xO (X := X1 (M0 P w) P w K mg base N qual scope f cd A outer s₀ H₀ E) J rfl rfl rfl ⟨_,_,ht1,rfl,rfl,rfl,I1.new rfl mx.new,I1.hok.none mx.new,.inl rfl⟩ q
section
variable {K : PySem.W.Frag} {C a : Addr} {o : Obj} {bmB : List Value} {newId : String}
theorem rJ {h : Heap} (e : h.get? a = some o) (hc : o.cls = .ref C) (hd : ∃ vs,o.data = .fields vs) (hn : o.dict = none) : PySem.W.InstAt h a o C none := by
 obtain ⟨vs,hd⟩ := hd
 refine ⟨e,hc,?_,?_⟩
 ·obtain ⟨c,d,dt,sl⟩ := o
  cases (show dt = .fields vs from hd)
  rfl
 ·rw [hn]; trivial
end
end L2
namespace L2
open PySem PySem.Spec PyProof.Rows
section
variable {K : PySem.W.Frag} {C D a : Addr} {o : Obj} {bmB : List Value} {newId : String} {prog : Program} {w : World} {A : Around} {E : Value → Shared → Prop} {s : Shared}
theorem jU {M : Model} {b : Bool} {Q : Bool → Shared → Prop} (X : K.In s.heap) (I : PySem.W.InstAt s.heap a o C none) (c : XC K D bmB newId) (hb : PySem.W.mroIn K C (.ref D) = some b) (hq : Q b s) :
  wpAny M A (excMatches (.ref a) (.ref D)) Q E s := by
 obtain ⟨h,g,d,t,os⟩ := s
 obtain ⟨bm,Nn,nm,qn,bs,hdct,sn,sub,ab,col,dd,k0,k1,k2,k3,k5,lD,hok,hni,ht⟩ := XC.obj c.ex
 have hD := X _ _ lD
 have hx := I.at_
 have hc := I.cls
 have f := tc_notTuple
 have L1 := PySem.W.looks_mroIn (M := M) X c.mb
 have L3 := PySem.W.looks_mroIn (M := M) X hb
 unfold excMatches
 repeat (first | (with_reducible refine wpAny_loadPart_at hx ?_; rw [hc]) | with_reducible refine wpAny_loadPart_at hD ?_ | with_reducible refine L1.at ?_ | with_reducible refine L3.at ?_ | wp_step)
 cases b <;> (wp_walk; exact hq)
end
structure Step (fs : List Addr) (g : Heap) (H : Hp) (h h' : Heap) : Prop where
 keep : ∀ b o,h.get? b = some o → (g.get? b ≠ none ∨ H b ≠ none) → b ∉ fs → h'.get? b = some o
 slot : ∀ b o,h.get? b = some o → (g.get? b ≠ none ∨ H b ≠ none) → ∃ sl,h'.get? b = some { o with slots := sl }
 there : ∀ b o,h.get? b = some o → ∃ o',h'.get? b = some o'
section
variable {fs : List Addr} {g h h' : Heap} {H H' : Hp} {P : Program} {w : World}
theorem Step.un (S : Step fs g H' h h') (u : Un fs [] H H' g h) : Un fs [] H H' g h' := by
 refine ⟨fun b o e n hb hx=>?_,fun b o e n hb hx=>?_,u.free,fun b o e hx=>?_,u.tups,u.frzs,u.tbls⟩
 ·exact S.keep b o (u.keep b o e n hb hx) (.inl (by rw [e]; exact fun z=>nomatch z)) hb
 ·obtain ⟨sl,e1⟩ := u.slot b o e n hb hx
  obtain ⟨sl',e2⟩ := S.slot b _ e1 (.inl (by rw [e]; exact fun z=>nomatch z))
  exact ⟨sl',e2⟩
 ·obtain ⟨o',e1⟩ := u.there b o e hx
  exact S.there b o' e1
theorem Step.hok (S : Step fs g H h h') (x : HOk P w H h) (nf : ∀ b ∈ fs,H b = none) : HOk P w H h' := fun b o e=>(x b o e).stay (fun c u hc r=>by
  have hc' : H c ≠ none := by
   rcases hc with rfl | hc
   ·intro z; rw [z] at e; cases e
   ·intro z; rw [z] at hc; cases hc
  exact S.keep c u r (.inr hc') fun z=>hc' (nf c z)) (fun _ q=>q) fun _ _ q=>q
end
theorem AM8 {M : Model} {A : Around} {E : Value → Shared → Prop} {s : Shared} {g : Heap} {H : Hp} {ex : Addr} {cls : Value} {fs : List Addr} {Q : Unit → Shared → Prop} (hx : ExL H g s.heap ex cls)
  (h : ∀ h',Step fs g H s.heap h' → ExL H g h' ex cls → Q () { s with heap := h' }) : wpAny M A (setFlight (.ref ex) none) Q E s := by
 obtain ⟨oe,vs,he,hc,hd,hdi,hne,hHe,hh⟩ := id hx
 unfold setFlight
 rcases hh with h1 | ⟨T,oT,ts,h1,hnT,hTe,hHT,hT,hdT,h3⟩
 ·refine wpAny_bind (wpAny_field he hd h1 ?_)
  rw [if_neg (by decide)]
  exact wpAny_pure (h s.heap ⟨fun _ _ e _ _=>e,fun b o e _=>⟨o.slots,e⟩,fun b o e=>⟨o,e⟩⟩ hx)
 ·refine wpAny_bind (wpAny_field he hd h1 ?_)
  rw [if_pos (show (Value.ref T != Value.none) = true from by simp)]
  have hs3 := (Array.getElem?_eq_some_iff.mp h3).1
  refine wpAny_setField hT hdT hs3 (h _ ?_ ?_)
  ·have ne : ∀ b,(g.get? b ≠ none ∨ H b ≠ none) → T ≠ b := fun b hb z=>by
    subst z
    rcases hb with hb | hb
    ·exact hb hnT
    ·exact hb hHT
   refine ⟨fun b o e hb _=>(Heap.get?_update_other _ _ (ne b hb)).trans e,fun b o e hb=>⟨o.slots,(Heap.get?_update_other _ _ (ne b hb)).trans e⟩,fun b o e=>?_⟩
   by_cases hb : b = T
   ·subst hb; exact ⟨_,Heap.get?_update_self _ hT (Obj.isFreed_of_fields (Obj.data_mapFields hdT _))⟩
   ·exact ⟨o,(Heap.get?_update_other _ _ (Ne.symm hb)).trans e⟩
  ·exact ⟨oe,vs,(Heap.get?_update_other _ _ hTe).trans he,hc,hd,hdi,hne,hHe,.inr ⟨T,_,_,h1,hnT,hTe,hHT,Heap.get?_update_self _ hT (Obj.isFreed_of_fields (Obj.data_mapFields hdT _)),Obj.data_mapFields hdT _,by simp [hs3]⟩⟩
end L2
namespace L2
open PySem PySem.Spec PyProof.Rows
abbrev Cx.suite (X : Cx) (ex : Addr) (oe : Obj) : Cx := { X with A := X.A.mark (some (.ref ex)),calm := false,pn := (ex,oe) :: X.pn,xe := fun _ _=>False }
abbrev Cx.tried (X : Cx) (pn : List (Addr × Obj)) (xe : Value → Shared → Prop) : Cx := { X with pn := X.pn ++ pn,xe := xe }
section
variable {X : Cx} {pins : List (Addr × Obj)} {σ σ' : St} {H : Hp} {s : Shared} {ex : Addr} {oe : Obj}
theorem Inv.suite (I : Inv X pins σ H s) (he : s.heap.get? ex = some oe) (hd : ∃ vs,oe.data = .fields vs) (hH : H ex = none) : Inv (X.suite ex oe) pins σ H s := by
 obtain ⟨vs,hd⟩ := hd
 have ok := I.ok
 refine ⟨⟨ok.mod,ok.kind,ok.glob,ok.blt,ok.above,ok.inj,ok.has,ok.cab,(fun z=>nomatch z),ok.frames,ok.stk,ok.exf,ok.bs,ok.bsz,ok.noex,ok.exfs,ok.funs,ok.frf⟩,I.os,I.bare,I.base,I.loc,I.cell,I.free,I.freeC,fun p hp=>?_,I.hok,I.len⟩
 have hp' : p ∈ ((ex,oe) :: X.pn) ++ pins := hp
 have hp3 : p = (ex,oe) ∨ p ∈ X.pn ∨ p ∈ pins := by simpa using hp'
 rcases hp3 with rfl | hp2
 ·refine ⟨he,hH,fun z=>?_,fun z=>?_,fun v z=>?_⟩
  ·obtain ⟨m,⟨o,es,ep,ho,hd',_⟩,_⟩ := I.loc
   have z' : ex = X.env.locals := z
   rw [← z',he] at ho; cases ho; rw [hd] at hd'; cases hd'
  ·obtain ⟨_,o,ho,hnf⟩ := I.funs.mem z
   have ho' : s.heap.get? ex = some o := ho
   rw [he] at ho'; cases ho'; exact hnf vs hd
  ·have z' : oe.data = .cell v := z
   rw [hd] at z'; cases z'
 ·exact I.pin p (List.mem_append.mpr hp2)
theorem Inv.unsuite (I : Inv (X.suite ex oe) pins σ H s) (ok : X.Ok) : Inv X pins σ H s :=
 ⟨ok,I.os,I.bare,I.base,I.loc,I.cell,I.free,I.freeC,fun p hp=>I.pin p (List.mem_cons_of_mem _ hp),I.hok,I.len⟩
theorem Inv.tried (I : Inv X pins σ H s) (xe : Value → Shared → Prop) : Inv (X.tried pins xe) [] σ H s := by
 have ok := I.ok
 exact ⟨⟨ok.mod,ok.kind,ok.glob,ok.blt,ok.above,ok.inj,ok.has,ok.cab,ok.hd,ok.frames,ok.stk,ok.exf,ok.bs,ok.bsz,ok.noex,ok.exfs,ok.funs,ok.frf⟩,I.os,I.bare,I.base,I.loc,I.cell,I.free,I.freeC,fun p hp=>I.pin p (by simpa using hp),I.hok,I.len⟩
theorem Inv.untried {xe : Value → Shared → Prop} {pins' : List (Addr × Obj)} (I : Inv (X.tried pins xe) pins' σ H s) (ok : X.Ok) : Inv X pins σ H s :=
 ⟨ok,I.os,I.bare,I.base,I.loc,I.cell,I.free,I.freeC,fun p hp=>I.pin p (List.mem_append_left _ hp),I.hok,I.len⟩
theorem AU6 {E : XK} {e : Value} {s' : Shared} {Q : Unit → Shared → Prop} {E' : Value → Shared → Prop} (I : Inv X pins σ H s) (hst : X.stack = X.env :: X.outer) (hf : X.env.frame = some X.env.locals) (hx : M0 X.prog X.w X.stack H s E e s')
  (h : ∀ ex cls H' h',e = .ref ex → E cls none H' → Inv X pins σ H' { s' with heap := h' } → ExL H' s.heap h' ex cls → Un (V9 X.stack) [] H H' s.heap h' → Q () { s' with heap := h' }) :
  wpAny (model X.prog X.w) X.A (noteFrame e X.env) (fun _ s1=>wpAny (model X.prog X.w) X.A (setFlight e none) Q E' s1) E' s' := by
 obtain ⟨ex,cls,H',rfl,os,bare,un,hok,hx,q⟩ := hx
 obtain ⟨hh,g,d,t,os'⟩ := s'
 obtain rfl : os' = s.os := os
 have J := I.call (h' := hh) (g' := g) (d' := d) (t' := t) (ch := []) un hok bare (fun b z=>absurd z (by simp))
 refine lS J hst hf hx (fun b z=>?_) fun h' k1 k2 k3 hx'=>?_
 ·cases e : s.heap.get? b with
  | none=>rfl
  | some o =>
   obtain ⟨o',e'⟩ := un.there b o e (by simp)
   exact absurd (Nat.lt_of_lt_of_le (Heap.lt_size e') z) (Nat.lt_irrefl _)
 have S : Step (V9 X.stack) s.heap H' hh h' := ⟨k1,k2,k3⟩
 have un' := S.un un
 have hok' := S.hok hok J.stkFree
 have J' := I.call (h' := h') (g' := g) (d' := d) (t' := t) (ch := []) un' hok' bare (fun b z=>absurd z (by simp))
 exact h ex cls H' h' rfl q J' hx' un'
end
end L2
namespace L2
open PySem PySem.Spec PyProof.Rows
def G8 (cells : List (Str × Addr)) : List (Str × NameKind) → List (Str × Addr) → List (Str × Addr)
 | [],cs=>cs
 | (n,k) :: r,cs=>if k == .free then G8 cells r ((n,(cells.lookup n).getD 0) :: cs) else G8 cells r cs
theorem aM {env : Env} : ∀ (names : List (Str × NameKind)) (cs : List (Str × Addr)),(∀ x ∈ names,x.2 = .free → ∃ c,env.cells.lookup x.1 = some c) →
  (forIn names cs fun (x : Str × NameKind) (r : List (Str × Addr))=>(match x with | (name,kind)=>if (kind == .free) = true then do let c ← cellOf env name; pure (ForInStep.yield ((name,c) :: r)) else pure (ForInStep.yield r) : Sem (ForInStep (List (Str × Addr))))) = (pure (G8 env.cells names cs) : Sem (List (Str × Addr)))
 | [],cs,_=>rfl
 | (n,k) :: r,cs,h=>by
  rw [List.forIn_cons]
  have hr : ∀ x ∈ r,x.2 = .free → ∃ c,env.cells.lookup x.1 = some c := fun x hx=>h x (List.mem_cons_of_mem _ hx)
  by_cases hk : (k == NameKind.free) = true
  ·obtain ⟨c,hc⟩ := h (n,k) List.mem_cons_self (by simpa using hk)
   have e : cellOf env n = pure c := by unfold cellOf; rw [hc]
   simp only [hk,↓reduceIte,e,pure_bind]
   rw [aM r _ hr]
   simp only [G8,hk,↓reduceIte,hc,Option.getD_some]
  ·simp only [hk,↓reduceIte,Bool.false_eq_true,pure_bind]
   rw [aM r _ hr]
   simp only [G8,hk,↓reduceIte,Bool.false_eq_true]
theorem aN {env : Env} {scope : Scope} (h : ∀ x ∈ scope.names,x.2 = .free → ∃ c,env.cells.lookup x.1 = some c) : closureFor scope env = pure (G8 env.cells scope.names []) := by
 unfold closureFor
 have e := aM (env := env) scope.names [] h
 simp only [bind_pure]
 exact e
theorem U3 {cells : List (Str × Addr)} {x : Str} {c : Addr} : ∀ (names : List (Str × NameKind)) (cs : List (Str × Addr)),(∀ y ∈ names,y.2 = .free → ∃ c,cells.lookup y.1 = some c) → (∀ c,cs.lookup x = some c → cells.lookup x = some c) →
  (G8 cells names cs).lookup x = some c → cells.lookup x = some c
 | [],cs,_,h,e=>h c e
 | (n,k) :: r,cs,hh,h,e=>by
  have hr : ∀ x ∈ r,x.2 = .free → ∃ c,cells.lookup x.1 = some c := fun x hx=>hh x (List.mem_cons_of_mem _ hx)
  by_cases hk : (k == NameKind.free) = true
  ·simp only [G8,hk,if_true] at e
   refine U3 r _ hr (fun c' e'=>?_) e
   rw [List.lookup_cons] at e'
   obtain ⟨c0,hc0⟩ := hh (n,k) List.mem_cons_self (by simpa using hk)
   cases hx : x == n with
   | true =>
    rw [hx] at e'
    have hxn : x = n := by simpa using hx
    subst hxn
    have hc0' : cells.lookup x = some c0 := hc0
    rw [hc0'] at e'
    simp only [Option.getD_some] at e'
    rw [hc0']; exact e'
   | false=>rw [hx] at e'; exact h c' e'
  ·simp only [G8,hk,if_false] at e
   exact U3 r cs hr h e
theorem dA {cells : List (Str × Addr)} {x : Str} : ∀ (names : List (Str × NameKind)) (cs : List (Str × Addr)),(∃ c,cs.lookup x = some c) → ∃ c,(G8 cells names cs).lookup x = some c
 | [],cs,h=>h
 | (n,k) :: r,cs,⟨c,h⟩=>by
  by_cases hk : (k == NameKind.free) = true
  ·simp only [G8,hk,if_true]
   refine dA r _ ?_
   rw [List.lookup_cons]
   cases hx : x == n with
   | true=>exact ⟨_,rfl⟩
   | false=>exact ⟨c,h⟩
  ·simp only [G8,hk,if_false]
   exact dA r cs ⟨c,h⟩
theorem V7 {cells : List (Str × Addr)} {x : Str} : ∀ (names : List (Str × NameKind)) (cs : List (Str × Addr)),names.lookup x = some .free → ∃ c,(G8 cells names cs).lookup x = some c
 | [],cs,h=>by simp at h
 | (n,k) :: r,cs,h=>by
  rw [List.lookup_cons] at h
  cases hx : x == n with
  | true =>
   rw [hx] at h
   cases h
   simp only [G8,beq_self_eq_true,if_true]
   refine dA r _ ⟨(cells.lookup n).getD 0,?_⟩
   rw [List.lookup_cons,hx]
  | false =>
   rw [hx] at h
   by_cases hk : (k == NameKind.free) = true
   ·simp only [G8,hk,if_true]
    exact V7 r _ h
   ·simp only [G8,hk,if_false]
    exact V7 r cs h
theorem bH {env : Env} : ∀ {names : List (Str × NameKind)} {x : Str} {k : NameKind},
  (names.map fun (n,k)=>if (k == NameKind.free && env.scope.kind == .function && env.kindOf n == some .cell) then (n,NameKind.cell) else (n,k)).lookup x = some k → k = .cell ∨ k = .free →
  (∀ y ∈ names,y.2 ≠ .cell) → names.lookup x = some .free
 | [],_,_,h,_,_=>by simp at h
 | (n,k') :: r,x,k,h,hk,hc=>by
  have ih := @bH env r x k
  have hc' : ∀ y ∈ r,y.2 ≠ .cell := fun y hy=>hc y (List.mem_cons_of_mem _ hy)
  have hc0 : k' ≠ .cell := hc (n,k') List.mem_cons_self
  have h : List.lookup x ((if (k' == NameKind.free && env.scope.kind == .function && env.kindOf n == some .cell) = true then (n,NameKind.cell) else (n,k')) :: _) = _ := h
  cases hx : x == n with
  | true =>
   rw [List.lookup_cons,hx]
   by_cases hq : (k' == NameKind.free && env.scope.kind == .function && env.kindOf n == some .cell) = true
   ·have : (k' == NameKind.free) = true := by
     cases hz : (k' == NameKind.free)
     ·rw [hz] at hq; simp at hq
     ·rfl
    have e : k' = .free := by simpa using this
    rw [e]
   ·rw [if_neg hq] at h
    simp only [List.lookup_cons,hx] at h
    cases h
    rcases hk with e | e
    ·exact absurd e hc0
    ·rw [e]
  | false =>
   rw [List.lookup_cons,hx]
   refine ih ?_ hk hc'
   by_cases hq : (k' == NameKind.free && env.scope.kind == .function && env.kindOf n == some .cell) = true
   ·rw [if_pos hq] at h; simp only [List.lookup_cons,hx] at h; exact h
   ·rw [if_neg hq] at h; simp only [List.lookup_cons,hx] at h; exact h
def Q2 (X : Cx) (scope : Scope) (N' : List Str) (C : Addr) (fp : List Addr) (s : Shared) (H : Hp) : Cx :=
  { prog := X.prog, w := X.w, K := X.K, mg := X.mg, base := X.base, A := X.A, N := N', s₀ := s, H₀ := H, env := compEnvC scope (G8 X.env.cells scope.names []) C X.env,
    outer := X.stack, stack := X.stack, ex := fp, fn := fun _ => false, calm := X.calm, pn := [], xe := fun _ _ => False }
def kO (own : List Nat) (g : TG) : Prop := ∀ v σ H Q,g v σ H Q → g v σ H fun σ' H'=>Q σ' H' ∧ σ'.length = σ.length ∧ ∀ i,i ∉ own → σ'[i]? = σ[i]?
def AG7 (own : List Nat) (g : mM) : Prop := ∀ vs σ H Q,g vs σ H Q → g vs σ H fun σ' H'=>Q σ' H' ∧ σ'.length = σ.length ∧ ∀ i,i ∉ own → σ'[i]? = σ[i]?
theorem Z0 (j : Nat) : kO [j] (R1 j) := fun v σ H Q h=>⟨h,by simp,fun i hi=>by
 have : j ≠ i := fun e=>hi (by simp [e])
 rw [List.getElem?_set_ne this]⟩
theorem qP (j k : Nat) : AG7 [j,k] (vI (R1 j) (vI (R1 k) AT9)) := fun vs σ H Q h=>by
 obtain ⟨v,r,e1,v2,r2,e2,e3,q⟩ := h
 refine ⟨v,r,e1,v2,r2,e2,e3,q,by simp,fun i hi=>?_⟩
 have h1 : j ≠ i := fun e=>hi (by simp [e])
 have h2 : k ≠ i := fun e=>hi (by simp [e])
 rw [List.getElem?_set_ne h2,List.getElem?_set_ne h1]
theorem tI {K : PySem.W.Frag} {n : Nat} {own : List Nat} {t : mM} (h : AG7 own t) : kO own (AT8 K n t) := fun v σ H Q ⟨a,xs,e,hq,hl,q⟩=>⟨a,xs,e,hq,hl,h _ _ _ _ q⟩
def rX (X : Cx) (ifs : List Expr) (t : TT) : Prop :=
 ∀ (pins : List (Addr × Obj)) (s : Shared) (σ : St) (H : Hp) (Q : Bool → Hp → Prop),Inv X pins σ H s → t σ H Q →
  wpAny (model X.prog X.w) X.A (forIn ifs true fun c r=>if r = true then do let ok ← isTrue c X.env (eval c X.env); pure (ForInStep.yield ok) else pure (ForInStep.yield r)) (TP X pins σ Q) X.xe s
def AO0 : TT := fun _ H Q=>Q true H
theorem Y7 {X : Cx} : rX X [] AO0 := fun _ _ _ H _ I h=>wpAny_tests_nil ⟨H,I,h⟩
theorem AI8 {X : Cx} {c : Expr} {t : TT} (h : PT X c t) : rX X [c] t := fun pins s σ H Q I q=>wpAny_tests_one (h pins s σ H Q I q)
theorem hX {prog : Program} {w : World} {A : Around} {R : Result → Shared → Prop} {s : Shared} {elt target iter : Expr} {ifs : List Expr} {scope : Scope} {pos : Pos} {it acc : Value} {env : Env} (I : Nat → Shared → Prop)
  (turn : ∀ n s,I n s → wpAny (model prog w) A (pyNext it) (fun r s₁=>match r with
   | none=>R (.ok .next) s₁
   | some v=>wpAny (model prog w) A (letOwnedTupleGo target it v) (fun _ s₁'=>wpAny (model prog w) A (assign target env v) (fun _ s₂ =>
     wpAny (model prog w) A (forIn ifs true fun c r=>if r = true then do let ok ← isTrue c env (eval c env); pure (ForInStep.yield ok) else pure (ForInStep.yield r)) (fun ok s₃ =>
      if ok = true then wpAny (model prog w) A (eval elt env) (fun x s₄ =>
       wpAny (model prog w) A (call (.builtin "list.append") [acc,x]) (fun _ s₅=>∃ m,m < n ∧ I m s₅) (fun _ _=>False) s₄) (fun _ _=>False) s₃
      else ∃ m,m < n ∧ I m s₃) (fun _ _=>False) s₂) (fun _ _=>False) s₁') (fun _ _=>False) s₁) (fun _ _=>False) s)
  (n : Nat) (h : I n s) : codeAny (model prog w) A (.compLoop (.ListComp elt [⟨target,iter,ifs,0⟩] scope pos) 0 it acc env) R s := by
 refine codeAny_loop rfl I (fun n s hI=>?_) n h
 show wpAny _ A ((compTurn (.ListComp elt [⟨target,iter,ifs,0⟩] scope pos) 0 it acc env).onRaise (fun x=>do noteFrame x env; theTreesLotGoes x)) _ _ s
 refine wpAny_noted ?_
 rw [compTurn_list]
 refine wpAny_bind (wpAny_standAt (wpAny_bind (wpAny_mono (turn n s hI) (fun r s₁ h₁=>?_) fun _ _ h'=>h'.elim)))
 cases r with
 | none=>exact wpAny_pure h₁
 | some v =>
  refine wpAny_bind (wpAny_mono h₁ (fun _ s₁' h₁'=>?_) fun _ _ h'=>h'.elim)
  refine wpAny_bind (wpAny_mono h₁' (fun _ s₂ h₂=>wpAny_bind (wpAny_mono h₂ (fun ok s₃ h₃=>?_) fun _ _ h'=>h'.elim)) fun _ _ h'=>h'.elim)
  cases ok with
  | false=>exact wpAny_pure ⟨rfl,h₃⟩
  | true =>
   exact wpAny_bind (wpAny_bind (wpAny_mono h₃ (fun x s₄ h₄=>wpAny_bind (wpAny_mono h₄ (fun _ s₅ h₅=>wpAny_pure (wpAny_pure ⟨rfl,h₅⟩)) fun _ _ h'=>h'.elim)) fun _ _ h'=>h'.elim))
def U5 (fr : List (Option Nat)) (σ : St) : St := fr.map fun o=>o.bind fun j=>(σ[j]?).join
def jM (J : It) (fr : List (Option Nat)) (g : TG) (ti : TT) (te : TE) (σ : St) (H1 : Hp) (l : Addr) (Q : VK) : Prop :=
 ∃ W : Nat → Nat → List V → Hp → Prop,(∃ m,W 0 m [] (B6 H1 l (.lst []))) ∧ ∀ i m ys H',W i m ys H' →
  (J.stop i H' ∧ Q (.ref l) H') ∨ (J.go i H' ∧ ∃ N : List V → Hp → Prop,(∀ zs H'',N zs H'' → ∃ m',m' < m ∧ W (i + 1) m' zs H'') ∧ ∀ x H2,J.yld i H' x H2 → g x (U5 fr σ) H2 fun σ3 H3=>ti σ3 H3 fun b H4=>if b = true then
   te σ3 H4 fun y H5=>H5 l = some (.lst ys) ∧ ys.length < sizeLine ∧ N (ys ++ [y]) (B6 H5 l (.lst (ys ++ [y]))) else N ys H4)
def uK (wi : TI) (fr : List (Option Nat)) (g : TG) (ti : TT) (te : TE) : TE := fun σ H Q=>wi σ H fun J H1=>∀ l,H1 l = none → jM J fr g ti te σ H1 l Q
structure CompOk (X : Cx) (scope : Scope) (N' : List Str) (fr : List (Option Nat)) (own : List Nat) : Prop where
 kind : scope.kind = .function
 cell : (scope.names.all fun x=>x.2 != .cell) = true
 names : (scope.names.all fun x=>x.2 != .local || scope.names.lookup x.1 == some .local) = true
 free : (scope.names.all fun x=>x.2 != .free || X.env.scope.names.lookup x.1 == some .cell || X.env.scope.names.lookup x.1 == some .free) = true
 len : N'.length = fr.length
 from_ : ((N'.zip fr).all fun p=>match p.2 with | none=>true | some j=>X.N[j]? == some p.1 && (scope.names.lookup p.1 == some .free)) = true
 own_ : (own.all fun j=>fr[j]? == some none) = true
section
variable {X : Cx} {scope : Scope} {N' : List Str} {fr : List (Option Nat)} {own : List Nat} {elt tg iter : Expr} {ifs : List Expr} {wi : TI} {g : TG} {ti : TT} {te : TE} {pos : Pos}
theorem CompOk.hcell (c : CompOk X scope N' fr own) : ∀ y ∈ scope.names,y.2 ≠ .cell := fun y hy e=>by
 have := List.all_eq_true.mp c.cell y hy
 rw [e] at this
 exact absurd this (by decide)
theorem CompOk.hnames (c : CompOk X scope N' fr own) : ∀ y ∈ scope.names,y.2 = .local → scope.names.lookup y.1 = some .local := fun y hy e=>by
 have := List.all_eq_true.mp c.names y hy
 rw [e] at this
 simpa using this
theorem CompOk.hfree (c : CompOk X scope N' fr own) {pins : List (Addr × Obj)} {σ : St} {H : Hp} {s : Shared} (I : Inv X pins σ H s) : ∀ y ∈ scope.names,y.2 = .free → ∃ c,X.env.cells.lookup y.1 = some c := fun y hy e=>by
 have := List.all_eq_true.mp c.free y hy
 rw [e] at this
 refine I.ok.has y.1 ?_
 have z : X.env.scope.names.lookup y.1 = some .cell ∨ X.env.scope.names.lookup y.1 = some .free := by simpa using this
 exact z
theorem vP {pins : List (Addr × Obj)} {σ : St} {H : Hp} {s : Shared} {fp : List Addr} {h₁ : Heap} {m : Str → Option Value} {tk : Nat} (c : CompOk X scope N' fr own) (hc : X.calm = true) (I : Inv X pins σ H s) (hfp : ∀ b ∈ fp,W0 X pins H b) (hlt : ∀ b ∈ fp,b < s.heap.objs.size)
  (hns : h₁.Ns s.heap.objs.size m) (hk : ∀ b o,s.heap.get? b = some o → h₁.get? b = some o) :
  Inv (Q2 X scope N' s.heap.objs.size fp s H) [] (U5 fr σ) H { s with heap := h₁,toks := tk } := by
 have hfree := c.hfree I
 have look : ∀ x cc,(G8 X.env.cells scope.names []).lookup x = some cc → X.env.cells.lookup x = some cc := fun x cc e=>U3 _ _ hfree (by intro c' e'; simp at e') e
 have cellAt : ∀ x cc,X.env.cells.lookup x = some cc → ∃ v,h₁.IsCell cc v := fun x cc e=>by
  obtain ⟨v,o,ho,hd⟩ := I.cell x cc e
  exact ⟨v,o,hk _ _ ho,hd⟩
 have ok : (Q2 X scope N' s.heap.objs.size fp s H).Ok := by
  refine ⟨I.ok.mod,c.kind,I.ok.glob,I.ok.blt,Nat.le_refl _,fun x y cc h1 h2=>I.ok.inj x y cc (look x cc h1) (look y cc h2),fun x h=>?_,fun x cc h=>absurd h Bool.false_ne_true,I.ok.hd,I.ok.frames,.inl rfl,fun b hb=>⟨Nat.ne_of_lt (hlt b hb),fun x cc e=>(hfp b hb).2.2.2.2.1 x cc (look x cc e)⟩,
   fun b o e=>I.bs b o e,Nat.le_trans I.ok.bsz I.sz,fun b o e hb=>?_,fun b hb hz=>?_,I.stack,I.stkFree⟩
  ·have z : scope.names.lookup x = some .free := by
    rcases h with h | h
    ·exact bH (env := X.env) h (.inl rfl) c.hcell
    ·exact bH (env := X.env) h (.inr rfl) c.hcell
   exact V7 _ _ z
  ·rcases (hfp b hb).2.2.2.1 with z | z
   ·exact I.ok.noex b o e z
   ·exact absurd (Nat.lt_of_lt_of_le (Heap.lt_size e) (Nat.le_trans I.ok.bsz z)) (Nat.lt_irrefl _)
  ·rcases List.mem_cons.mp (I.stkSub b hz) with e | e
   ·exact (hfp b hb).2.1 e
   ·exact (hfp b hb).2.2.1 e
 refine ⟨ok,rfl,I.bare,Un.kept hk,⟨m,hns,fun i x v e1 e2 hv=>?_⟩,fun x cc e=>cellAt x cc (look x cc e),I.fresh,fun x cc e=>I.freeC x cc (look x cc e),fun p hp=>by simp [Q2] at hp,I.hok.kept hk,?_⟩
 ·
  have e1 : N'[i]? = some x := e1
  have e2 : (fr.map fun o=>o.bind fun j=>(σ[j]?).join)[i]? = some (some v) := e2
  rw [List.getElem?_map] at e2
  cases hfi : fr[i]? with
  | none=>rw [hfi] at e2; simp at e2
  | some o =>
   rw [hfi] at e2
   simp only [Option.map_some,Option.some.injEq] at e2
   cases o with
   | none=>simp at e2
   | some j =>
    have e3 : (σ[j]?).join = some v := by simpa using e2
    have e4 : σ[j]? = some (some v) := by
     cases hz : σ[j]? with
     | none=>rw [hz] at e3; simp at e3
     | some z=>rw [hz] at e3; simp at e3; rw [e3]
    have hm : (x,some j) ∈ N'.zip fr := by
     have : (N'.zip fr)[i]? = some (x,some j) := by rw [List.getElem?_zip_eq_some]; exact ⟨e1,hfi⟩
     exact List.mem_of_getElem? this
    have hz := List.all_eq_true.mp c.from_ _ hm
    have hz : (X.N[j]? == some x && (scope.names.lookup x == some .free)) = true := hz
    have hz1 : X.N[j]? = some x ∧ scope.names.lookup x = some .free := by simpa using hz
    obtain ⟨m0,hn0,hl0⟩ := I.loc
    have hxf : (X.env.scope.names.lookup x = some .cell ∨ X.env.scope.names.lookup x = some .free) := by
     have hmem : (x,NameKind.free) ∈ scope.names := PySem.mem_of_lookup hz1.2
     have := List.all_eq_true.mp c.free _ hmem
     simpa using this
    have vis : rV X.env.scope x := .inr hxf
    obtain ⟨u,ru,lk⟩ := hl0 j x v hz1.1 e4 vis
    refine ⟨u,ru,?_⟩
    rcases lk with ⟨k,_⟩ | ⟨k,cc,ec,hcell⟩
    ·have k : X.env.scope.names.lookup x = some .local := k
     rcases hxf with h | h
     ·rw [h] at k; cases k
     ·rw [h] at k; cases k
    ·obtain ⟨c2,hc2⟩ := V7 (cells := X.env.cells) (x := x) scope.names [] hz1.2
     have := look x c2 hc2
     rw [ec] at this
     cases this
     refine .inr ⟨?_,cc,hc2,?_⟩
     ·rcases hv with h | h
      ·
       exfalso
       have hl : ∀ (names : List (Str × NameKind)),names.lookup x = some .free → (names.map fun (n,k)=>if (k == NameKind.free && X.env.scope.kind == .function && X.env.kindOf n == some .cell) then (n,NameKind.cell) else (n,k)).lookup x ≠ some .local := by
        intro names
        induction names with
        | nil=>intro h; simp at h
        | cons p r ih =>
         obtain ⟨n,k⟩ := p
         intro h hh
         have hh : List.lookup x ((if (k == NameKind.free && X.env.scope.kind == .function && X.env.kindOf n == some .cell) = true then (n,NameKind.cell) else (n,k)) :: _) = _ := hh
         rw [List.lookup_cons] at h
         cases hx : x == n with
         | true =>
          rw [hx] at h
          cases h
          by_cases hq : (NameKind.free == NameKind.free && X.env.scope.kind == .function && X.env.kindOf n == some .cell) = true
          ·rw [if_pos hq] at hh; simp [List.lookup_cons,hx] at hh
          ·rw [if_neg hq] at hh; simp [List.lookup_cons,hx] at hh
         | false =>
          rw [hx] at h
          by_cases hq : (k == NameKind.free && X.env.scope.kind == .function && X.env.kindOf n == some .cell) = true
          ·rw [if_pos hq] at hh; simp only [List.lookup_cons,hx] at hh; exact ih h hh
          ·rw [if_neg hq] at hh; simp only [List.lookup_cons,hx] at hh; exact ih h hh
       exact hl _ hz1.2 h
      ·exact h
     ·obtain ⟨o,ho,hd⟩ := hcell
      exact ⟨o,hk _ _ ho,hd⟩
 ·show (fr.map _).length = N'.length
  rw [List.length_map,c.len]
theorem mH {pins : List (Addr × Obj)} {σ : St} {H2 : Hp} {s2 : Shared} {it : Addr} {fp : List Addr} {tn : Nat → Heap → Prop} {J : It} {Q : VK} {RR : Value → Addr → Result → Shared → Prop} {E : Value → Shared → Prop} (c : CompOk X scope N' fr own) (hc : X.calm = true)
  (hg : ∀ C fp s H,PG (Q2 X scope N' C fp s H) tg g) (ho : kO own g) (ht : ∀ C fp s H,rX (Q2 X scope N' C fp s H) ifs ti) (he : ∀ C fp s H,PE (Q2 X scope N' C fp s H) elt te)
  (I2 : Inv X pins σ H2 s2) (T : kN X.prog X.w X.K tg J fp it tn) (st2 : tn 0 s2.heap) (f2 : ∀ b ∈ fp,W0 X pins H2 b)
  (R : ∀ l,H2 l = none → ∃ W : Nat → Nat → List V → Hp → Prop,(∃ m,W 0 m [] (B6 H2 l (.lst []))) ∧ ∀ i m ys H',W i m ys H' →
   (J.stop i H' ∧ Q (.ref l) H') ∨ (J.go i H' ∧ ∃ N : List V → Hp → Prop,(∀ zs H'',N zs H'' → ∃ m',m' < m ∧ W (i + 1) m' zs H'') ∧ ∀ x H2,J.yld i H' x H2 → g x (U5 fr σ) H2 fun σ3 H3=>ti σ3 H3 fun b H4=>if b = true then
    te σ3 H4 fun y H5=>H5 l = some (.lst ys) ∧ ys.length < sizeLine ∧ N (ys ++ [y]) (B6 H5 l (.lst (ys ++ [y]))) else N ys H4))
  (fin : ∀ l C s' H',Inv X pins σ H' s' → (∃ m,s'.heap.Ns C m) → H' C = none → s2.heap.objs.size ≤ C → Q (.ref l) H' → RR (.ref l) C (.ok .next) s') :
  wpAny (model X.prog X.w) X.A (newList []) (fun acc s₃=>wpAny (model X.prog X.w) X.A (newFunctionEnv scope X.env.globals (G8 X.env.cells scope.names []) [] X.env.qual none .none (some X.env)) (fun cenv s₄ =>
   codeAny (model X.prog X.w) X.A (.compStart (.ListComp elt [⟨tg,iter,ifs,0⟩] scope pos) 0 (.ref it) acc { cenv with scope := relabel scope X.env }) (RR acc cenv.locals) s₄) E s₃) E s2 := by
 refine wpAny_newObj_type (wpAny_newFunctionEnv c.hcell (by intro y hy; simp at hy) (fun h₁ hns₁ hsb₁=>?_) c.kind)
 dsimp only at hns₁ hsb₁ ⊢
 have I3 : Inv X pins σ (B6 H2 s2.heap.objs.size (.lst [])) { s2 with heap := s2.heap.push { cls := .type "list",data := .seq ([] : List Value).toArray } } := I2.lnew (its := []) (t' := s2.toks) .nil (Nat.zero_le _)
 have hl := I2.fresh
 obtain ⟨W,⟨m0,w0⟩,turn⟩ := R _ hl
 generalize hs3 : ({ s2 with heap := s2.heap.push { cls := .type "list",data := .seq ([] : List Value).toArray } } : Shared) = s3 at I3
 have hh3 : s2.heap.push { cls := .type "list",dict := none,data := .seq ([] : List Value).toArray } = s3.heap := by rw [← hs3]
 have hz3 : s3.heap.objs.size = s2.heap.objs.size + 1 := by rw [← hs3]; exact Heap.size_push ..
 have up23 : ∀ b o,s2.heap.get? b = some o → s3.heap.get? b = some o := fun b o e=>by rw [← hh3]; exact Heap.get?_push_of_some _ e
 have objs : ∀ b ∈ fp,∃ o,s2.heap.get? b = some o ∧ ∀ v,o.data ≠ .cell v := T.obj _ _ st2
 have lt2 : ∀ b ∈ fp,b < s2.heap.objs.size := fun b hb=>by obtain ⟨o,e,_⟩ := objs b hb; exact Heap.lt_size e
 have f3 : ∀ b ∈ fp,W0 X pins (B6 H2 s2.heap.objs.size (.lst [])) b := fun b hb=>⟨by rw [B5 (Nat.ne_of_lt (lt2 b hb))]; exact (f2 b hb).1,(f2 b hb).2⟩
 have st3 : tn 0 s3.heap := T.keep _ _ _ st2 fun b _ o e=>up23 b o e
 rw [hh3] at hns₁ hsb₁ ⊢
 have up34 : ∀ b o,s3.heap.get? b = some o → h₁.get? b = some o := fun b o e=>hsb₁.extBut b o (Nat.ne_of_lt (Heap.lt_size e)) (Heap.get?_push_of_some _ e)
 have I4 : Inv (Q2 X scope N' s3.heap.objs.size fp s3 (B6 H2 s2.heap.objs.size (.lst []))) [] (U5 fr σ) (B6 H2 s2.heap.objs.size (.lst [])) { s3 with heap := h₁,toks := s2.toks + ([] : List (Str × Value)).length } :=
  vP c hc I3 f3 (fun b hb=>by rw [hz3]; exact Nat.lt_succ_of_lt (lt2 b hb)) hns₁ up34
 generalize hXX : Q2 X scope N' s3.heap.objs.size fp s3 (B6 H2 s2.heap.objs.size (.lst [])) = X' at I4
 have hg' := hg s3.heap.objs.size fp s3 (B6 H2 s2.heap.objs.size (.lst []))
 have ht' := ht s3.heap.objs.size fp s3 (B6 H2 s2.heap.objs.size (.lst []))
 have he' := he s3.heap.objs.size fp s3 (B6 H2 s2.heap.objs.size (.lst []))
 rw [hXX] at hg' ht' he'
 have eP : X'.prog = X.prog := by rw [← hXX]; rfl
 have eW : X'.w = X.w := by rw [← hXX]; rfl
 have eK : X'.K = X.K := by rw [← hXX]; rfl
 have eA : X'.A = X.A := by rw [← hXX]; rfl
 have eC : X'.calm = true := by rw [← hXX]; exact hc
 have eX : X'.xe = fun _ _=>False := by rw [← hXX]; rfl
 have eE : X'.env = compEnvC scope (G8 X.env.cells scope.names []) s3.heap.objs.size X.env := by rw [← hXX]; rfl
 have eN : X'.env.locals = s3.heap.objs.size := by rw [eE]; rfl
 have eF : X'.fs = V9 X.stack := by rw [← hXX]; rfl
 have eEx : X'.ex = fp := by rw [← hXX]; rfl
 have ePn : X'.pn = [] := by rw [← hXX]; rfl
 have eS : X'.s₀ = s3 := by rw [← hXX]; rfl
 have eH : X'.H₀ = B6 H2 s2.heap.objs.size (.lst []) := by rw [← hXX]; rfl
 have fpIn : ∀ {H' : Hp},(∀ b ∈ fp,H' b = none) → ∀ b ∈ fp,W0 X' [] H' b := fun {H'} hn b hb=>by
  refine ⟨hn b hb,by rw [eN,hz3]; exact Nat.ne_of_lt (Nat.lt_succ_of_lt (lt2 b hb)),fun z=>?_,.inl (by rw [eEx]; exact hb),fun x cc e=>?_,fun p hp=>by rw [ePn] at hp; simp at hp⟩
  ·rw [eF] at z
   rcases List.mem_cons.mp (I3.stkSub b z) with e | e
   ·exact (f3 b hb).2.1 e
   ·exact (f3 b hb).2.2.1 e
  ·rw [eE] at e
   exact (f3 b hb).2.2.2.2.1 x cc (U3 _ _ (c.hfree I3) (by intro c' e'; simp at e') e)
 have loop : ∀ s₅ : Shared,s₅ = { s3 with heap := h₁,toks := s2.toks + ([] : List (Str × Value)).length } →
   codeAny (model X.prog X.w) X.A (.compLoop (.ListComp elt [⟨tg,iter,ifs,0⟩] scope pos) 0 (.ref it) (.ref s2.heap.objs.size) (compEnvC scope (G8 X.env.cells scope.names []) s3.heap.objs.size X.env)) (RR (.ref s2.heap.objs.size) s3.heap.objs.size) s₅ := by
  rintro s₅ rfl
  refine hX (fun n s'=>∃ i ys H',Inv X' [] (U5 fr σ) H' s' ∧ tn i s'.heap ∧ (∀ b ∈ fp,H' b = none) ∧ W i n ys H') ?_ m0
   ⟨0,[],_,I4,T.keep _ _ _ st3 fun b _ o e=>up34 b o e,fun b hb=>(f3 b hb).1,w0⟩
  rintro n s6 ⟨i,ys,H6,I6,st6,fr6,w6⟩
  rcases turn i n ys H6 w6 with ⟨stop,q⟩ | ⟨go,NN,hNN,step⟩
  ·have D := T.done X' eP eW eK eC i [] s6 _ H6 (fun _ _=>False) I6 (fpIn fr6) st6 stop
   rw [eA] at D
   refine D8 D fun r s7 ⟨hr,I7⟩=>?_
   subst hr
   have un := I7.base
   rw [eF,eEx,eS,eH] at un
   have os7 : s7.os = s3.os := by rw [I7.os,eS]
   have hok7 := I7.hok
   rw [eP,eW] at hok7
   have J3 : Inv X pins σ H6 s7 := I3.call' os7 un hok7 I7.bare fun b hb=>⟨(f3 b hb).2.2.2.1,(f3 b hb).2.1,(f3 b hb).2.2.2.2.1,(f3 b hb).2.2.2.2.2⟩
   obtain ⟨m7,hn7,_⟩ := I7.loc
   rw [eN] at hn7
   have fr7 := I7.free
   rw [eN] at fr7
   exact fin _ _ s7 H6 J3 ⟨m7,hn7⟩ fr7 (by rw [hz3]; exact Nat.le_succ _) q
  ·have D := T.item X' eP eW eK eC i [] s6 _ H6 (fun _ _=>False) I6 (fpIn fr6) st6 go
   rw [eA] at D
   refine D8 D fun r s7 ⟨u,hr,h7⟩=>?_
   subst hr
   refine D8 h7 fun _ s8 ⟨x,H8,I8,r8,y8,st8,fr8⟩=>?_
   have I8' := I8.pinned (fpIn fr8) (T.obj _ _ st8)
   have q8 := ho _ _ _ _ (step x H8 y8)
   have A1 := hg' _ s8 _ H8 x u _ I8' r8 q8
   rw [eP,eW,eA,eE,eX] at A1
   refine D8 A1 fun _ s9 ⟨σ9,H9,I9,q9,len9,own9⟩=>?_
   have A2 := ht' _ s9 σ9 H9 _ I9 q9
   rw [eP,eW,eA,eE,eX] at A2
   refine D8 A2 fun ok s10 ⟨H10,I10,gH⟩=>?_
   have weak : ∀ {H' : Hp} {s' : Shared},Inv X' ([] ++ W3 fp s8.heap) σ9 H' s' → Inv X' ([] ++ W3 fp s8.heap) (U5 fr σ) H' s' := fun {H' s'} I'=>I'.weak len9.symm fun j v e=>by
    by_cases hj : j ∈ own
    ·exfalso
     have z := List.all_eq_true.mp c.own_ j hj
     have z : fr[j]? = some none := by simpa using z
     have e : (fr.map fun o=>o.bind fun j=>(σ[j]?).join)[j]? = some (some v) := e
     rw [List.getElem?_map,z] at e
     simp at e
    ·rw [own9 j hj]; exact e
   have again : ∀ {H' : Hp} {s' : Shared},Inv X' ([] ++ W3 fp s8.heap) σ9 H' s' → tn (i + 1) s'.heap ∧ (∀ b ∈ fp,H' b = none) ∧ Inv X' [] (U5 fr σ) H' s' := fun {H' s'} I'=>by
    refine ⟨T.keep _ _ _ st8 fun b hb o e=>(I'.pin (b,o) (List.mem_append_right _ (List.mem_append_right _ (V5 hb e)))).1,fun b hb=>?_,(weak I').unpinned⟩
    obtain ⟨o,e,d⟩ := T.obj _ _ st8 b hb
    exact (I'.pin (b,o) (List.mem_append_right _ (List.mem_append_right _ (V5 hb e)))).2.1
   cases ok with
   | false =>
    rw [if_neg Bool.false_ne_true] at gH ⊢
    obtain ⟨m',hm,w'⟩ := hNN _ _ gH
    obtain ⟨t1,t2,t3⟩ := again I10
    exact ⟨m',hm,i + 1,ys,H10,t3,t1,t2,w'⟩
   | true =>
    rw [if_pos rfl] at gH ⊢
    have A3 := he' _ s10 σ9 H10 _ I10 gH
    rw [eP,eW,eA,eE,eX] at A3
    refine D8 A3 fun yv s11 ⟨y,H11,I11,wQ,hl11,hz11,wR⟩=>?_
    have A4 := J7 (X := X') _ s11 σ9 H11 (.ref s2.heap.objs.size) [y] (.ref s2.heap.objs.size) [yv] (fun _ H'=>H' = B6 H11 s2.heap.objs.size (.lst (ys ++ [y]))) I11 rfl (.cons wQ .nil) ⟨_,ys,y,rfl,rfl,hl11,hz11,rfl⟩
    rw [eP,eW,eA,eX] at A4
    refine D8 A4 fun _ s12 ⟨_,H12,I12,_,e12⟩=>?_
    subst e12
    obtain ⟨m',hm,w'⟩ := hNN _ _ wR
    obtain ⟨t1,t2,t3⟩ := again I12
    exact ⟨m',hm,i + 1,_,_,t3,t1,t2,w'⟩
 have e5 : ({ s2 with heap := h₁,toks := s2.toks + ([] : List (Str × Value)).length } : Shared) = { s3 with heap := h₁,toks := s2.toks + ([] : List (Str × Value)).length } := by rw [← hs3]
 exact codeAny_compStart_list (loop _ e5) (T.self _ 0 _ _ _ (T.keep _ _ _ st3 fun b _ o e=>up34 b o e) (loop _ e5))
theorem dW (c : CompOk X scope N' fr own) (hc : X.calm = true) (hi : PI X tg iter wi)
  (hg : ∀ C fp s H,PG (Q2 X scope N' C fp s H) tg g) (ho : kO own g) (ht : ∀ C fp s H,rX (Q2 X scope N' C fp s H) ifs ti) (he : ∀ C fp s H,PE (Q2 X scope N' C fp s H) elt te)
  (hs : ∀ x,foldedSetIterable iter X.env x = pure x := by intro _; rfl) : PE X (.ListComp elt [⟨tg,iter,ifs,0⟩] scope pos) (uK wi fr g ti te) := by
 intro pins s σ H Q I h
 rw [eval_ListComp]
 refine wpAny_comprehension_free (use := none) rfl hs (aN (c.hfree I)) c.kind c.hnames (D8 (hi pins s σ H _ I h) fun v s1 h1=>D8 h1 fun itv s2 h2=>?_)
 obtain ⟨it,fp,tn,J,H2,e,I2,T,st2,f2,R⟩ := h2
 subst e
 refine mH (RR := fun acc C=>compPost (model X.prog X.w) X.A X.xe none (EP X pins σ Q) acc C) c hc hg ho ht he I2 T st2 f2 R ?_
 intro l C s' H' I' hn hC hle q
 obtain ⟨m,hn⟩ := hn
 refine ⟨m,hn,fun h' hs'=>⟨.ref l,H',?_,rfl,q⟩⟩
 have cl : ∀ x cc,X.env.cells.lookup x = some cc → cc ≠ C := fun x cc e z=>by
  obtain ⟨v,o,ho,_⟩ := I2.cell x cc e
  exact absurd (Nat.lt_of_lt_of_le (Heap.lt_size ho) (by rw [z]; exact hle)) (Nat.lt_irrefl _)
 exact I'.turned (t' := s'.toks) (fun b o hb e=>hs'.extBut b o hb e) hC (Nat.ne_of_gt (Nat.lt_of_lt_of_le I2.lt hle)) (.inr (Nat.le_trans I2.sz hle)) cl fun p hp z =>
  absurd (Nat.lt_of_lt_of_le (Heap.lt_size (I2.pin p hp).1) (by rw [z]; exact hle)) (Nat.lt_irrefl _)
theorem sZ {i : Nat} {y : Str} {py spos : Pos} (c : CompOk X scope N' fr own) (hc : X.calm = true) (hN : X.N.Nodup) (hy : X.N[i]? = some y) (hx : X.env.scope.names.lookup y = some .local) (hi : PI X tg iter wi)
  (hg : ∀ C fp s H,PG (Q2 X scope N' C fp s H) tg g) (ho : kO own g) (ht : ∀ C fp s H,rX (Q2 X scope N' C fp s H) ifs ti) (he : ∀ C fp s H,PE (Q2 X scope N' C fp s H) elt te)
  (hsw : swapsWith (.ListComp elt [⟨tg,iter,ifs,0⟩] scope pos) (some (.Name y py)) spos.line X.env = pure true := by rfl)
  (hs : ∀ x,foldedSetIterable iter X.env x = pure x := by intro _; rfl) : PS X (.Assign [.Name y py] (.ListComp elt [⟨tg,iter,ifs,0⟩] scope pos) spos) (kA (uK wi fr g ti te) (R1 i)) := by
 intro pins s σ H D I h
 rw [exec_Assign_Name_used _ _ _ _ hsw]
 refine wpAny_bind (wpAny_standAt (wpAny_bind ?_))
 show wpAny _ X.A (do let _ ← comprehension (.ListComp elt [⟨tg,iter,ifs,0⟩] scope pos) scope X.env _ (newList []) false (eval iter X.env) (some (assign (.Name y py) X.env))) _ _ s
 refine wpAny_bind (wpAny_mono (wpAny_comprehension_free (use := some (assign (.Name y py) X.env)) (Q := fun _ s'=>SP X pins D .next s') rfl hs (aN (c.hfree I)) c.kind c.hnames
  (D8 (hi pins s σ H _ I h) fun v s1 h1=>D8 h1 fun itv s2 h2=>?_)) (fun _ s' hq=>wpAny_pure (wpAny_pure hq)) fun _ _ e=>e)
 obtain ⟨it,fp,tn,J,H2,e,I2,T,st2,f2,R⟩ := h2
 subst e
 refine mH (Q := fun x H1=>R1 i x σ H1 D.nx) (RR := fun acc C=>compPost (model X.prog X.w) X.A X.xe (some (assign (.Name y py) X.env)) (fun _ s'=>SP X pins D .next s') acc C) c hc hg ho ht he I2 T st2 f2 R ?_
 intro l C s' H' I' hn hC hle q
 obtain ⟨m,hn⟩ := hn
 have cl : ∀ x cc,X.env.cells.lookup x = some cc → cc ≠ C := fun x cc e z=>by
  obtain ⟨v,o,ho,_⟩ := I2.cell x cc e
  exact absurd (Nat.lt_of_lt_of_le (Heap.lt_size ho) (by rw [z]; exact hle)) (Nat.lt_irrefl _)
 show wpAny _ X.A (assign (.Name y py) X.env (.ref l)) _ _ s'
 refine wpAny_assign_Name (fY I' hN hy (.inl hx) (v := .ref l) rfl (fun s5 I5 hsb=>?_) (.inr hx))
 obtain ⟨a,hsb,ha⟩ := hsb
 have hCa : C ≠ a := by
  rcases ha with e | e
  ·rw [e]; exact Nat.ne_of_gt (Nat.lt_of_lt_of_le I2.lt hle)
  ·exact Ne.symm (cl _ _ e)
 refine ⟨m,hn.sameBut hsb hCa,fun h' hs'=>⟨_,H',?_,q⟩⟩
 exact I5.turned (t' := s5.toks) (fun b o hb e=>hs'.extBut b o hb e) hC (Nat.ne_of_gt (Nat.lt_of_lt_of_le I2.lt hle)) (.inr (Nat.le_trans I2.sz hle)) cl fun p hp z =>
  absurd (Nat.lt_of_lt_of_le (Heap.lt_size (I2.pin p hp).1) (by rw [z]; exact hle)) (Nat.lt_irrefl _)
end
section
variable {fr : List (Option Nat)} {g : TG} {ti : TT} {te : TE} {σ : St} {H1 : Hp} {l : Addr} {Q : VK}
def X0 (fr : List (Option Nat)) (g : TG) (ti : TT) (te : TE) (σ : St) (l : Addr) (x : V) (ys : List V) (H : Hp) (N : List V → Hp → Prop) : Prop :=
 g x (U5 fr σ) H fun σ3 H3=>ti σ3 H3 fun b H4=>if b = true then te σ3 H4 fun y H5=>H5 l = some (.lst ys) ∧ ys.length < sizeLine ∧ N (ys ++ [y]) (B6 H5 l (.lst (ys ++ [y]))) else N ys H4
theorem hV {K : PySem.W.Frag} {a : Addr} {xs : List V} (Pv : Nat → List V → Hp → Prop) (h0 : Pv 0 [] (B6 H1 l (.lst []))) (hl : ∀ i ys H,i ≤ xs.length → Pv i ys H → SqL K H a xs)
  (hs : ∀ i x ys H,xs[i]? = some x → Pv i ys H → X0 fr g ti te σ l x ys H (Pv (i + 1))) (hd : ∀ ys H,Pv xs.length ys H → Q (.ref l) H) : jM (sB K a) fr g ti te σ H1 l Q := by
 refine ⟨fun i m ys H=>m = xs.length - i ∧ i ≤ xs.length ∧ Pv i ys H,⟨xs.length,by simp,Nat.zero_le _,h0⟩,?_⟩
 rintro i m ys H ⟨rfl,hi,p⟩
 have q := hl i ys H hi p
 by_cases hlt : i < xs.length
 ·refine .inr ⟨⟨xs,xs[i],q,by simp [hlt]⟩,Pv (i + 1),fun zs H' p'=>⟨xs.length - (i + 1),by omega,rfl,hlt,p'⟩,fun x H' y=>?_⟩
  obtain ⟨e,y⟩ := y
  subst e
  exact hs i x ys _ (y xs q) p
 ·have e : i = xs.length := by omega
  subst e
  exact .inl ⟨⟨xs,q,Nat.le_refl _⟩,hd ys H p⟩
theorem vQ {lo : Int} {n : Nat} (Pv : Nat → List V → Hp → Prop) (h0 : Pv 0 [] (B6 H1 l (.lst [])))
  (hs : ∀ i ys H,i < n → Pv i ys H → X0 fr g ti te σ l (.int (lo + i)) ys H (Pv (i + 1))) (hd : ∀ ys H,Pv n ys H → Q (.ref l) H) : jM (sA lo n) fr g ti te σ H1 l Q := by
 refine ⟨fun i m ys H=>m = n - i ∧ i ≤ n ∧ Pv i ys H,⟨n,by simp,Nat.zero_le _,h0⟩,?_⟩
 rintro i m ys H ⟨rfl,hi,p⟩
 by_cases hlt : i < n
 ·refine .inr ⟨hlt,Pv (i + 1),fun zs H' p'=>⟨n - (i + 1),by omega,rfl,hlt,p'⟩,fun x H' y=>?_⟩
  obtain ⟨e,y⟩ := y
  subst e y
  exact hs i ys _ hlt p
 ·have e : i = n := by omega
  subst e
  exact .inl ⟨Nat.le_refl _,hd ys H p⟩
end
end L2
namespace L2
open PySem PySem.Spec PyProof.Rows
mutual
def P0 (K : PySem.W.Frag) (H : Hp) : PyData → V → Prop
 | .none,v=>v = .non
 | .bool b,v=>v = .bl b
 | .int i,v=>v = .int i
 | .str x,v=>v = .str x
 | .list ds,v=>∃ a ys,v = .ref a ∧ SqL K H a ys ∧ W5 K H ds ys
 | .tuple ds,v=>∃ a ys,v = .ref a ∧ SqT K H a ys ∧ W5 K H ds ys
 | .dict _,_=>False
def W5 (K : PySem.W.Frag) (H : Hp) : List PyData → List V → Prop
 | [],ys=>ys = []
 | d :: ds,ys=>∃ y r,ys = y :: r ∧ P0 K H d y ∧ W5 K H ds r
end
section
variable {X : Cx} {pins : List (Addr × Obj)} {σ : St} {H : Hp} {s : Shared}
mutual
theorem bI (I : Inv X pins σ H s) : ∀ (d : PyData) (v : V) (u : Value),P0 X.K H d v → RelV v u → ∃ as,Reads s.heap u d as
 | .none,v,u,h,r=>by
  simp only [P0] at h; subst h; cases r; exact ⟨_,.none⟩
 | .bool b,v,u,h,r=>by
  simp only [P0] at h; subst h; cases r; exact ⟨_,.bool b⟩
 | .int i,v,u,h,r=>by
  simp only [P0] at h; subst h; obtain ⟨t,rfl⟩ := r; exact ⟨_,.int i t⟩
 | .str x,v,u,h,r=>by
  simp only [P0] at h; subst h; obtain ⟨t,rfl⟩ := r; exact ⟨_,.str x t⟩
 | .list ds,v,u,h,r=>by
  simp only [P0] at h
  obtain ⟨a,ys,rfl,hq,hd⟩ := h
  cases r
  obtain ⟨its,rv,⟨o,n,e,c,_,dd⟩,_⟩ := I.list hq
  obtain ⟨as,hr⟩ := cW I ds ys its hd rv
  exact ⟨_,.list e c dd (by simpa using hr)⟩
 | .tuple ds,v,u,h,r=>by
  simp only [P0] at h
  obtain ⟨a,ys,rfl,hq,hd⟩ := h
  cases r
  obtain ⟨its,rv,⟨o,e,c,n,dd⟩,_⟩ := I.tuple hq
  obtain ⟨as,hr⟩ := cW I ds ys its hd rv
  exact ⟨_,.tuple e c dd (by simpa using hr)⟩
 | .dict _,v,u,h,r=>by simp only [P0] at h
theorem cW (I : Inv X pins σ H s) : ∀ (ds : List PyData) (vs : List V) (us : List Value),W5 X.K H ds vs → Vals vs us → ∃ as,ReadsAll s.heap us ds as
 | [],vs,us,h,r=>by
  simp only [W5] at h; subst h; cases r; exact ⟨_,.nil⟩
 | d :: ds,vs,us,h,r=>by
  simp only [W5] at h
  obtain ⟨y,rr,rfl,h1,h2⟩ := h
  cases r with
  | cons r1 r2 =>
   obtain ⟨as,q1⟩ := bI I d y _ h1 r1
   obtain ⟨bs,q2⟩ := cW I ds rr _ h2 r2
   exact ⟨_,.cons q1 q2⟩
end
end
theorem SqT.keep {K : PySem.W.Frag} {H H' : Hp} (k : ∀ b u,(H b = some (.tup u) → H' b = some (.tup u)) ∧ ∀ o,H b = some (.frz o (.tup u)) → H' b = some (.frz o (.tup u))) {a : Addr} {ys : List V} (h : SqT K H a ys) : SqT K H' a ys := by
 rcases h with (h | ⟨o,h⟩) | h
 ·exact .inl (.inl ((k a ys).1 h))
 ·exact .inl (.inr ⟨o,(k a ys).2 o h⟩)
 ·exact .inr h
theorem Same.seqT {K : PySem.W.Frag} {H H' : Hp} (e : Same H H') {a : Addr} {xs : List V} (h : SqT K H a xs) : SqT K H' a xs := h.keep fun b u=>⟨fun q=>e _ _ q,fun o q=>e _ _ q⟩
def zO (K : PySem.W.Frag) : R2 := fun x y H Q=>∃ dx dy,P0 K H dx x ∧ P0 K H dy y ∧ dx.canLay0 = true ∧ dy.canLay0 = true ∧ min dx.depth dy.depth ≤ 60 ∧ Q (.bl (PyData.eqv dx dy)) H
def BE2 (K : PySem.W.Frag) : R2 := fun x y H Q=>∃ dx dy,P0 K H dx x ∧ P0 K H dy y ∧ dx.canLay0 = true ∧ dy.canLay0 = true ∧ min dx.depth dy.depth ≤ 60 ∧ Q (.bl (!PyData.eqv dx dy)) H
section
variable {X : Cx}
theorem bL (hu : X.A.units + 64 < cLine) : Q4 X (compareOp .Eq) (zO X.K) := by
 intro pins s σ H x y v u Q I rx ry h
 obtain ⟨dx,dy,h1,h2,c1,c2,hm,q⟩ := h
 obtain ⟨as,r1⟩ := bI I dx x v h1 rx
 obtain ⟨bs,r2⟩ := bI I dy y u h2 ry
 exact PySem.SeqAt.eqOverData X.prog X.w X.A X.xe s v u dx dy as bs _ r1 r2 c1 c2 (by omega) ⟨.bl _,H,I,rfl,q⟩
theorem AQ9 (hu : X.A.units + 64 < cLine) : Q4 X (compareOp .NotEq) (BE2 X.K) := by
 intro pins s σ H x y v u Q I rx ry h
 obtain ⟨dx,dy,h1,h2,c1,c2,hm,q⟩ := h
 obtain ⟨as,r1⟩ := bI I dx x v h1 rx
 obtain ⟨bs,r2⟩ := bI I dy y u h2 ry
 exact PySem.SeqAt.neOverData X.prog X.w X.A X.xe s v u dx dy as bs _ r1 r2 c1 c2 (by omega) ⟨.bl _,H,I,rfl,q⟩
theorem Vals.bls {bs : List Bool} : ∀ {us : List Value},Vals (bs.map V.bl) us → us = bs.map Value.bool := by
 induction bs with
 | nil=>intro us r; cases r; rfl
 | cons b r ih =>
  intro us h
  cases h with
  | cons r1 r2 =>
   cases r1
   rw [ih r2]
   rfl
theorem wP (bs : List Bool) : (List.range bs.length).all (fun i=>bs.getD i false) = bs.all id := by
 rw [Bool.eq_iff_iff]
 simp only [List.all_eq_true,List.mem_range,id]
 refine ⟨fun h b hb=>?_,fun h i hi=>?_⟩
 ·obtain ⟨i,hi,e⟩ := List.getElem_of_mem hb
  have := h i hi
  simpa [hi,e] using this
 ·have := h bs[i] (List.getElem_mem hi)
  simpa [hi] using this
theorem wO (bs : List Bool) : (List.range bs.length).any (fun i=>bs.getD i false) = bs.any id := by
 rw [Bool.eq_iff_iff]
 simp only [List.any_eq_true,List.mem_range,id]
 refine ⟨fun ⟨i,hi,e⟩=>?_,fun ⟨b,hb,e⟩=>?_⟩
 ·exact ⟨bs[i],List.getElem_mem hi,by simpa [hi] using e⟩
 ·obtain ⟨i,hi,e2⟩ := List.getElem_of_mem hb
  exact ⟨i,hi,by simpa [hi,e2] using e⟩
theorem jO {prog : Program} {w : World} {A : Around} (bs : List Bool) : TruthOf prog w A (fun i v=>(bs.map Value.bool).toArray[i]? = some v) (fun i=>bs.getD i false) := fun i v s Q E hP hQ=>by
 have hi : i < bs.length := by
  by_cases h : i < bs.length
  ·exact h
  ·have hP' : (bs.map Value.bool)[i]? = some v := by simpa using hP
   rw [List.getElem?_eq_none_iff.mpr (by simp; omega)] at hP'
   cases hP'
 have e : v = .bool (bs.getD i false) := by
  have hP' : (bs.map Value.bool)[i]? = some v := by simpa using hP
  rw [List.getElem?_map,List.getElem?_eq_getElem hi] at hP'
  simp only [Option.map_some,Option.some.injEq] at hP'
  rw [← hP']
  simp [hi]
 subst e
 exact wpAny_truthy_bool hQ
theorem fT (hc : X.calm = true) : S9 X (.builtin "all") (fun xs H Q=>∃ a bs,xs = [.ref a] ∧ SqL X.K H a (List.map V.bl bs) ∧ Q (.bl (bs.all id)) H) := by
 intro pins s σ H xs us Q I r h
 obtain ⟨a,bs,rfl,hq,q⟩ := h
 obtain ⟨u,rfl,ru⟩ := Vals.one r
 cases ru
 obtain ⟨its,rv,p,hz⟩ := I.list hq
 have e := Vals.bls rv
 subst e
 have hlt : a < s.heap.objs.size := by obtain ⟨o,_,eo,_⟩ := p; exact Heap.lt_size eo
 refine call_all_walk (wpAny_pyIter_list p.isList ?_)
 refine ⟨s.heap.objs.size,[s.heap.objs.size,a],[s.heap.objs.size],_,_,_,fun i=>bs.getD i false,rfl,Walks.list (A := X.A.in1) (I.ok.hd hc) s.heap.objs.size a (Nat.ne_of_lt hlt) (bs.map Value.bool).toArray,
  ⟨⟨_,Heap.get?_push_size _ rfl,rfl,rfl⟩,p.isList.push _⟩,jO bs,fun h' tk hk=>?_⟩
 have I1 : Inv X pins σ H { s with heap := h',toks := tk } := I.kept fun b o e=>hk b o (fun z=>by
  have z' : b = s.heap.objs.size := by simpa using z
  exact absurd (Heap.lt_size e) (by rw [z']; exact Nat.lt_irrefl _)) (Heap.get?_push_of_some _ e)
 refine ⟨.bl (bs.all id),H,I1,?_,q⟩
 show Value.bool _ = Value.bool _
 rw [← wP]
 simp
theorem fR (hc : X.calm = true) : S9 X (.builtin "any") (fun xs H Q=>∃ a bs,xs = [.ref a] ∧ SqL X.K H a (List.map V.bl bs) ∧ Q (.bl (bs.any id)) H) := by
 intro pins s σ H xs us Q I r h
 obtain ⟨a,bs,rfl,hq,q⟩ := h
 obtain ⟨u,rfl,ru⟩ := Vals.one r
 cases ru
 obtain ⟨its,rv,p,hz⟩ := I.list hq
 have e := Vals.bls rv
 subst e
 have hlt : a < s.heap.objs.size := by obtain ⟨o,_,eo,_⟩ := p; exact Heap.lt_size eo
 refine call_any_walk (wpAny_pyIter_list p.isList ?_)
 refine ⟨s.heap.objs.size,[s.heap.objs.size,a],[s.heap.objs.size],_,_,_,fun i=>bs.getD i false,rfl,Walks.list (A := X.A.in1) (I.ok.hd hc) s.heap.objs.size a (Nat.ne_of_lt hlt) (bs.map Value.bool).toArray,
  ⟨⟨_,Heap.get?_push_size _ rfl,rfl,rfl⟩,p.isList.push _⟩,jO bs,fun h' tk hk=>?_⟩
 have I1 : Inv X pins σ H { s with heap := h',toks := tk } := I.kept fun b o e=>hk b o (fun z=>by
  have z' : b = s.heap.objs.size := by simpa using z
  exact absurd (Heap.lt_size e) (by rw [z']; exact Nat.lt_irrefl _)) (Heap.get?_push_of_some _ e)
 refine ⟨.bl (bs.any id),H,I1,?_,q⟩
 show Value.bool _ = Value.bool _
 rw [← wO]
 simp
def AT5 : V → String → Option Bool
 | .int _,"int"=>some true
 | .int _,"bool"=>some false
 | .int _,"str"=>some false
 | .int _,"tuple"=>some false
 | .bl _,"bool"=>some true
 | .bl _,"int"=>some true
 | .bl _,"str"=>some false
 | .bl _,"tuple"=>some false
 | .str _,"str"=>some true
 | .str _,"int"=>some false
 | .str _,"bool"=>some false
 | .str _,"tuple"=>some false
 | _,_=>none
theorem AC7 : S9 X (.builtin "isinstance") (fun xs H Q=>∃ v T b,xs = [v,.ty T] ∧ AT5 v T = some b ∧ Q (.bl b) H) := by
 intro pins s σ H xs us Q I r h
 obtain ⟨v,T,b,rfl,hb,q⟩ := h
 obtain ⟨u,w,rfl,ru,rw'⟩ := uF r
 cases rw'
 have fin : ∀ t,EP X pins σ Q (.bool b) { s with toks := t } := fun t=>⟨.bl b,H,I.tok t,rfl,q⟩
 unfold AT5 at hb
 split at hb <;> cases hb
 ·obtain ⟨t,rfl⟩ := ru; exact IsiPair.int_int (fin _)
 ·obtain ⟨t,rfl⟩ := ru; exact IsiPair.int_bool (fin _)
 ·obtain ⟨t,rfl⟩ := ru; exact IsiPair.int_str (fin _)
 ·obtain ⟨t,rfl⟩ := ru; exact IsiPair.int_tuple (fin _)
 ·cases ru; exact IsiPair.bool_bool (fin _)
 ·cases ru; exact IsiPair.bool_int (fin _)
 ·cases ru; exact IsiPair.bool_str (fin _)
 ·cases ru; exact IsiPair.bool_tuple (fin _)
 ·obtain ⟨t,rfl⟩ := ru; exact IsiPair.str_str (fin _)
 ·obtain ⟨t,rfl⟩ := ru; exact IsiPair.str_int (fin _)
 ·obtain ⟨t,rfl⟩ := ru; exact IsiPair.str_bool (fin _)
 ·obtain ⟨t,rfl⟩ := ru; exact IsiPair.str_tuple (fin _)
theorem mC : fillsInplaceSlot (.type "list") "add" (Operator.Add == .Add) = pure false := by
 unfold fillsInplaceSlot
 show (typeLookup (.type "list") (dunderI "add") >>= fun fi=>pure (fi.isSome && !isSeqSlot fi)) = pure false
 rw [PySem.F.slot_list_iadd.lookup]
 rfl
theorem pJ : seqSlot? (.type "list") (dunderI "add") = pure (some (.builtin "list.__iadd__")) := PySem.seqSlot_of PySem.F.slot_list_iadd.lookup (by decide +kernel)
def BA2 : yT := fun x y H Q=>∃ l b xs zs,x = .ref l ∧ y = .ref b ∧ H l = some (.lst xs) ∧ H b = some (.lst zs) ∧ xs.length + zs.length ≤ sizeLine ∧ Q (.ref l) (B6 H l (.lst (xs ++ zs)))
theorem hJ : PIp X .Add BA2 := by
 intro pins s σ H x y v u Q I rx ry h
 obtain ⟨l,b,xs,zs,rfl,rfl,hH,hB,hz,q⟩ := h
 cases rx
 cases ry
 obtain ⟨z,its,n,r,hl,e⟩ := I.lstM hH
 obtain ⟨z2,its2,n2,r2,hl2,e2⟩ := I.lstM hB
 have hsz : its.toArray.size + its2.toArray.size ≤ sizeLine := by rw [List.size_toArray,List.size_toArray]; omega
 have hlong : ¬ (!its.toArray.isEmpty && Builtin.List.listTooLong (its.toArray.size + its2.toArray.size)) = true := by
  rw [qW hsz,Bool.and_false]
  exact Bool.false_ne_true
 have tl : s.TypeIs (.ref l) "list" := ⟨_,e,rfl⟩
 have tb : s.TypeIs (.ref b) "list" := ⟨_,e2,rfl⟩
 unfold inplaceOp
 refine wpAny_holding ?_
 refine wpAny_bind (wpAny_typeOf tl (wpAny_bind (wpAny_of_eq mC ?_)))
 show wpAny (model X.prog X.w) X.A (if false = true then _ else _) _ _ s
 rw [if_neg Bool.false_ne_true]
 refine wpAny_bind (wpAny_binaryOp1_none (nm := "add") tl tb noFill_list_add ?_)
 refine wpAny_bind (wpAny_of_eq pJ ?_)
 refine wpAny_bind (wpAny_rule ?_)
 refine call_meets PySem.F.slot_list_iadd tl PySem.F.entry_list_iadd (PySem.F.args_list_iadd_2 _ _)
  (AutoSeq1.list___iadd___list_list_0 l its.toArray n b its2.toArray n2 hlong (by rw [List.size_toArray]; omega) (by omega)) ⟨e,e2,?_⟩
 refine ⟨.ref l,_,I.lset (its' := its ++ its2) hH e (by simp) (r.append r2) ?_,rfl,q⟩
 rw [List.length_append]
 omega
end
end L2
namespace L2.Sp
end L2.Sp
namespace L2
open PySem PySem.Spec PyProof.Rows
section
variable {κ : Type} [DecidableEq κ]
def P3 (kvs : List (κ × V)) (k : κ) : Option V := (kvs.find? fun kv=>decide (kv.1 = k)).map (·.2)
def Q8 (kvs : List (κ × V)) (k : κ) (v : V) : List (κ × V) :=
 if (kvs.any fun kv=>decide (kv.1 = k)) = true then kvs.map (fun kv=>if kv.1 = k then (kv.1,v) else kv) else kvs ++ [(k,v)]
theorem Q5 {p : κ × V} {r : List (κ × V)} {k : κ} (e : p.1 = k) : P3 (p :: r) k = some p.2 := by simp [P3,List.find?_cons,e]
theorem P7 {p : κ × V} {r : List (κ × V)} {k : κ} (e : ¬ p.1 = k) : P3 (p :: r) k = P3 r k := by simp [P3,List.find?_cons,e]
theorem bC (k : κ) : ∀ kvs : List (κ × V),(kvs.any fun kv=>decide (kv.1 = k)) = (P3 kvs k).isSome
 | []=>rfl
 | p :: r=>by
  rw [List.any_cons]
  by_cases e : p.1 = k
  ·simp only [Q5 e,decide_eq_true e,Bool.true_or,Option.isSome_some]
  ·rw [P7 e,decide_eq_false e,Bool.false_or]; exact bC k r
theorem pV (k j : κ) (y : V) : ∀ kvs : List (κ × V),P3 (kvs.map fun kv=>if kv.1 = k then (kv.1,y) else kv) j = (P3 kvs j).map fun x=>if j = k then y else x
 | []=>rfl
 | p :: r=>by
  have ih := pV k j y r
  rw [List.map_cons]
  by_cases h : p.1 = k
  ·rw [if_pos h]
   by_cases e : p.1 = j
   ·rw [Q5 (p := (p.1,y)) e,Q5 e,Option.map_some,if_pos (e.symm.trans h)]
   ·rw [P7 (p := (p.1,y)) e,P7 e,ih]
  ·rw [if_neg h]
   by_cases e : p.1 = j
   ·rw [Q5 (p := p) e,Q5 e,Option.map_some,if_neg (fun z=>h (e.trans z))]
   ·rw [P7 (p := p) e,P7 e,ih]
theorem oH (k j : κ) (y : V) : ∀ kvs : List (κ × V),P3 kvs k = none → P3 (kvs ++ [(k,y)]) j = if j = k then some y else P3 kvs j
 | [],_=>by
  by_cases e : k = j
  ·rw [if_pos e.symm]; exact Q5 (p := (k,y)) e
  ·rw [if_neg (fun z=>e z.symm)]; exact P7 (p := (k,y)) e
 | p :: r,hn=>by
  rw [List.cons_append]
  have hk : ¬ p.1 = k := fun z=>by rw [Q5 z] at hn; cases hn
  rw [P7 hk] at hn
  have ih := oH k j y r hn
  by_cases e : p.1 = j
  ·rw [Q5 e,Q5 e,if_neg (fun z=>hk (e.trans z))]
  ·rw [P7 e,P7 e,ih]
theorem zC (kvs : List (κ × V)) (k j : κ) (y : V) : P3 (Q8 kvs k y) j = if j = k then some y else P3 kvs j := by
 unfold Q8
 by_cases a : (kvs.any fun kv=>decide (kv.1 = k)) = true
 ·rw [if_pos a,pV]
  rw [bC] at a
  by_cases e : j = k
  ·obtain ⟨x,hx⟩ := Option.isSome_iff_exists.mp a
   rw [if_pos e,e,hx,Option.map_some,if_pos rfl]
  ·rw [if_neg e]
   cases P3 kvs j with
   | none=>rfl
   | some x=>rw [Option.map_some,if_neg e]
 ·rw [if_neg a]
  refine oH k j y kvs ?_
  rw [bC] at a
  cases q : P3 kvs k with
  | none=>rfl
  | some x=>rw [q] at a; exact (a rfl).elim
theorem Z4 (kvs : List (κ × V)) (k : κ) (v : V) : (Q8 kvs k v).length ≤ kvs.length + 1 := by
 unfold Q8
 split
 ·rw [List.length_map]; omega
 ·rw [List.length_append,List.length_cons,List.length_nil]; omega
theorem zP {kvs : List (κ × V)} {k : κ} (v : V) (h : P3 kvs k = none) : Q8 kvs k v = kvs ++ [(k,v)] := by
 unfold Q8
 rw [bC,h]
 exact if_neg (by decide)
theorem RelO.isSome_eq {o : Option V} {u : Option Value} (r : RelO o u) : o.isSome = u.isSome := by
 cases o with
 | none=>cases u with
  | none=>rfl
  | some _=>exact (show False from r).elim
 | some _=>cases u with
  | none=>exact (show False from r).elim
  | some _=>rfl
theorem KV.val {kvs : List (κ × V)} {vs : List (κ × Value)} (r : KV kvs vs) (k : κ) : RelO (P3 kvs k) (valueAt vs k) := by
 unfold KV at r
 induction r with
 | nil=>exact True.intro
 | @cons p q ps qs h t ih =>
  obtain ⟨h1,h2⟩ := h
  by_cases e : p.1 = k
  ·have e' : q.1 = k := h1.symm.trans e
   have b : valueAt (q :: qs) k = some q.2 := by simp [valueAt,List.find?_cons,e']
   rw [Q5 e,b]; exact h2
  ·have e' : ¬ q.1 = k := fun z=>e (h1.trans z)
   have b : valueAt (q :: qs) k = valueAt qs k := by simp [valueAt,List.find?_cons,e']
   rw [P7 e,b]; exact ih
theorem KV.any {kvs : List (κ × V)} {vs : List (κ × Value)} (r : KV kvs vs) (k : κ) : (kvs.any fun kv=>decide (kv.1 = k)) = vs.any fun kv=>decide (kv.1 = k) := by
 unfold KV at r
 induction r with
 | nil=>rfl
 | cons h t ih=>rw [List.any_cons,List.any_cons,ih,h.1]
theorem KV.repl {kvs : List (κ × V)} {vs : List (κ × Value)} (r : KV kvs vs) (k : κ) {y : V} {u : Value} (ry : RelV y u) :
  KV (kvs.map fun kv=>if kv.1 = k then (kv.1,y) else kv) (vs.map fun kv=>if kv.1 = k then (kv.1,u) else kv) := by
 unfold KV at r ⊢
 induction r with
 | nil=>exact .nil
 | @cons p q ps qs h t ih =>
  rw [List.map_cons,List.map_cons]
  refine .cons ?_ ih
  obtain ⟨h1,h2⟩ := h
  by_cases e : p.1 = k
  ·rw [if_pos e,if_pos (h1.symm.trans e)]; exact ⟨h1,ry⟩
  ·rw [if_neg e,if_neg (fun z=>e (h1.trans z))]; exact ⟨h1,h2⟩
theorem KV.put {kvs : List (κ × V)} {vs : List (κ × Value)} (r : KV kvs vs) (k : κ) {y : V} {u : Value} (ry : RelV y u) : KV (Q8 kvs k y) (stored vs k u) := by
 unfold Q8 stored
 rw [r.any k]
 by_cases e : (vs.any fun kv=>decide (kv.1 = k)) = true
 ·rw [if_pos e,if_pos e]; exact r.repl k ry
 ·rw [if_neg e,if_neg e]; exact Paired.snoc r ⟨rfl,ry⟩
theorem KV.length {kvs : List (κ × V)} {vs : List (κ × Value)} (r : KV kvs vs) : kvs.length = vs.length := Paired.length r
end
theorem jE {P : Program} {w : World} {k : K1} {u : Value} (r : RelV (kV k) u) : (P8 P w).is k u = true := by
 cases k with
 | inl i=>obtain ⟨t,e⟩ := (show ∃ t,u = Value.int i t from r); subst e; exact sH P w i t
 | inr x=>obtain ⟨t,e⟩ := (show ∃ t,u = Value.str x t from r); subst e; exact sG P w x t
theorem oR {P : Program} {w : World} : ∀ {ks : List K1} {us : List Value},Vals (ks.map kV) us → ItemsAre (P8 P w) ks us
 | [],_,r=>by rw [List.map_nil] at r; cases r; exact .nil
 | k :: ks,_,r=>by
  rw [List.map_cons] at r
  cases r with
  | cons h t=>exact .cons (jE h) (oR t)
abbrev KT (H : Hp) : List (List K1 × V) → List (List K1 × Addr × Value) → Prop := Paired fun p q=>p.1 = q.1 ∧ H q.2.1 = some (.tup (p.1.map kV)) ∧ RelV p.2 q.2.2
theorem KT.val {H : Hp} {kvs : List (List K1 × V)} {xs : List (List K1 × Addr × Value)} (r : KT H kvs xs) (k : List K1) : RelO (P3 kvs k) ((atKey xs k).map (·.2)) := by
 induction r with
 | nil=>exact True.intro
 | @cons p q ps qs h t ih =>
  obtain ⟨h1,_,h2⟩ := h
  by_cases e : p.1 = k
  ·have e' : q.1 = k := h1.symm.trans e
   have b : atKey (q :: qs) k = some q.2 := by simp [atKey,List.find?_cons,e']
   rw [Q5 e,b]; exact h2
  ·have e' : ¬ q.1 = k := fun z=>e (h1.trans z)
   have b : atKey (q :: qs) k = atKey qs k := by simp [atKey,List.find?_cons,e']
   rw [P7 e,b]; exact ih
theorem KT.repl {H : Hp} {kvs : List (List K1 × V)} {xs : List (List K1 × Addr × Value)} (r : KT H kvs xs) (k : List K1) {y : V} {u : Value} (ry : RelV y u) :
  KT H (kvs.map fun kv=>if kv.1 = k then (kv.1,y) else kv) (xs.map (putAt k u)) := by
 induction r with
 | nil=>exact .nil
 | @cons p q ps qs h t ih =>
  rw [List.map_cons,List.map_cons]
  refine .cons ?_ ih
  obtain ⟨h1,h2,h3⟩ := h
  unfold putAt
  by_cases e : p.1 = k
  ·rw [if_pos e,if_pos (h1.symm.trans e)]; exact ⟨h1,h2,ry⟩
  ·rw [if_neg e,if_neg (fun z=>e (h1.trans z))]; exact ⟨h1,h2,h3⟩
theorem KT.put {H : Hp} {kvs : List (List K1 × V)} {xs : List (List K1 × Addr × Value)} (r : KT H kvs xs) (k : List K1) {b : Addr} {y : V} {u : Value} (hb : H b = some (.tup (k.map kV))) (ry : RelV y u) :
  KT H (Q8 kvs k y) (storedH xs k b u) := by
 have e : (kvs.any fun kv=>decide (kv.1 = k)) = (atKey xs k).isSome := by
  rw [bC,(r.val k).isSome_eq,Option.isSome_map]
 unfold Q8 storedH
 rw [e]
 by_cases q : (atKey xs k).isSome = true
 ·rw [if_pos q,if_pos q]; exact r.repl k ry
 ·rw [if_neg q,if_neg q]; exact Paired.snoc r ⟨rfl,hb,ry⟩
theorem KT.keeps {H H' : Hp} {kvs : List (List K1 × V)} {xs : List (List K1 × Addr × Value)} (r : KT H kvs xs) (ht : ∀ b ys,H b = some (.tup ys) → H' b = some (.tup ys)) : KT H' kvs xs :=
 Paired.mapP r fun _ _ z=>⟨z.1,ht _ _ z.2.1,z.2.2⟩
section
variable {P : Program} {w : World} {H : Hp} {h : Heap} {a : Addr}
theorem AE5 {u : HO} (ok : HOk P w H h) (e : Rd H a u) : ObjOk P w H h a u := e.ok ok
theorem mG {kvs : List (K1 × V)} (ok : HOk P w H h) (e : Rd H a (.dK kvs)) : kvs.length ≤ sizeLine ∧ (a == sysModules) = false ∧ ∃ vs,KV kvs vs ∧ h.DictOf (P8 P w) a vs :=
 show ObjOk P w H h a (.dK kvs) from AE5 ok e
theorem vO {kvs : List (K1 × V)} (ok : HOk P w H h) (e : H a = some (.dK kvs)) : kvs.length ≤ sizeLine ∧ (a == sysModules) = false ∧ ∃ vs,KV kvs vs ∧ h.DictOf (P8 P w) a vs := mG ok (.inl e)
theorem gY {ks : List K1} (ok : HOk P w H h) (e : H a = some (.tup (ks.map kV))) : (tupleKind (P8 P w)).is h ks a := by
 obtain ⟨_,its,r,o,h1,h2,n,h3⟩ := (show ObjOk P w H h a (.tup (ks.map kV)) from ok a _ e)
 exact ⟨o,its.toArray,n,h1,h2,h3,by simpa using oR r⟩
theorem mF {kvs : List (List K1 × V)} (ok : HOk P w H h) (e : Rd H a (.dT kvs)) : kvs.length ≤ sizeLine ∧ (a == sysModules) = false ∧
  ∃ xs,KT H kvs xs ∧ h.DictOfH (tupleKind (P8 P w)) a xs := by
 obtain ⟨z,y,xs,r,o,es,ep,h1,h2,h3,h4,h5⟩ := (show ObjOk P w H h a (.dT kvs) from AE5 ok e)
 refine ⟨z,y,xs,r,o,es,ep,h1,h2,h3,h4,fun x hx=>?_,h5⟩
 have all : ∀ {l : List (List K1 × V)} {m : List (List K1 × Addr × Value)},KT H l m → ∀ x ∈ m,(tupleKind (P8 P w)).is h x.1 x.2.1 := by
  intro l m q
  induction q with
  | nil=>intro x hx; exact nomatch hx
  | @cons p q ps qs hq t ih =>
   intro x hx
   rcases List.mem_cons.mp hx with e | hx
   ·subst e
    exact gY ok (by rw [← hq.1]; exact hq.2.1)
   ·exact ih x hx
 exact all r x hx
theorem BA8 {kvs : List (List K1 × V)} (ok : HOk P w H h) (e : H a = some (.dT kvs)) : kvs.length ≤ sizeLine ∧ (a == sysModules) = false ∧
  ∃ xs,KT H kvs xs ∧ h.DictOfH (tupleKind (P8 P w)) a xs := mF ok (.inl e)
end
def DGet (H : Hp) (a : Addr) (y : V) (r : Option V) : Prop :=
 (∃ kvs k,Rd H a (.dK kvs) ∧ y = kV k ∧ r = P3 kvs k) ∨ ∃ kvs k b,Rd H a (.dT kvs) ∧ y = .ref b ∧ H b = some (.tup (k.map kV)) ∧ r = P3 kvs k
def DPut (H : Hp) (a : Addr) (y v : V) (H' : Hp) : Prop :=
 (∃ kvs k,H a = some (.dK kvs) ∧ y = kV k ∧ kvs.length < sizeLine ∧ H' = B6 H a (.dK (Q8 kvs k v))) ∨
 ∃ kvs k b,H a = some (.dT kvs) ∧ y = .ref b ∧ H b = some (.tup (k.map kV)) ∧ kvs.length < sizeLine ∧ H' = B6 H a (.dT (Q8 kvs k v))
theorem DGet.k {H : Hp} {a : Addr} {kvs : List (K1 × V)} {k : K1} (e : H a = some (.dK kvs)) : DGet H a (kV k) (P3 kvs k) := .inl ⟨kvs,k,.inl e,rfl,rfl⟩
theorem DPut.k {H : Hp} {a : Addr} {kvs : List (K1 × V)} {k : K1} {v : V} (e : H a = some (.dK kvs)) (hl : kvs.length < sizeLine) : DPut H a (kV k) v (B6 H a (.dK (Q8 kvs k v))) := .inl ⟨kvs,k,e,rfl,hl,rfl⟩
section
variable {X : Cx} {pins : List (Addr × Obj)} {σ : St} {H : Hp} {s : Shared} {a : Addr} {y v : V} {u r : Value} {o : Option V} {A : Around} {E : Value → Shared → Prop}
theorem Inv.big (I : Inv X pins σ H s) : sysModules < s.heap.objs.size := by
 have h : mainGlobals < s.heap.objs.size := (I.mod.glob.keeps I.bk).lt
 exact Nat.lt_trans (by decide) h
theorem yG {Q : Value → Shared → Prop} (hu : A.units + 1 < cLine) (I : Inv X pins σ H s) (g : DGet H a y (some v)) (ry : RelV y u) (h : ∀ w' s',Inv X pins σ H s' → RelV v w' → Q w' s') :
  wpAny (model X.prog X.w) A (getItem (.ref a) u) Q E s := by
 rcases g with ⟨kvs,k,e,ey,l⟩ | ⟨kvs,k,b,e,ey,eb,l⟩
 ·subst ey
  obtain ⟨z,hd,vs,rel,dd⟩ := mG I.hok e
  obtain ⟨w',hw,rw'⟩ := RelO.some_of (v := v) (o := valueAt vs k) (by rw [l]; exact rel.val k)
  exact wpAny_getItem_of (jE ry) dd.mapOf hw (h w' _ (I.tok _) rw')
 ·subst ey
  cases (show u = Value.ref b from ry)
  obtain ⟨z,hd,xs,rel,dd⟩ := mF I.hok e
  obtain ⟨w',hw,rw'⟩ := RelO.some_of (v := v) (o := (atKey xs k).map (·.2)) (by rw [l]; exact rel.val k)
  obtain ⟨p,hp,hp2⟩ := Option.map_eq_some_iff.mp hw
  refine wpAny_getItem_heap (tupleKind_room_in1 hu) (gY I.hok eb) dd hp ?_
  rw [hp2]
  exact h w' _ (I.tok _) rw'
theorem BG0 {Q : Value → Shared → Prop} (hu : A.units + 1 < cLine) (I : Inv X pins σ H s) (g : DGet H a y o) (ry : RelV y u) (h : ∀ s',Inv X pins σ H s' → Q (.bool o.isSome) s') :
  wpAny (model X.prog X.w) A (compareOp .In u (.ref a)) Q E s := by
 rcases g with ⟨kvs,k,e,ey,l⟩ | ⟨kvs,k,b,e,ey,eb,l⟩
 ·subst ey
  obtain ⟨z,hd,vs,rel,dd⟩ := mG I.hok e
  refine wpAny_in_of (jE ry) hd dd.mapOf ?_
  rw [← (rel.val k).isSome_eq,← l]
  exact h _ (I.tok _)
 ·subst ey
  cases (show u = Value.ref b from ry)
  obtain ⟨z,hd,xs,rel,dd⟩ := mF I.hok e
  refine wpAny_in_heap (tupleKind_room_in1 hu) (gY I.hok eb) hd dd ?_
  have q := (rel.val k).isSome_eq
  rw [Option.isSome_map] at q
  rw [← q,← l]
  exact h _ (I.tok _)
theorem AN2 {Q : Value → Shared → Prop} (hu : A.units + 1 < cLine) (I : Inv X pins σ H s) (g : DGet H a y o) (ry : RelV y u) (h : ∀ s',Inv X pins σ H s' → Q (.bool (!o.isSome)) s') :
  wpAny (model X.prog X.w) A (compareOp .NotIn u (.ref a)) Q E s := by
 rcases g with ⟨kvs,k,e,ey,l⟩ | ⟨kvs,k,b,e,ey,eb,l⟩
 ·subst ey
  obtain ⟨z,hd,vs,rel,dd⟩ := mG I.hok e
  refine wpAny_notIn_of (jE ry) hd dd.mapOf ?_
  rw [← (rel.val k).isSome_eq,← l]
  exact h _ (I.tok _)
 ·subst ey
  cases (show u = Value.ref b from ry)
  obtain ⟨z,hd,xs,rel,dd⟩ := mF I.hok e
  refine wpAny_notIn_heap (tupleKind_room_in1 hu) (gY I.hok eb) hd dd ?_
  have q := (rel.val k).isSome_eq
  rw [Option.isSome_map] at q
  rw [← q,← l]
  exact h _ (I.tok _)
theorem nY {h' : Heap} {t' : Nat} {ob : HO} (I : Inv X pins σ H s) (mu : yY (H a)) (hs : Heap.SameBut a s.heap h') (he : ∃ q,h'.get? a = some q) (new : ObjOk X.prog X.w (B6 H a ob) h' a ob) :
  Inv X pins σ (B6 H a ob) { s with heap := h',toks := t' } :=
 I.write (x := a) (e := a) mu (.inl rfl) (fun b q hb z=>(hs.2 b hb).trans z) he new
theorem yD {P : Program} {w : World} {H' : Hp} {h' : Heap} {kvs : List (K1 × V)} {vs : List (K1 × Value)} (z : kvs.length ≤ sizeLine) (hd : (a == sysModules) = false) (rel : KV kvs vs) (dd : h'.DictOf (P8 P w) a vs) :
  ObjOk P w H' h' a (.dK kvs) := ⟨z,hd,vs,rel,dd⟩
theorem yF {H' : Hp} {Q : Unit → Shared → Prop} (hu : A.units + 1 < cLine) (I : Inv X pins σ H s) (g : DPut H a y v H') (ry : RelV y u) (rv : RelV v r) (h : ∀ s',Inv X pins σ H' s' → Q () s') :
  wpAny (model X.prog X.w) A (setItem (.ref a) u r) Q E s := by
 rcases g with ⟨kvs,k,e,ey,l,eH⟩ | ⟨kvs,k,b,e,ey,eb,l,eH⟩
 ·subst ey eH
  obtain ⟨z,hd,vs,rel,dd⟩ := vO I.hok e
  have hz : vs.length ≤ sizeLine := by rw [← rel.length]; exact z
  have hl : (Q8 kvs k v).length ≤ sizeLine := by have := Z4 kvs k v; omega
  refine wpAny_setItem_pairs (hsz := hz) (jE ry) dd fun h' dd' hs=>h _ ?_
  have he : ∃ q,h'.get? a = some q := let ⟨q,_,_,hq,_⟩ := dd'; ⟨q,hq⟩
  exact nY I (by rw [e]; exact True.intro) hs he (yD hl hd (rel.put k rv) dd')
 ·subst ey eH
  cases (show u = Value.ref b from ry)
  obtain ⟨z,hd,xs,rel,dd⟩ := BA8 I.hok e
  have hz : xs.length ≤ sizeLine := by rw [← Paired.length rel]; exact z
  have hl : (Q8 kvs k v).length ≤ sizeLine := by have := Z4 kvs k v; omega
  refine wpAny_setItem_heap (hsz := hz) (tupleKind_room_in1 hu) (gY I.hok eb) dd fun h' dd' hs=>h _ ?_
  obtain ⟨q,es,ep,hq,h2,h3,h4,_,h5⟩ := dd'
  refine nY I (by rw [e]; exact True.intro) hs ⟨q,hq⟩ ⟨hl,hd,_,(rel.put k eb rv).keeps fun c ys ec=>?_,q,es,ep,hq,h2,h3,h4,h5⟩
  rw [B5 (AY8 ec e (fun z=>nomatch z))]
  exact ec
end
section
variable {X : Cx} {pins : List (Addr × Obj)} {σ : St} {H : Hp} {s : Shared} {a : Addr} {kvs : List (K1 × V)} {k : K1} {u : Value} {A : Around} {E : Value → Shared → Prop}
end
def AV9 (i : Expr) : Prop := ∀ ov iv,subscripted i false ov iv = operate [ov,iv] (getItem ov iv)
theorem AH3 {prog : Program} {w : World} {A : Around} {E : Value → Shared → Prop} {s : Shared} {env : Env} {value slice : Expr} {pos : Pos} {T id : String} {Q : Value → Shared → Prop}
  (hl : typeLookup (.type T) "__getitem__" = pure (some (.builtin id))) (hs : AV9 slice)
  (h : wpAny (model prog w) A (eval value env) (fun o s₁=>wpAny (model prog w) A (eval slice env) (fun i s₂=>s₂.TypeIs o T ∧ wpAny (model prog w) A (getItem o i) Q E s₂) E s₁) E s) :
  wpAny (model prog w) A (eval (.Subscript value slice pos) env) Q E s := by
 refine Subscript_ (wpAny_mono h (fun o s₁ h₁=>wpAny_mono h₁ (fun i s₂ h₂=>?_) fun _ _ x=>x) fun _ _ x=>x)
 obtain ⟨hT,h₂⟩ := h₂
 unfold subscriptTail
 refine wpAny_bind ?_
 rw [getitemInPython_of_ne hT.not_modules]
 refine wpAny_bind (wpAny_specialOf hT hl ?_)
 have fin : wpAny (model prog w) A (subscripted slice false o i) (fun r s₃=>wpAny (model prog w) A (letTemporaryGo value o r >>= fun _=>pure r) Q E s₃) E s₂ := by
  rw [hs o i]
  exact wpAny_operating (wpAny_mono h₂ (fun r s₃ h₃=>wpAny_bind (wpAny_letTemporaryGo (wpAny_pure h₃))) fun _ _ x=>x)
 first
  | exact wpAny_pure (wpAny_bind fin)
  | exact wpAny_bind (wpAny_pure (wpAny_bind fin))
  | exact wpAny_bind fin
theorem sK {X : Cx} {pins : List (Addr × Obj)} {σ : St} {H : Hp} {s : Shared} {a : Addr} {y : V} {o : Option V} (I : Inv X pins σ H s) (g : DGet H a y o) : s.TypeIs (.ref a) "dict" := by
 rcases g with ⟨kvs,k,e,_,_⟩ | ⟨kvs,k,b,e,_,_,_⟩
 ·obtain ⟨_,_,vs,_,dd⟩ := mG I.hok e
  exact dd.typeIs
 ·obtain ⟨_,_,xs,_,dd⟩ := mF I.hok e
  exact dd.typeIs
def AX8 (td ty : TE) : TE := fun σ H Q=>td σ H fun x H1=>ty σ H1 fun y H2=>∃ a v,x = .ref a ∧ DGet H2 a y (some v) ∧ Q v H2
def BC9 (ty td : TE) : TE := fun σ H Q=>ty σ H fun y H1=>td σ H1 fun x H2=>∃ a o,x = .ref a ∧ DGet H2 a y o ∧ Q (.bl o.isSome) H2
def AH2 (ty td : TE) : TE := fun σ H Q=>ty σ H fun y H1=>td σ H1 fun x H2=>∃ a o,x = .ref a ∧ DGet H2 a y o ∧ Q (.bl (!o.isSome)) H2
def AY3 (td ty tv : TE) : TS := fun D σ H=>tv σ H fun v H1=>td σ H1 fun x H2=>ty σ H2 fun y H3=>∃ a H4,x = .ref a ∧ DPut H3 a y v H4 ∧ D.nx σ H4
section
variable {X : Cx} {o i e value : Expr} {pos pos' tpos : Pos} {td ty tv : TE}
theorem AJ4 (hu : X.A.units + 1 < cLine) (ho : PE X o td) (hi : PE X i ty) (hs : AV9 i) : PE X (.Subscript o i pos) (AX8 td ty) := by
 intro pins s σ H Q I h
 refine AH3 PySem.F.slot_dict_getitem.lookup hs (D8 (ho pins s σ H _ I h) fun u s1 ⟨x,H1,I1,rx,q1⟩=>D8 (hi pins s1 σ H1 _ I1 q1) fun iv s2 ⟨y,H2,I2,ry,a,v,ex,g,q2⟩=>?_)
 subst ex
 obtain rfl : u = Value.ref a := rx
 exact ⟨sK I2 g,yG hu I2 g ry fun w' s3 I3 rw'=>⟨v,H2,I3,rw',q2⟩⟩
theorem AQ6 (hu : X.A.units + 1 < cLine) (hi : PE X i ty) (ho : PE X o td) : PC X .In i o (BC9 ty td) := by
 intro pins s σ H Q I h
 refine D8 (hi pins s σ H _ I h) fun iv s1 ⟨y,H1,I1,ry,q1⟩=>D8 (ho pins s1 σ H1 _ I1 q1) fun u s2 ⟨x,H2,I2,rx,a,ov,ex,g,q2⟩=>?_
 subst ex
 obtain rfl : u = Value.ref a := rx
 exact BG0 hu I2 g ry fun s3 I3=>⟨.bl ov.isSome,H2,I3,rfl,q2⟩
theorem wV (hu : X.A.units + 1 < cLine) (hi : PE X i ty) (ho : PE X o td) : PC X .NotIn i o (AH2 ty td) := by
 intro pins s σ H Q I h
 refine D8 (hi pins s σ H _ I h) fun iv s1 ⟨y,H1,I1,ry,q1⟩=>D8 (ho pins s1 σ H1 _ I1 q1) fun u s2 ⟨x,H2,I2,rx,a,ov,ex,g,q2⟩=>?_
 subst ex
 obtain rfl : u = Value.ref a := rx
 exact AN2 hu I2 g ry fun s3 I3=>⟨.bl (!ov.isSome),H2,I3,rfl,q2⟩
theorem sY (hu : X.A.units + 1 < cLine) (ho : PE X o td) (hi : PE X i ty) (hv : PE X value tv) (hs : swapsWith value (some (.Subscript o i pos')) pos.line X.env = pure false) :
  PS X (.Assign [.Subscript o i pos'] value pos) (AY3 td ty tv) := by
 intro pins s σ H D I h
 refine wpAny_Assign_Subscript (D8 (hv pins s σ H _ I h) fun r s1 ⟨v,H1,I1,rv,q1⟩=>D8 (ho pins s1 σ H1 _ I1 q1) fun u s2 ⟨x,H2,I2,rx,q2⟩=>D8 (hi pins s2 σ H2 _ I2 q2) fun iv s3 ⟨y,H3,I3,ry,a,H4,ex,g,q3⟩=>?_) hs
 subst ex
 obtain rfl : u = Value.ref a := rx
 exact yF hu I3 g ry rv fun s4 I4=>⟨σ,H4,I4,q3⟩
end
theorem rM {P : Program} {w : World} {H : Hp} (h : Heap) (hb : sysModules < h.objs.size) : ObjOk P w H (h.push { cls := .type "dict",data := .dict #[] }) h.objs.size (.dK []) :=
 ⟨Nat.zero_le _,beq_eq_false_iff_ne.mpr (Ne.symm (Nat.ne_of_lt hb)),[],.nil,Heap.DictOf.new h⟩
def AO4 : TE := fun _ H Q=>∀ p,H p = none → Q (.ref p) (B6 H p (.dK []))
section
variable {X : Cx} {pos : Pos}
theorem zX : PE X (.Dict [] [] pos) AO4 := fun pins s σ H Q I h =>
 wpAny_Dict_empty ⟨.ref s.heap.objs.size,_,I.laid (a := s.heap.objs.size) (o := .dK []) (t' := s.toks) (fun _ _ q=>Heap.get?_push_of_some _ q) (Nat.le_refl _) (rM s.heap I.big),rfl,h _ (I.hok.fresh (Nat.le_refl _))⟩
end
def qB : List (TE × TE) → St → Hp → (List (V × V) → Hp → Prop) → Prop
 | [],_,H,Q=>Q [] H
 | (tk,tv) :: r,σ,H,Q=>tk σ H fun x H1=>tv σ H1 fun y H2=>qB r σ H2 fun ps H3=>Q ((x,y) :: ps) H3
abbrev VV : List (V × V) → List (Value × Value) → Prop := Paired fun p q=>RelV p.1 q.1 ∧ RelV p.2 q.2
def PPs (X : Cx) (pos : Pos) (keys : List (Option Expr)) (values : List Expr) (trs : List (TE × TE)) : Prop :=
 ∀ (pins : List (Addr × Obj)) (s : Shared) (σ : St) (H : Hp) (Q : List (V × V) → Hp → Prop),Inv X pins σ H s → qB trs σ H Q →
  wpAny (model X.prog X.w) X.A (evalPairs (pairTrees keys values X.env pos)) (fun vs s'=>∃ ps H',Inv X pins σ H' s' ∧ VV ps vs ∧ Q ps H') X.xe s
theorem AJ0 {X : Cx} {pos : Pos} : PPs X pos [] [] [] := fun pins s σ H Q I h=>pairTrees_nil_walk ⟨[],H,I,.nil,h⟩
theorem zS {X : Cx} {pos : Pos} {k v : Expr} {ks : List (Option Expr)} {vs : List Expr} {tk tv : TE} {trs : List (TE × TE)} (hk : PE X k tk) (hv : PE X v tv) (hr : PPs X pos ks vs trs) :
  PPs X pos (some k :: ks) (v :: vs) ((tk,tv) :: trs) := fun pins s σ H Q I h =>
 pairTrees_cons_walk (D8 (hk pins s σ H _ I h) fun u s1 ⟨x,H1,I1,rx,q1⟩=>D8 (hv pins s1 σ H1 _ I1 q1) fun w2 s2 ⟨y,H2,I2,ry,q2⟩ =>
  D8 (hr pins s2 σ H2 _ I2 q2) fun ws s3 ⟨ps,H3,I3,rel,q3⟩=>⟨(x,y) :: ps,H3,I3,.cons ⟨rx,ry⟩ rel,q3⟩)
def aF (kvs more : List (K1 × V)) : List (K1 × V) := more.foldl (fun acc kv=>Q8 acc kv.1 kv.2) kvs
theorem KV.merge : ∀ {more : List (K1 × V)} {rs : List (K1 × Value)} {kvs : List (K1 × V)} {vs : List (K1 × Value)},KV more rs → KV kvs vs → KV (aF kvs more) (merged vs rs) := by
 intro more rs kvs vs r
 unfold KV at r
 induction r generalizing kvs vs with
 | nil=>intro q; exact q
 | @cons p q ps qs h t ih =>
  intro r0
  have e : KV (Q8 kvs p.1 p.2) (stored vs q.1 q.2) := by
   have := r0.put p.1 h.2
   rw [← h.1]; exact this
  exact ih e
theorem fQ : ∀ (more kvs : List (K1 × V)),(aF kvs more).length ≤ kvs.length + more.length
 | [],kvs=>by show kvs.length ≤ kvs.length + 0; omega
 | p :: r,kvs=>by
  have h1 := fQ r (Q8 kvs p.1 p.2)
  have h2 := Z4 kvs p.1 p.2
  show (aF (Q8 kvs p.1 p.2) r).length ≤ _
  rw [List.length_cons]; omega
theorem mJ {P : Program} {w : World} : ∀ {kvs : List (K1 × V)} {ws : List (Value × Value)},VV (kvs.map fun kv=>(kV kv.1,kv.2)) ws → ∃ rs,Carries (P8 P w) ws rs ∧ KV kvs rs
 | [],_,r=>by rw [List.map_nil] at r; cases r; exact ⟨[],True.intro,.nil⟩
 | p :: kvs,_,r=>by
  rw [List.map_cons] at r
  cases r with
  | @cons a b as bs h t =>
   obtain ⟨rs,c,q⟩ := mJ (P := P) (w := w) t
   obtain ⟨b1,b2⟩ := b
   exact ⟨(p.1,b2) :: rs,⟨jE h.1,rfl,c⟩,.cons ⟨rfl,h.2⟩ q⟩
def AX7 (trs : List (TE × TE)) : TE := fun σ H Q=>∀ p,H p = none → qB trs σ (B6 H p (.dK [])) fun ps H2=>H2 p = some (.dK []) ∧ ∃ kvs : List (K1 × V),ps = kvs.map (fun kv=>(kV kv.1,kv.2)) ∧ kvs.length ≤ 15 ∧ Q (.ref p) (B6 H2 p (.dK (aF [] kvs)))
theorem AJ3 {X : Cx} {pos : Pos} {keys : List (Option Expr)} {values : List Expr} {trs : List (TE × TE)} (h : PPs X pos keys values trs) (hall : keys.all (·.isSome) = true) (hl : keys.length = values.length) (h0 : keys ≠ [])
  (h15 : keys.length ≤ 15) : PE X (.Dict keys values pos) (AX7 trs) := by
 intro pins s σ H Q I q
 have hn := I.hok.fresh (Nat.le_refl s.heap.objs.size)
 have I1 := I.laid (a := s.heap.objs.size) (o := .dK []) (h' := s.heap.push { cls := .type "dict",data := .dict #[] }) (t' := s.toks) (fun _ _ q=>Heap.get?_push_of_some _ q) (Nat.le_refl _) (rM s.heap I.big)
 refine wpAny_Dict_walk (knd := P8 X.prog X.w) hall hl h0 h15 (D8 (h pins _ σ _ _ I1 (q _ hn)) fun ws s2 ⟨ps,H2,I2,rel,e,kvs,ep,lk,q2⟩=>?_)
 subst ep
 obtain ⟨rs,c,rk⟩ := mJ (P := X.prog) (w := X.w) rel
 obtain ⟨z,hd,vs0,r0,dd⟩ := vO I2.hok e
 cases r0
 refine ⟨rs,c,dd,fun h' dd' hs=>⟨.ref s.heap.objs.size,_,?_,rfl,q2⟩⟩
 have hz : (aF [] kvs).length ≤ sizeLine := by
  have h1 := fQ kvs []
  rw [List.length_nil] at h1
  rw [sizeLine_eq]; omega
 have he : ∃ q,h'.get? s.heap.objs.size = some q := let ⟨q,_,_,hq,_⟩ := dd'; ⟨q,hq⟩
 exact nY I2 (by rw [e]; exact True.intro) hs he (yD hz hd (rk.merge .nil) dd')
section
variable {X : Cx} {pins : List (Addr × Obj)} {σ : St} {H : Hp} {s : Shared} {a : Addr} {y d : V} {u r : Value} {o : Option V} {A : Around} {E : Value → Shared → Prop}
end
section
variable {X : Cx} {o e f : Expr} {apos cpos : Pos} {td ty tx : TE}
end
section
variable {X : Cx} {pins : List (Addr × Obj)} {σ : St} {H : Hp} {s : Shared} {a : Addr} {kvs : List (K1 × V)} {A : Around} {E : Value → Shared → Prop}
end
section
variable {X : Cx} {pins : List (Addr × Obj)} {σ : St} {H : Hp} {s : Shared} {a : Addr} {y : V} {u : Value} {A : Around} {E : Value → Shared → Prop}
end
end L2
namespace L2
open PySem PySem.Spec PyProof.Rows
section
variable {κ : Type} [DecidableEq κ]
end
end L2
namespace L2
open PySem PySem.Spec PyProof.Rows
section
variable {X : Cx}
theorem T6 : Q4 X (compareOp .LtE) (fun x y H Q=>∃ i j,x = .str i ∧ y = .str j ∧ Q (.bl (!decide (j.cps.toList < i.cps.toList))) H) := by
 intro pins s σ H x y v u Q I rx ry h
 obtain ⟨i,j,rfl,rfl,q⟩ := h
 obtain ⟨t,rfl⟩ := rx
 obtain ⟨t',rfl⟩ := ry
 exact PySem.P.le_str ⟨.bl _,H,I,rfl,q⟩
def Its (x : Str) : It := ⟨fun i _=>i < x.cps.size,fun i H v H'=>H' = H ∧ ∃ c,x.cps[i]? = some c ∧ v = .str ⟨#[c]⟩,fun i _=>x.cps.size ≤ i⟩
theorem pX {P : Program} {w : World} {K : PySem.W.Frag} {tg : Expr} (it : Addr) (T : String) (x : Str) (t : Tok) (hT : T = "str_ascii_iterator" ∨ T = "str_iterator") : kN P w K tg (Its x) [it] it (fun i h=>h.IsStrIter it T x t i) where
 mem := by simp
 obj := fun i h st b hb=>by
  have e : b = it := by simpa using hb
  subst e
  obtain ⟨o,e,c,d⟩ := st
  exact ⟨o,e,fun v z=>by rw [d] at z; cases z⟩
 keep := fun i h h' st k=>by
  obtain ⟨o,e,r⟩ := st
  exact ⟨o,k it (by simp) o e,r⟩
 item := by
  intro X hP hw hK hc i pins s σ H E I hf st hg
  subst hP hw hK
  have hg : i < x.cps.size := hg
  obtain ⟨f0,f1,f2,f3,f4,f5⟩ := hf it (by simp)
  rcases hT with rfl | rfl
  ·refine wpAny_pyNext_ascii_item st (c := x.cps[i]) (by simp [hg]) fun h' st' sb=>?_
   have I1 : Inv X pins σ H { s with heap := h',toks := s.toks + 1 } := I.turned (t' := s.toks + 1) (fun b o hb e=>(sb.2 b hb).trans e) f0 f1 f3 f4 f5
   obtain ⟨o,e,c,d⟩ := id st'
   exact ⟨_,rfl,pT (s := { s with heap := h',toks := s.toks + 1 }) e c d (by decide) ⟨.str ⟨#[x.cps[i]]⟩,H,I1,⟨_,rfl⟩,⟨rfl,_,by simp [hg],rfl⟩,st',fun b hb=>(hf b hb).1⟩⟩
  ·refine wpAny_pyNext_wide_item st (c := x.cps[i]) (by simp [hg]) fun h' st' sb=>?_
   have I1 : Inv X pins σ H { s with heap := h',toks := s.toks + 1 } := I.turned (t' := s.toks + 1) (fun b o hb e=>(sb.2 b hb).trans e) f0 f1 f3 f4 f5
   obtain ⟨o,e,c,d⟩ := id st'
   exact ⟨_,rfl,pT (s := { s with heap := h',toks := s.toks + 1 }) e c d (by decide) ⟨.str ⟨#[x.cps[i]]⟩,H,I1,⟨_,rfl⟩,⟨rfl,_,by simp [hg],rfl⟩,st',fun b hb=>(hf b hb).1⟩⟩
 done := by
  intro X hP hw hK hc i pins s σ H E I hf st hg
  subst hP hw hK
  have hg : x.cps.size ≤ i := hg
  obtain ⟨f0,f1,f2,f3,f4,f5⟩ := hf it (by simp)
  rcases hT with rfl | rfl
  ·exact wpAny_pyNext_ascii_end (I.ok.hd hc) st (by simp [hg]) fun h' eb=>⟨rfl,I.turned (t' := s.toks) (fun b o hb e=>eb b o hb e) f0 f1 f3 f4 f5⟩
  ·exact wpAny_pyNext_wide_end (I.ok.hd hc) st (by simp [hg]) fun h' eb=>⟨rfl,I.turned (t' := s.toks) (fun b o hb e=>eb b o hb e) f0 f1 f3 f4 f5⟩
 self := fun A i s Q E st h=>by
  rcases hT with rfl | rfl
  ·exact wpAny_pyIter_striter_ascii st h
  ·exact wpAny_pyIter_striter_wide st h
def BF7 (tl : TE) : TI := fun σ H R=>tl σ H fun v H1=>∃ x,v = .str x ∧ R (Its x) H1
theorem AQ2 {tg l : Expr} {tl : TE} (hl : PE X l tl) : PI X tg l (BF7 tl) := by
 intro pins s σ H R I h
 refine D8 (hl pins s σ H _ I h) fun v s1 ⟨y,H1,I1,r1,q1⟩=>?_
 obtain ⟨x,e,q⟩ := q1
 subst e
 obtain ⟨t,rfl⟩ := r1
 have fp : ∀ (o : Obj) (b : Addr),b ∈ [s1.heap.objs.size] → W0 X pins H1 b := fun o b hb=>by
  have e : b = s1.heap.objs.size := by simpa using hb
  subst e
  exact I1.fpOk (Nat.le_refl _) (I1.hok.fresh (Nat.le_refl _))
 cases ha : x.cps.all (· < 128) with
 | false=>exact wpAny_pyIter_wide ha ⟨s1.heap.objs.size,[s1.heap.objs.size],_,_,H1,rfl,I1.kept (t' := s1.toks) fun b o e=>Heap.get?_push_of_some _ e,pX _ "str_iterator" x t (.inr rfl),⟨_,Heap.get?_push_size _ rfl,rfl,rfl⟩,fp default,q⟩
 | true=>exact wpAny_pyIter_ascii ha ⟨s1.heap.objs.size,[s1.heap.objs.size],_,_,H1,rfl,I1.kept (t' := s1.toks) fun b o e=>Heap.get?_push_of_some _ e,pX _ "str_ascii_iterator" x t (.inl rfl),⟨_,Heap.get?_push_size _ rfl,rfl,rfl⟩,fp default,q⟩
theorem AC5 {fr : List (Option Nat)} {g : TG} {ti : TT} {te : TE} {σ : St} {H1 : Hp} {l : Addr} {Q : VK} {x : Str} (Pv : Nat → List V → Hp → Prop) (h0 : Pv 0 [] (B6 H1 l (.lst [])))
  (hs : ∀ i c ys H,x.cps[i]? = some c → Pv i ys H → X0 fr g ti te σ l (.str ⟨#[c]⟩) ys H (Pv (i + 1))) (hd : ∀ ys H,Pv x.cps.size ys H → Q (.ref l) H) : jM (Its x) fr g ti te σ H1 l Q := by
 refine ⟨fun i m ys H=>m = x.cps.size - i ∧ i ≤ x.cps.size ∧ Pv i ys H,⟨x.cps.size,by simp,Nat.zero_le _,h0⟩,?_⟩
 rintro i m ys H ⟨rfl,hi,p⟩
 by_cases hlt : i < x.cps.size
 ·refine .inr ⟨hlt,Pv (i + 1),fun zs H' p'=>⟨x.cps.size - (i + 1),by omega,rfl,hlt,p'⟩,fun v H' y=>?_⟩
  obtain ⟨e,c,hc,e2⟩ := y
  subst e e2
  exact hs i c ys _ hc p
 ·have e : i = x.cps.size := by omega
  subst e
  exact .inl ⟨Nat.le_refl _,hd ys H p⟩
end
end L2
namespace L2
open PySem PySem.Spec PyProof.Rows
section
variable {X : Cx} {pins : List (Addr × Obj)} {σ : St} {H : Hp} {s : Shared}
theorem Inv.turnedN {h' : Heap} {t' : Nat} {ch : List Addr} {N : Addr} {xs : List V} {us : List Value} (I : Inv X pins σ H s) (hf : ∀ b ∈ ch,W0 X pins H b) (k : ∀ b o,b ∉ ch → s.heap.get? b = some o → h'.get? b = some o)
  (hN : s.heap.objs.size ≤ N) (hz : xs.length ≤ sizeLine) (r : Vals xs us) (hT : IsTup h' N us.toArray) : Inv X pins σ (B6 H N (.tup xs)) { s with heap := h',toks := t' } := by
 have nch : ∀ b u,H b = some u → b ∉ ch := fun b u e z=>by rw [(hf b z).1] at e; cases e
 have fr : H N = none := I.hok.fresh hN
 have ne : ∀ b o,s.heap.get? b = some o → b ≠ N := fun b o e z=>by
  have := Heap.lt_size e
  rw [z] at this
  exact absurd this (Nat.not_lt.mpr hN)
 refine I.step (g' := s.gens) (d' := s.drawn) (ch := ch) (fun b hb=>?_) (fun b o _ _ hc e _=>k b o hc e) (fun b o _ _ hc e _=>⟨o.slots,k b o hc e⟩) (fun b o _ e n=>by rw [B5 (ne b o e)]; exact n)
  (fun b o hc e=>⟨o,k b o hc e⟩) (fun b ys e=>by rw [B5 (C0 e fr)]; exact e) (fun b o u e=>by rw [B5 (C0 e fr)]; exact e) (fun b ps e=>⟨#[],by rw [B5 (C0 e fr),e]; simp⟩) (fun m hm=>?_) (fun b u e=>?_) I.bare
 ·obtain ⟨f0,f1,f2,f3,f4,f5⟩ := hf b hb
  exact ⟨f3,f1,f4,f5⟩
 ·obtain ⟨o,es,ep,ho,rr⟩ := hm
  exact ⟨o,es,ep,k _ o (fun z=>(hf _ z).2.1 rfl) ho,rr⟩
 ·by_cases hb : b = N
  ·subst hb
   rw [B1] at e
   cases e
   exact ⟨hz,us,r,hT⟩
  ·rw [B5 hb] at e
   refine (I.hok b u e).stay (fun c v hc q=>k c v ?_ q) (fun c q=>by rw [B5 (C0 q fr)]; exact q) fun c ys q=>by rw [B5 (C0 q fr)]; exact q
   rcases hc with z | z
   ·rw [z]; exact nch b u e
   ·exact nch c _ z
end
section
variable {X : Cx}
end
end L2
namespace L2
open PySem PySem.Spec PyProof.Rows
def uC (K : PySem.W.Frag) (a : Addr) : It :=
  ⟨fun i H => ∃ xs x, SqL K H a xs ∧ xs[i]? = some x,
   fun i H v H' => ∃ T x, v = .ref T ∧ H T = none ∧ H' = B6 H T (.tup [.int (i : Int), x]) ∧ ∀ xs, SqL K H a xs → xs[i]? = some x,
   fun i H => ∃ xs, SqL K H a xs ∧ xs.length ≤ i⟩
def BG8 (e it a : Addr) (i : Nat) (h : Heap) : Prop := (∃ old,IsEnum h e it (i : Int) old) ∧ h.IsListIter it a i
theorem wB {P : Program} {w : World} {K : PySem.W.Frag} {elts : List Expr} {x1 : Nat} {pos : Pos} (e it a : Addr) (hne : e ≠ it) : kN P w K (.Tuple elts x1 pos) (uC K a) [e,it] e (BG8 e it a) where
 mem := by simp
 obj := fun i h st c hc=>by
  obtain ⟨⟨old,he⟩,⟨o1,e1,_,d1⟩⟩ := st
  simp only [List.mem_cons,List.not_mem_nil,or_false] at hc
  rcases hc with rfl | rfl
  ·exact ⟨_,he,fun v y=>by cases y⟩
  ·exact ⟨o1,e1,fun v y=>by rw [d1] at y; cases y⟩
 keep := fun i h h' st k=>by
  obtain ⟨⟨old,he⟩,h1⟩ := st
  exact ⟨⟨old,k e (by simp) _ he⟩,h1.at fun o q=>k it (by simp) o q⟩
 item := by
  intro X hP hw hK hc i pins s σ H E I hf st hg
  subst hP hw hK
  obtain ⟨xs,x,ha,hx⟩ := hg
  obtain ⟨⟨old,he⟩,h1⟩ := st
  obtain ⟨its1,rv1,p1,z1⟩ := I.list ha
  obtain ⟨u1,xV,ru1⟩ := rv1.get hx
  refine wpAny_pyNext_enum_item he h1 p1.isList (by simpa using xV) hne fun h' a1 a2 a3 a4 a5=>⟨_,rfl,wpAny_letOwnedTupleGo_enum (s := { s with heap := h',toks := s.toks + 1 }) a1 fun h2' b1 sb=>?_⟩
  have hNe : s.heap.objs.size ≠ e := Nat.ne_of_gt (Heap.lt_size he)
  have hNi : s.heap.objs.size ≠ it := by obtain ⟨o1,e1,_⟩ := h1; exact Nat.ne_of_gt (Heap.lt_size e1)
  have kk : ∀ c o,c ∉ [e,it] → s.heap.get? c = some o → h2'.get? c = some o := fun c o hc q=>by
   simp only [List.mem_cons,List.not_mem_nil,or_false,not_or] at hc
   exact sb.extBut c o hc.1 (a5 c o hc.1 hc.2 q)
  refine ⟨.ref s.heap.objs.size,B6 H s.heap.objs.size (.tup [.int (i : Int),x]),(show Inv X pins σ (B6 H s.heap.objs.size (.tup [.int (i : Int),x])) { s with heap := h2',toks := s.toks + 1 } from I.turnedN (t' := s.toks + 1) (ch := [e,it]) (us := [.int (i : Int) s.toks,u1]) hf kk (Nat.le_refl _) (by show 2 ≤ sizeLine; decide) (.cons ⟨_,rfl⟩ (.cons ru1 .nil)) ⟨_,sb.extBut _ _ hNe a3,rfl,_,rfl⟩),rfl,
   ⟨s.heap.objs.size,x,rfl,I.hok.fresh (Nat.le_refl _),rfl,fun xs' hx'=>by rw [I.list_inj hx' ha]; exact hx⟩,⟨⟨_,b1⟩,a2.extBut sb.extBut (Ne.symm hne)⟩,fun c hc=>?_⟩
  have hcN : c ≠ s.heap.objs.size := by
   simp only [List.mem_cons,List.not_mem_nil,or_false] at hc
   rcases hc with rfl | rfl
   ·exact Ne.symm hNe
   ·exact Ne.symm hNi
  rw [B5 hcN]
  exact (hf c hc).1
 done := by
  intro X hP hw hK hc i pins s σ H E I hf st hg
  subst hP hw hK
  obtain ⟨xs,ha,hend⟩ := hg
  obtain ⟨⟨old,he⟩,h1⟩ := st
  obtain ⟨its1,rv1,p1,z1⟩ := I.list ha
  have l1 := rv1.length
  obtain ⟨f0,f1,f2,f3,f4,f5⟩ := hf it (by simp)
  exact wpAny_pyNext_enum_end (I.ok.hd hc) he h1 p1.isList (by simp; omega) fun h' eb=>⟨rfl,I.turned (t' := s.toks) (fun b o hb e=>eb b o hb e) f0 f1 f3 f4 f5⟩
 self := fun _ _ _ _ _ st h=>by
  obtain ⟨⟨old,he⟩,_⟩ := st
  exact wpAny_pyIter_enum he h
theorem AN4 : bootBuiltins "enumerate" = some (.type "enumerate") := by decide +kernel
def AF6 (K : PySem.W.Frag) (ta : TA) : TI := fun σ H R=>ta σ H fun vs H1=>∃ a,vs = [.ref a] ∧ (∃ xs,SqL K H1 a xs) ∧ R (uC K a) H1
section
variable {X : Cx}
theorem tE {elts : List Expr} {x1 : Nat} {tpos : Pos} {a : Expr} {ta : TA} {p pos : Pos} (hg : Gl X "enumerate") (hm : X.mg "enumerate" = none) (ha : PA X [a] ta) (hs : starEach [a] X.env = [(false,eval a X.env)] := by rfl) :
  PI X (.Tuple elts x1 tpos) (.Call (.Name "enumerate" p) [a] [] pos) (AF6 X.K ta) := by
 intro pins s σ H R I h
 refine Call_ (bR I hg hm AN4 (PyProof.Rows.callWith_type1 (D8 (ha pos pins s σ H _ I h) fun us s1 ⟨vs,H1,I1,r1,q1⟩=>?_) hs rfl))
 obtain ⟨a,e,⟨xs,hx⟩,q⟩ := q1
 subst e
 cases r1 with
 | cons r rr =>
  cases rr
  cases r
  obtain ⟨its1,rv1,p1,z1⟩ := I1.list hx
  refine call_enumerate_list p1.isList fun h' he hi hsz hk=>?_
  refine wpAny_pyIter_enum (s := { s1 with heap := h' }) he ⟨s1.heap.objs.size + 1,[s1.heap.objs.size + 1,s1.heap.objs.size],_,_,H1,rfl,I1.kept (t' := s1.toks) hk,wB _ _ a (Nat.ne_of_gt (Nat.lt_succ_self _)),⟨⟨_,he⟩,hi⟩,fun c hc=>?_,q⟩
  have hge : s1.heap.objs.size ≤ c := by
   simp only [List.mem_cons,List.not_mem_nil,or_false] at hc
   rcases hc with h | h
   ·rw [h]; exact Nat.le_add_right _ _
   ·rw [h]; exact Nat.le_refl _
  exact I1.fpOk hge (I1.hok.fresh hge)
end
theorem AC2 {K : PySem.W.Frag} {a : Addr} {xs : List V} {g : TG} {tb : TS} {D : iD} {σ : St} {H : Hp} (Pv : Nat → St → Hp → Prop) (h0 : Pv 0 σ H) (hl : ∀ i σ H,Pv i σ H → SqL K H a xs)
  (hs : ∀ i x σ H T,xs[i]? = some x → Pv i σ H → H T = none → g (.ref T) σ (B6 H T (.tup [.int (i : Int),x])) fun σ2 H2=>tb { D with nx := Pv (i + 1),ct := Pv (i + 1),bk := D.nx } σ2 H2) (hd : ∀ σ H,Pv xs.length σ H → D.nx σ H) :
  ∃ W : Nat → Nat → St → Hp → Prop,(∃ m,W 0 m σ H) ∧ ∀ i m σ H,W i m σ H →
   ((uC K a).stop i H ∧ D.nx σ H) ∨ ((uC K a).go i H ∧ ∃ N : St → Hp → Prop,(∀ σ' H',N σ' H' → ∃ m',m' < m ∧ W (i + 1) m' σ' H') ∧ ∀ x H',(uC K a).yld i H x H' → g x σ H' fun σ2 H2=>tb { D with nx := N,ct := N,bk := D.nx } σ2 H2) := by
 refine ⟨fun i m σ H=>m = xs.length - i ∧ i ≤ xs.length ∧ Pv i σ H,⟨xs.length,by simp,Nat.zero_le _,h0⟩,?_⟩
 rintro i m σ H ⟨rfl,hi,p⟩
 have qa := hl i σ H p
 by_cases hlt : i < xs.length
 ·refine .inr ⟨⟨xs,xs[i],qa,by simp [hlt]⟩,Pv (i + 1),fun σ' H' p'=>⟨xs.length - (i + 1),by omega,rfl,hlt,p'⟩,fun x H' y=>?_⟩
  obtain ⟨T,x',rfl,hT,rfl,hxy⟩ := y
  exact hs i x' σ _ T (hxy xs qa) p hT
 ·have e : i = xs.length := by omega
  subst e
  exact .inl ⟨⟨xs,qa,Nat.le_refl _⟩,hd σ H p⟩
section
variable {X : Cx}
theorem yJ : S9 X (.builtin "isinstance") (fun xs H Q=>∃ a ys T,xs = [.ref a,.ty T] ∧ SqL X.K H a ys ∧ ((T = "list" ∧ Q (.bl true) H) ∨ ((T = "tuple" ∨ T = "str" ∨ T = "int" ∨ T = "bool" ∨ T = "dict") ∧ Q (.bl false) H))) := by
 intro pins s σ H xs us Q I r h
 obtain ⟨a,ys,T,rfl,hq,h⟩ := h
 obtain ⟨u,w,rfl,ru,rw'⟩ := uF r
 cases ru
 cases rw'
 obtain ⟨its,rv,p,hz⟩ := I.list hq
 obtain ⟨o,ho,hc,_⟩ := p.isList
 rcases h with ⟨rfl,q⟩ | ⟨h,q⟩
 ·exact IsiPair.list_list ho hc ⟨.bl true,H,I,rfl,q⟩
 ·have fin : ∀ t,EP X pins σ Q (.bool false) { s with toks := t } := fun t=>⟨.bl false,H,I.tok t,rfl,q⟩
  rcases h with rfl | rfl | rfl | rfl | rfl
  ·exact IsiPair.list_tuple ho hc (fin _)
  ·exact IsiPair.list_str ho hc (fin _)
  ·exact IsiPair.list_int ho hc (fin _)
  ·exact IsiPair.list_bool ho hc (fin _)
  ·exact IsiPair.list_dict ho hc (fin _)
end
end L2
namespace L2
open PySem PySem.Spec PyProof.Rows
inductive D where
 | non
 | bl (b : Bool)
 | int (i : Int)
 | str (s : Str)
 | tup (ds : List D)
 | lst
 | dic
mutual
def DV (K : PySem.W.Frag) (H : Hp) : D → V → Prop
 | .non,v=>v = .non
 | .bl b,v=>v = .bl b
 | .int i,v=>v = .int i
 | .str x,v=>v = .str x ∧ x.length ≤ 1000
 | .tup ds,v=>∃ a ys,v = .ref a ∧ SqT K H a ys ∧ DAll K H ds ys ∧ ds.length ≤ 100
 | .lst,v=>∃ a ys,v = .ref a ∧ H a = some (.lst ys)
 | .dic,v=>∃ a,v = .ref a ∧ H a = some (.dK [])
def DAll (K : PySem.W.Frag) (H : Hp) : List D → List V → Prop
 | [],ys=>ys = []
 | d :: ds,ys=>∃ y r,ys = y :: r ∧ DV K H d y ∧ DAll K H ds r
end
structure DKeep (K : PySem.W.Frag) (H H' : Hp) : Prop where
 tup : ∀ a ys,SqT K H a ys → SqT K H' a ys
 lst : ∀ a ys,H a = some (.lst ys) → ∃ zs,H' a = some (.lst zs)
 dic : ∀ a,H a = some (.dK []) → H' a = some (.dK [])
section
variable {K : PySem.W.Frag} {H H' : Hp}
theorem DKeep.same (g : Same H H') : DKeep K H H' := ⟨fun _ _ h=>g.seqT h,fun _ _ h=>⟨_,g _ _ h⟩,fun _ h=>g _ _ h⟩
mutual
theorem DV.mono (k : DKeep K H H') : ∀ (d : D) (v : V),DV K H d v → DV K H' d v
 | .non,v,h=>by simp only [DV] at h ⊢; exact h
 | .bl b,v,h=>by simp only [DV] at h ⊢; exact h
 | .int i,v,h=>by simp only [DV] at h ⊢; exact h
 | .str x,v,h=>by simp only [DV] at h ⊢; exact h
 | .tup ds,v,h=>by
  simp only [DV] at h ⊢
  obtain ⟨a,ys,e,hq,hd,hl⟩ := h
  exact ⟨a,ys,e,k.tup a ys hq,DAll.mono k ds ys hd,hl⟩
 | .lst,v,h=>by
  simp only [DV] at h ⊢
  obtain ⟨a,ys,e,hq⟩ := h
  obtain ⟨zs,hz⟩ := k.lst a ys hq
  exact ⟨a,zs,e,hz⟩
 | .dic,v,h=>by
  simp only [DV] at h ⊢
  obtain ⟨a,e,hq⟩ := h
  exact ⟨a,e,k.dic a hq⟩
theorem DAll.mono (k : DKeep K H H') : ∀ (ds : List D) (vs : List V),DAll K H ds vs → DAll K H' ds vs
 | [],vs,h=>by simp only [DAll] at h ⊢; exact h
 | d :: ds,vs,h=>by
  simp only [DAll] at h ⊢
  obtain ⟨y,r,e,h1,h2⟩ := h
  exact ⟨y,r,e,DV.mono k d y h1,DAll.mono k ds r h2⟩
end
theorem DAll.length : ∀ {ds : List D} {vs : List V},DAll K H ds vs → vs.length = ds.length
 | [],vs,h=>by simp only [DAll] at h; subst h; rfl
 | d :: ds,vs,h=>by
  simp only [DAll] at h
  obtain ⟨y,r,e,_,h2⟩ := h
  subst e
  rw [List.length_cons,List.length_cons,DAll.length h2]
theorem DAll.get : ∀ {ds : List D} {vs : List V} {i : Nat} {v : V},DAll K H ds vs → vs[i]? = some v → ∃ d,ds[i]? = some d ∧ DV K H d v
 | [],vs,i,v,h,e=>by simp only [DAll] at h; subst h; simp at e
 | d :: ds,vs,i,v,h,e=>by
  simp only [DAll] at h
  obtain ⟨y,r,e1,h1,h2⟩ := h
  subst e1
  cases i with
  | zero=>simp at e; subst e; exact ⟨d,rfl,h1⟩
  | succ i =>
   obtain ⟨d',h3,h4⟩ := DAll.get (i := i) h2 (by simpa using e)
   exact ⟨d',by simpa using h3,h4⟩
theorem DAll.append : ∀ {ds es : List D} {vs us : List V},DAll K H ds vs → DAll K H es us → DAll K H (ds ++ es) (vs ++ us)
 | [],es,vs,us,h,h'=>by simp only [DAll] at h; subst h; exact h'
 | d :: ds,es,vs,us,h,h'=>by
  simp only [DAll] at h
  obtain ⟨y,r,e,h1,h2⟩ := h
  subst e
  simp only [List.cons_append,DAll]
  exact ⟨y,r ++ us,rfl,h1,DAll.append h2 h'⟩
end
def gZ : D → String → Bool
 | .tup _,T=>T == "tuple"
 | .str _,T=>T == "str"
 | .int _,T=>T == "int"
 | .bl _,T=>T == "bool" || T == "int"
 | _,_=>false
section
variable {X : Cx}
theorem yK : S9 X (.builtin "isinstance") (fun xs H Q=>∃ (v : V) (d : D) (T : String),xs = [v,.ty T] ∧ DV X.K H d v ∧ (T = "tuple" ∨ T = "str" ∨ T = "int" ∨ T = "bool") ∧ Q (.bl (gZ d T)) H) := by
 intro pins s σ H xs us Q I r h
 obtain ⟨v,d,T,rfl,hd,hT,q⟩ := h
 obtain ⟨u,w,rfl,ru,rw'⟩ := uF r
 cases rw'
 have fin : ∀ t b,gZ d T = b → EP X pins σ Q (.bool b) { s with toks := t } := fun t b e=>⟨.bl b,H,I.tok t,rfl,e ▸ q⟩
 have fin0 : ∀ b,gZ d T = b → EP X pins σ Q (.bool b) s := fun b e=>⟨.bl b,H,I,rfl,e ▸ q⟩
 cases d with
 | non =>
  simp only [DV] at hd
  subst hd
  cases ru
  rcases hT with rfl | rfl | rfl | rfl
  ·exact IsiPair.NoneType_tuple (fin _ _ rfl)
  ·exact IsiPair.NoneType_str (fin _ _ rfl)
  ·exact IsiPair.NoneType_int (fin _ _ rfl)
  ·exact IsiPair.NoneType_bool (fin _ _ rfl)
 | bl b =>
  simp only [DV] at hd
  subst hd
  cases ru
  rcases hT with rfl | rfl | rfl | rfl
  ·exact IsiPair.bool_tuple (fin _ _ rfl)
  ·exact IsiPair.bool_str (fin _ _ rfl)
  ·exact IsiPair.bool_int (fin0 _ rfl)
  ·exact IsiPair.bool_bool (fin0 _ rfl)
 | int i =>
  simp only [DV] at hd
  subst hd
  obtain ⟨t,rfl⟩ := ru
  rcases hT with rfl | rfl | rfl | rfl
  ·exact IsiPair.int_tuple (fin _ _ rfl)
  ·exact IsiPair.int_str (fin _ _ rfl)
  ·exact IsiPair.int_int (fin0 _ rfl)
  ·exact IsiPair.int_bool (fin _ _ rfl)
 | str x =>
  simp only [DV] at hd
  obtain ⟨rfl,_⟩ := hd
  obtain ⟨t,rfl⟩ := ru
  rcases hT with rfl | rfl | rfl | rfl
  ·exact IsiPair.str_tuple (fin _ _ rfl)
  ·exact IsiPair.str_str (fin0 _ rfl)
  ·exact IsiPair.str_int (fin _ _ rfl)
  ·exact IsiPair.str_bool (fin _ _ rfl)
 | tup ds =>
  simp only [DV] at hd
  obtain ⟨a,ys,rfl,hq,_⟩ := hd
  cases ru
  obtain ⟨its,rv,⟨o,ho,hc,_⟩,hz⟩ := I.tuple hq
  rcases hT with rfl | rfl | rfl | rfl
  ·exact IsiPair.tuple_tuple ho hc (fin0 _ rfl)
  ·exact IsiPair.tuple_str ho hc (fin _ _ rfl)
  ·exact IsiPair.tuple_int ho hc (fin _ _ rfl)
  ·exact IsiPair.tuple_bool ho hc (fin _ _ rfl)
 | lst =>
  simp only [DV] at hd
  obtain ⟨a,ys,rfl,hq⟩ := hd
  cases ru
  obtain ⟨its,rv,p,hz⟩ := I.list (SqL.of hq)
  obtain ⟨o,ho,hc,_⟩ := p.isList
  rcases hT with rfl | rfl | rfl | rfl
  ·exact IsiPair.list_tuple ho hc (fin _ _ rfl)
  ·exact IsiPair.list_str ho hc (fin _ _ rfl)
  ·exact IsiPair.list_int ho hc (fin _ _ rfl)
  ·exact IsiPair.list_bool ho hc (fin _ _ rfl)
 | dic =>
  simp only [DV] at hd
  obtain ⟨a,rfl,hq⟩ := hd
  cases ru
  obtain ⟨_,_,vs,_,hm⟩ := vO I.hok hq
  obtain ⟨o,ho,hc⟩ := hm.typeIs (s := s)
  rcases hT with rfl | rfl | rfl | rfl
  ·exact IsiPair.dict_tuple ho hc (fin _ _ rfl)
  ·exact IsiPair.dict_str ho hc (fin _ _ rfl)
  ·exact IsiPair.dict_int ho hc (fin _ _ rfl)
  ·exact IsiPair.dict_bool ho hc (fin _ _ rfl)
end
section
variable {X : Cx}
theorem zK {H : Hp} {p : Addr} (h : H p = none) (o : HO) : Same H (B6 H p o) := fun b u q=>by rw [B5 (C0 q h)]; exact q
end
end L2
namespace L2
open PySem PySem.Spec PyProof.Rows
section
variable {prog : Program} {w : World} {A : Around} {E : Value → Shared → Prop} {s : Shared}
theorem vW {t sl : Addr} {items : Array Value} {vl vu : Value} {lo hi : Option Int} {Q : Value → Shared → Prop} (ht : IsTup s.heap t items) (hs : s.heap.IsSliceOf sl vl vu .none) (pl : IsPart vl lo) (pu : IsPart vu hi)
  (hw : HT.sIx items.size 0 lo = 0 ∧ HT.sIx items.size items.size hi = items.size) (h : Q (.ref t) s) : wpAny (model prog w) A (getItem (.ref t) (.ref sl)) Q E s := by
 obtain ⟨os,hos,hcs,hds⟩ := id hs
 have hTs : s.TypeIs (.ref sl) "slice" := ⟨os,hos,hcs⟩
 unfold getItem
 try with_reducible refine wpAny_holding ?_
 first | refine wpAny_bind (wpAny_pure ?_) | skip
 refine wpAny_bind (wpAny_sequenceKey ht.typeIs (by decide) ?_)
 refine wpAny_bind (wpAny_callSpecial?_slot (name := Str.ofString "__getitem__") ht.typeIs PyProof.Rows.slot_tuple_getitem
  (wpAny_call_entry PyProof.Rows.slot_tuple_getitem ht.typeIs entry_tuple_getitem ?_ (args_tuple_getitem _ _)))
 show wpAny _ _ (Builtin.Tuple.tupleItemsOf (.ref t) >>= _) _ _ s
 refine wpAny_bind (tupleItemsOf_ ht ?_)
 refine wpAny_bind (wpAny_typeOf hTs ?_)
 rw [if_pos (by decide)]
 refine wpAny_bind (HT.sliceApplied_gen hs pl pu ?_)
 have hyes : (((HT.sIx items.size 0 lo : Nat) : Int) == 0 && (1 : Int) == 1 && (HT.sIx items.size items.size hi - HT.sIx items.size 0 lo) == items.size) = true := by
  rw [hw.1,hw.2]
  simp
 show wpAny _ _ (if (((HT.sIx items.size 0 lo : Nat) : Int) == 0 && (1 : Int) == 1 && (HT.sIx items.size items.size hi - HT.sIx items.size 0 lo) == items.size) = true then _ else _) _ _ s
 rw [if_pos hyes]
 refine wpAny_bind ?_
 unfold Builtin.Tuple.tupleIsExact
 refine wpAny_bind (wpAny_typeOf ht.typeIs (wpAny_pure ?_))
 rw [if_pos (by decide)]
 refine wpAny_bind (wpAny_rule ?_)
 exact wpAny_pure ⟨_,rfl,wpAny_pure h⟩
end
section
variable {X : Cx}
def BD4 (K : PySem.W.Frag) : V → Option Int → Option Int → Hp → VK → Prop := fun x lo hi H Q=>∃ a xs,x = .ref a ∧ SqT K H a xs ∧ (HT.sIx xs.length 0 lo = 0 ∧ HT.sIx xs.length xs.length hi = xs.length) ∧ Q (.ref a) H
theorem AH4 : uB X (BD4 X.K) := by
 intro pins s σ H x v vl vu lo hi sl Q I rx hs pl pu h
 obtain ⟨a,xs,rfl,hx,hw,q⟩ := h
 cases rx
 obtain ⟨its,r,ht,hz⟩ := I.tuple hx
 have hlen : its.toArray.size = xs.length := by rw [List.size_toArray]; exact r.length.symm
 refine ⟨"tuple",_,PyProof.Rows.slot_tuple_getitem.lookup,ht.typeIs,?_⟩
 exact vW ht hs pl pu (by rw [hlen]; exact hw) ⟨.ref a,H,I,rfl,q⟩
end
end L2
namespace L2
open PySem PySem.Spec PyProof.Rows
section
variable {K : PySem.W.Frag} {a : Addr} {xs : List V} {fr : List (Option Nat)} {g : TG} {ti : TT} {te : TE} {σ : St} {H1 : Hp} {l : Addr} {Q : VK}
theorem AN5 {bs : List Bool} {i : Nat} {b : Bool} (h : bs[i]? = some b) : List.map V.bl (bs.take i) ++ [V.bl b] = List.map V.bl (bs.take (i + 1)) := by
 rw [List.take_add_one,h,List.map_append]; rfl
theorem AO6 {n : Nat} (h : n ≤ 1000) : n < sizeLine := oJ h
def AW8 (l : Addr) (ys : List V) (H : Hp) (b : Bool) (N : List V → Hp → Prop) : Prop := ∀ H5,Same H H5 → H5 l = some (.lst ys) ∧ ys.length < sizeLine ∧ N (ys ++ [V.bl b]) (B6 H5 l (.lst (ys ++ [V.bl b])))
theorem yP {bs : List Bool} (hl1 : H1 l = none) (hb : bs.length ≤ 1000) {i : Nat} {b : Bool} {ys : List V} {H : Hp} (eb : bs[i]? = some b) (hP : Same H1 H ∧ H l = some (.lst ys) ∧ ys = List.map V.bl (bs.take i)) :
  AW8 l ys H b (fun zs H'=>Same H1 H' ∧ H' l = some (.lst zs) ∧ zs = List.map V.bl (bs.take (i + 1))) := by
 obtain ⟨g,hl,rfl⟩ := hP
 refine fun H5 s5=>⟨s5 _ _ hl,?_,fun z o ho=>?_,B1,AN5 eb⟩
 ·rw [List.length_map,List.length_take]
  exact AO6 (by omega)
 ·rw [B5 (C0 ho hl1)]
  exact s5 _ _ (g _ _ ho)
theorem sO (hl1 : H1 l = none) {bs : List Bool} : Same H1 (B6 H1 l (.lst [])) ∧ B6 H1 l (.lst []) l = some (.lst []) ∧ ([] : List V) = List.map V.bl (bs.take 0) :=
 ⟨fun z o ho=>by rw [B5 (C0 ho hl1)]; exact ho,B1,rfl⟩
theorem cZ (bs : List Bool) (hl1 : H1 l = none) (hx : SqL K H1 a xs) (hn : xs.length = bs.length) (hb : bs.length ≤ 1000)
  (hs : ∀ (i : Nat) x b ys H N,xs[i]? = some x → bs[i]? = some b → Same H1 H → AW8 l ys H b N → X0 fr g ti te σ l x ys H N)
  (hd : ∀ H,Same H1 H → SqL K H l (List.map V.bl bs) → Q (.ref l) H) : jM (sB K a) fr g ti te σ H1 l Q := by
 refine hV (xs := xs) (fun i ys H=>Same H1 H ∧ H l = some (.lst ys) ∧ ys = List.map V.bl (bs.take i)) (sO hl1) (fun i ys H _ h=>h.1.seq hx) (fun i x ys H hxi hP=>?_) (fun ys H hP=>?_)
 ·obtain ⟨hi,_⟩ := List.getElem?_eq_some_iff.mp hxi
  have eb : bs[i]? = some bs[i] := List.getElem?_eq_getElem (by omega)
  exact hs i x _ ys H _ hxi eb hP.1 (yP hl1 hb eb hP)
 ·obtain ⟨g,hl,rfl⟩ := hP
  rw [hn,List.take_length] at hl
  exact hd H g (SqL.of hl)
end
end L2
namespace L2
open PySem PySem.Spec PyProof.Rows
section
variable {X : Cx}
def BD7 (K : PySem.W.Frag) : V → Option Int → Option Int → Hp → VK → Prop := fun x lo hi H Q=>∃ a xs,x = .ref a ∧ SqT K H a xs ∧ ∀ p H',Same H H' → SqT K H' p (Y3 xs lo hi) → Q (.ref p) H'
theorem AH5 : uB X (BD7 X.K) := by
 intro pins s σ H x v vl vu lo hi sl Q I rx hs pl pu h
 obtain ⟨a,xs,rfl,hx,q⟩ := h
 by_cases hw : HT.sIx xs.length 0 lo = 0 ∧ HT.sIx xs.length xs.length hi = xs.length
 ·refine AH4 pins s σ H _ v vl vu _ _ sl Q I rx hs pl pu ⟨a,xs,rfl,hx,hw,q a H (fun _ _ h=>h) ?_⟩
  have : Y3 xs lo hi = xs := by unfold Y3; rw [hw.1,hw.2]; simp
  rw [this]; exact hx
 ·exact AO8 pins s σ H _ v vl vu _ _ sl Q I rx hs pl pu ⟨a,xs,rfl,hx,hw,fun p hp=>q p _ (zK hp _) (SqT.of B1)⟩
theorem AU5 {α : Type} (f : α → V) (us : List α) (n : Nat) : Y3 (us.map f) none (some (n : Int)) = (us.take n).map f := by
 unfold Y3
 rw [HT.sIx_nat,HT.sIx_none]
 simp only [List.length_map,List.drop_zero,Nat.sub_zero]
 rw [← List.map_take]
 congr 1
 rcases Nat.le_total n us.length with h | h
 ·rw [Nat.min_eq_left h]
 ·rw [Nat.min_eq_right h,List.take_length,List.take_of_length_le h]
theorem sL {α : Type} (f : α → V) (us : List α) (m n : Nat) : Y3 (us.map f) (some (m : Int)) (some (n : Int)) = ((us.drop m).take (n - m)).map f := by
 unfold Y3
 rw [HT.sIx_nat,HT.sIx_nat]
 simp only [List.length_map]
 rw [← List.map_drop,← List.map_take]
 congr 1
 rcases Nat.le_total m us.length with h | h
 ·rw [Nat.min_eq_left h]
  rcases Nat.le_total n us.length with h' | h'
  ·rw [Nat.min_eq_left h']
  ·rw [Nat.min_eq_right h']
   rw [List.take_of_length_le (by simp),List.take_of_length_le (by simp; omega)]
 ·rw [Nat.min_eq_right h]
  simp [List.drop_of_length_le h]
def BE1 (K : PySem.W.Frag) : R2 := fun x y H Q=>∃ (a b : Addr) (ws us : List Str),x = .ref a ∧ y = .ref b ∧ SqT K H a (ws.map V.str) ∧ SqT K H b (us.map V.str) ∧ Q (.bl (decide (ws = us))) H
theorem Vals.strs {ws : List Str} : ∀ {its : List Value},Vals (ws.map V.str) its → its.length = ws.length ∧ ∀ (j : Nat) (h : j < its.length),∃ t u,its[j] = .str t u ∧ ws[j]? = some t := by
 induction ws with
 | nil=>intro its h; cases h; exact ⟨rfl,fun j h=>by simp at h⟩
 | cons w ws ih =>
  intro its h
  cases h with
  | cons c r =>
   obtain ⟨t,rfl⟩ := c
   obtain ⟨h1,h2⟩ := ih r
   refine ⟨by simp [h1],fun j hj=>?_⟩
   cases j with
   | zero=>exact ⟨w,t,rfl,rfl⟩
   | succ j =>
    obtain ⟨t',u',e1,e2⟩ := h2 j (by simpa using hj)
    exact ⟨t',u',by simpa using e1,by simpa using e2⟩
theorem AN1 : ∀ (ws us : List Str),((List.range (min ws.length us.length)).all (fun j=>ws[j]? == us[j]?) && ws.length == us.length) = decide (ws = us) := by
 intro ws us
 rw [Bool.eq_iff_iff,Bool.and_eq_true,List.all_eq_true,beq_iff_eq,decide_eq_true_iff]
 constructor
 ·rintro ⟨h,hl⟩
  apply List.ext_getElem?
  intro j
  by_cases hj : j < ws.length
  ·have := h j (by rw [List.mem_range]; omega)
   exact eq_of_beq this
  ·rw [List.getElem?_eq_none (by omega),List.getElem?_eq_none (by omega)]
 ·rintro rfl
  exact ⟨fun j _=>by simp,rfl⟩
theorem AQ8 (hu : X.A.units + 64 < cLine) : Q4 X (compareOp .Eq) (BE1 X.K) := by
 intro pins s σ H x y v u Q I rx ry h
 obtain ⟨a,b,ws,us,rfl,rfl,h1,h2,q⟩ := h
 cases rx
 cases ry
 obtain ⟨its,rv,ht,_⟩ := I.tuple h1
 obtain ⟨its2,rv2,ht2,_⟩ := I.tuple h2
 obtain ⟨l1,g1⟩ := rv.strs
 obtain ⟨l2,g2⟩ := rv2.strs
 refine PySem.SeqAt.eq_tupleAt (e := fun j=>ws[j]? == us[j]?) ht ht2 (by omega) (fun j h1 h2=>?_) ⟨.bl _,H,I,rfl,?_⟩
 ·obtain ⟨t,u,e1,w1⟩ := g1 j (by simpa using h1)
  obtain ⟨t2,u2,e2,w2⟩ := g2 j (by simpa using h2)
  have e : (ws[j]? == us[j]?) = (t == t2) := by rw [w1,w2,Bool.eq_iff_iff]; simp
  show PySem.SeqAt.EqAt _ _ its.toArray[j] its2.toArray[j] (ws[j]? == us[j]?)
  rw [e,List.getElem_toArray,List.getElem_toArray,e1,e2]
  exact PySem.SeqAt.EqAt.str_str t u t2 u2
 ·have e : ((List.range (min its.toArray.size its2.toArray.size)).all (fun j=>ws[j]? == us[j]?) && its.toArray.size == its2.toArray.size) = decide (ws = us) := by
   rw [List.size_toArray,List.size_toArray,l1,l2]; exact AN1 ws us
  rw [e]
  exact q
end
end L2
namespace L2
open PySem PySem.Spec PyProof.Rows
section
variable {X : Cx}
theorem lR (l b : Addr) (its its2 : Array Value) (n n2 : Nat) (dd2 : Option Addr) (sl2 : Array (Option Value)) (h0 : ¬ (!its.isEmpty && Builtin.List.listTooLong (its.size + its2.size)) = true) (h1 : its.size ≤ sizeLine) (h2 : its.size + its2.size ≤ sizeLine + 1) :
  Meets (Builtin.«list.extend» ⟨[.ref l,.ref b],[]⟩) (fun _ R s=>s.heap.get? l = some { cls := .type "list",dict := none,data := .seq its n,slots := #[] } ∧ s.heap.get? b = some { cls := .type "tuple",dict := dd2,data := .seq its2 n2,slots := sl2 }
   ∧ R (.ok (.ret Value.none)) { s with heap := s.heap.update l (Obj.mapSeq fun x=>x ++ its2),toks := s.toks }) := by
 refine .of_wp fun prog w A R s h=>?_
 obtain ⟨hp,g,d,tk,os⟩ := s
 obtain ⟨hl,hb,h⟩ := h
 have f1 := AutoSeq1.idx_int
 have f2 := AutoSeq1.sub_tuple_tuple
 have f3 := AutoSeq1.sub_list_list
 have f4 := AutoSeq1.sub_tuple_list
 have f5 := AutoSeq1.sub_list_tuple
 have hz : (its ++ its2).size ≤ sizeLine + 1 := by rw [Array.size_append]; exact h2
 wp_walk using (wpAny_updateSeq hl rfl (hz := h1) (_hz' := hz)),wpAny_loadPart' hl,wpAny_loadPart' hb
 exact ⟨_,rfl,h⟩
def AY5 (K : PySem.W.Frag) : V → List V → Hp → VK → Prop := fun x vs H Q=>∃ l b xs zs,x = .ref l ∧ vs = [.ref b] ∧ H l = some (.lst xs) ∧ SqT K H b zs ∧ xs.length + zs.length ≤ sizeLine ∧ Q .non (B6 H l (.lst (xs ++ zs)))
theorem AM3 : MtM X "list.extend" (AY5 X.K) := by
 intro pins s σ H x vs v us Q I rx rv h
 obtain ⟨l,b,xs,zs,rfl,rfl,hH,hB,hz,q⟩ := h
 cases rx
 obtain ⟨u,rfl,ru⟩ := rv.one
 cases ru
 obtain ⟨z,its,n,r,hl,e⟩ := I.lstM hH
 obtain ⟨its2,r2,pt,_⟩ := I.tuple hB
 obtain ⟨⟨cls2,dd2,data2,sl2⟩,ho2,hc2,n2,hd2⟩ := id pt
 simp only at hc2 hd2
 subst hc2 hd2
 have hl2 := r2.length
 have hsz : its.toArray.size + its2.toArray.size ≤ sizeLine := by rw [List.size_toArray,List.size_toArray]; omega
 have hlong : ¬ (!its.toArray.isEmpty && Builtin.List.listTooLong (its.toArray.size + its2.toArray.size)) = true := by
  rw [qW hsz,Bool.and_false]
  exact Bool.false_ne_true
 refine call_meets F.slot_list_extend ⟨_,e,rfl⟩ F.entry_list_extend (F.args_list_extend_2 _ _)
  (lR l b its.toArray its2.toArray n n2 dd2 sl2 hlong (by rw [List.size_toArray]; omega) (by omega)) ⟨e,ho2,?_⟩
 refine ⟨.non,_,I.lset (its' := its ++ its2) hH e (by simp) (r.append r2) ?_,rfl,q⟩
 rw [List.length_append]
 omega
end
end L2
namespace L2
open PySem PySem.Spec PyProof.Rows
section
variable {prog : Program} {w : World} {A : Around} {E : Value → Shared → Prop} {s : Shared}
end
theorem bK {α β : Type} {F : α → β → Prop} : ∀ {xs : List α} {ys : List β} {i : Nat} {x : α},Paired F xs ys → xs[i]? = some x → ∃ y,ys[i]? = some y ∧ F x y
 | _,_,_,_,.nil,e=>by simp at e
 | _,_,0,_,.cons r _,e=>by simp at e; subst e; exact ⟨_,rfl,r⟩
 | _,_,i + 1,x,.cons _ t,e=>by
  obtain ⟨u,h1,h2⟩ := bK (i := i) (x := x) t (by simpa using e)
  exact ⟨u,by simpa using h1,h2⟩
section
variable {X : Cx} {pins : List (Addr × Obj)} {σ : St}
end
end L2
namespace L2
open PySem PySem.Spec PyProof.Rows
def bB : Obj := { cls := .type "cell",data := .cell none }
def M1 : List (Str × NameKind) → Addr → List (Str × Addr) → List (Str × Addr)
 | [],_,cs=>cs
 | (n,k) :: r,a,cs=>if (k == NameKind.cell) = true then M1 r (a + 1) ((n,a) :: cs) else M1 r a cs
def cI : List (Str × NameKind) → Heap → Heap
 | [],h=>h
 | (_,k) :: r,h=>if (k == NameKind.cell) = true then cI r (h.push bB) else cI r h
theorem X8 {b : Addr} {o : Obj} : ∀ (names : List (Str × NameKind)) (h : Heap),h.get? b = some o → (cI names h).get? b = some o
 | [],h,e=>e
 | (n,k) :: r,h,e=>by
  unfold cI
  split
  ·exact X8 r _ (Heap.get?_push_of_some _ e)
  ·exact X8 r _ e
theorem kF {p : Str × Addr} : ∀ {names : List (Str × NameKind)} {h : Heap} {cs : List (Str × Addr)},p ∈ M1 names h.objs.size cs → p ∈ cs ∨ (cI names h).IsCell p.2 none
 | [],h,cs,e=>.inl e
 | (n,k) :: r,h,cs,e=>by
  unfold M1 at e
  unfold cI
  by_cases c : (k == NameKind.cell) = true
  ·rw [if_pos c] at e ⊢
   have hz : h.objs.size + 1 = (h.push bB).objs.size := (Heap.size_push ..).symm
   rw [hz] at e
   rcases kF (h := h.push bB) e with z | z
   ·rcases List.mem_cons.mp z with z | z
    ·rw [z]
     exact .inr ⟨bB,X8 r _ (Heap.get?_push_size _ rfl),rfl⟩
    ·exact .inl z
   ·exact .inr z
  ·rw [if_neg c] at e ⊢
   exact kF e
theorem cJ {x : Str} {c : Addr} : ∀ {names : List (Str × NameKind)} {a : Addr} {cs : List (Str × Addr)},(M1 names (a + 1) cs).lookup x = some c → cs.lookup x = some c ∨ a < c
 | [],a,cs,e=>.inl e
 | (n,k) :: r,a,cs,e=>by
  unfold M1 at e
  by_cases q : (k == NameKind.cell) = true
  ·rw [if_pos q] at e
   rcases cJ e with z | z
   ·rw [List.lookup_cons] at z
    cases hx : x == n with
    | true=>rw [hx] at z; cases z; exact .inr (Nat.lt_succ_self _)
    | false=>rw [hx] at z; exact .inl z
   ·exact .inr (Nat.lt_trans (Nat.lt_succ_self _) z)
  ·rw [if_neg q] at e
   exact cJ e
theorem cK {x : Str} : ∀ (names : List (Str × NameKind)) (a : Addr) (cs : List (Str × Addr)),(∃ c,cs.lookup x = some c) → ∃ c,(M1 names a cs).lookup x = some c
 | [],a,cs,h=>h
 | (n,k) :: r,a,cs,⟨c,h⟩=>by
  unfold M1
  split
  ·refine cK r _ _ ?_
   rw [List.lookup_cons]
   cases hx : x == n with
   | true=>exact ⟨_,rfl⟩
   | false=>exact ⟨c,h⟩
  ·exact cK r _ _ ⟨c,h⟩
theorem kH {x : Str} : ∀ (names : List (Str × NameKind)) (a : Addr) (cs : List (Str × Addr)),names.lookup x = some .cell → ∃ c,(M1 names a cs).lookup x = some c
 | [],a,cs,h=>by simp at h
 | (n,k) :: r,a,cs,h=>by
  rw [List.lookup_cons] at h
  unfold M1
  cases hx : x == n with
  | true =>
   rw [hx] at h
   cases h
   rw [if_pos (by rfl)]
   exact cK r _ _ ⟨a,by rw [List.lookup_cons,hx]⟩
  | false =>
   rw [hx] at h
   split
   ·exact kH r _ _ h
   ·exact kH r _ _ h
theorem kE {x : Str} : ∀ {names : List (Str × NameKind)} {a : Addr} {cs : List (Str × Addr)},(∀ p ∈ names,p.2 = .cell → x ≠ p.1) → (M1 names a cs).lookup x = cs.lookup x
 | [],a,cs,_=>rfl
 | (n,k) :: r,a,cs,h=>by
  have hr : ∀ p ∈ r,p.2 = .cell → x ≠ p.1 := fun p hp=>h p (List.mem_cons_of_mem _ hp)
  unfold M1
  by_cases q : (k == NameKind.cell) = true
  ·rw [if_pos q,kE hr,List.lookup_cons]
   have := h (n,k) List.mem_cons_self (by simpa using q)
   have hx : (x == n) = false := beq_eq_false_iff_ne.mpr this
   rw [hx]
  ·rw [if_neg q]; exact kE hr
theorem kG {x : Str} {a0 c : Addr} : ∀ {names : List (Str × NameKind)} {a : Addr} {cs : List (Str × Addr)},(∀ c,cs.lookup x = some c → a0 ≤ c) → a0 ≤ a → (M1 names a cs).lookup x = some c → a0 ≤ c
 | [],a,cs,h,_,e=>h c e
 | (n,k) :: r,a,cs,h,ha,e=>by
  unfold M1 at e
  by_cases q : (k == NameKind.cell) = true
  ·rw [if_pos q] at e
   refine kG (fun c' e'=>?_) (Nat.le_succ_of_le ha) e
   rw [List.lookup_cons] at e'
   cases hx : x == n with
   | true=>rw [hx] at e'; cases e'; exact ha
   | false=>rw [hx] at e'; exact h c' e'
  ·rw [if_neg q] at e
   exact kG h ha e
theorem kI {x : Str} {c : Addr} : ∀ {names : List (Str × NameKind)} {a : Addr} {cs : List (Str × Addr)},names.lookup x = some .cell → (M1 names a cs).lookup x = some c → a ≤ c
 | [],a,cs,h,_=>by simp at h
 | (n,k) :: r,a,cs,h,e=>by
  rw [List.lookup_cons] at h
  unfold M1 at e
  cases hx : x == n with
  | true =>
   rw [hx] at h
   cases h
   rw [if_pos (by rfl)] at e
   refine kG (fun c' e'=>?_) (Nat.le_succ _) e
   rw [List.lookup_cons,hx] at e'
   cases e'
   exact Nat.le_refl _
  | false =>
   rw [hx] at h
   by_cases q : (k == NameKind.cell) = true
   ·rw [if_pos q] at e
    exact Nat.le_of_succ_le (kI h e)
   ·rw [if_neg q] at e
    exact kI h e
theorem gJ : ∀ {names : List (Str × NameKind)} {a : Addr} {cs : List (Str × Addr)},(∀ p ∈ cs,p.2 < a) → (∀ p ∈ cs,∀ q ∈ cs,p.2 = q.2 → p.1 = q.1) → ∀ p ∈ M1 names a cs,∀ q ∈ M1 names a cs,p.2 = q.2 → p.1 = q.1
 | [],a,cs,_,h=>h
 | (n,k) :: r,a,cs,hl,h=>by
  unfold M1
  split
  ·refine gJ (fun p hp=>?_) fun p hp q hq e=>?_
   ·rcases List.mem_cons.mp hp with z | z
    ·rw [z]; exact Nat.lt_succ_self _
    ·exact Nat.lt_succ_of_lt (hl p z)
   ·rcases List.mem_cons.mp hp with z | z
    ·rcases List.mem_cons.mp hq with y | y
     ·rw [z,y]
     ·have := hl q y
      rw [z] at e
      have e : a = q.2 := e
      exact absurd (by rw [← e] at this; exact this) (Nat.lt_irrefl _)
    ·rcases List.mem_cons.mp hq with y | y
     ·have := hl p z
      rw [y] at e
      have e : p.2 = a := e
      exact absurd (by rw [e] at this; exact this) (Nat.lt_irrefl _)
     ·exact h p z q y e
  ·exact gJ hl h
theorem AA0 {names : List (Str × NameKind)} {a c : Addr} {x y : Str} {cs : List (Str × Addr)} (hl : ∀ p ∈ cs,p.2 < a) (h1 : (x,c) ∈ M1 names a cs) (h2 : (y,c) ∈ M1 names a cs) (hc : a ≤ c) : x = y := by
 have drop : ∀ {names : List (Str × NameKind)} {a : Addr} {cs : List (Str × Addr)} {x : Str},(x,c) ∈ M1 names a cs → (∀ p ∈ cs,p.2 ≠ c) → (x,c) ∈ M1 names a [] := by
  intro names
  have gen : ∀ (names : List (Str × NameKind)) (a : Addr) (cs ds : List (Str × Addr)) (x : Str),(x,c) ∈ M1 names a (ds ++ cs) → (∀ p ∈ cs,p.2 ≠ c) → (x,c) ∈ M1 names a ds := by
   intro names
   induction names with
   | nil =>
    intro a cs ds x h hn
    rcases List.mem_append.mp h with z | z
    ·exact z
    ·exact absurd rfl (hn _ z)
   | cons p r ih =>
    obtain ⟨n,k⟩ := p
    intro a cs ds x h hn
    unfold M1 at h ⊢
    by_cases q : (k == NameKind.cell) = true
    ·rw [if_pos q] at h ⊢
     exact ih (a + 1) cs ((n,a) :: ds) x h hn
    ·rw [if_neg q] at h ⊢
     exact ih a cs ds x h hn
  intro a cs x h hn
  exact gen names a cs [] x h hn
 have hn : ∀ p ∈ cs,p.2 ≠ c := fun p hp e=>absurd (Nat.lt_of_lt_of_le (hl p hp) hc) (by rw [e]; exact Nat.lt_irrefl _)
 exact gJ (names := names) (a := a) (cs := []) (fun p hp=>by cases hp) (fun p hp=>by cases hp) _ (drop h1 hn) _ (drop h2 hn) rfl
theorem mI {cells : List (Str × Addr)} {names : List (Str × NameKind)} (hfree : ∀ y ∈ names,y.2 = .free → ∃ c,cells.lookup y.1 = some c) {p : Str × Addr} (h : p ∈ G8 cells names []) : ∃ y c,c = p.2 ∧ cells.lookup y = some p.2 := by
 have gen : ∀ (names : List (Str × NameKind)) (cs : List (Str × Addr)),(∀ y ∈ names,y.2 = .free → ∃ c,cells.lookup y.1 = some c) → p ∈ G8 cells names cs → p ∈ cs ∨ ∃ y,cells.lookup y = some p.2 := by
  intro names
  induction names with
  | nil=>intro cs _ h; exact .inl h
  | cons q r ih =>
   obtain ⟨n,k⟩ := q
   intro cs hf h
   unfold G8 at h
   by_cases c : (k == NameKind.free) = true
   ·rw [if_pos c] at h
    rcases ih _ (fun y hy=>hf y (List.mem_cons_of_mem _ hy)) h with z | z
    ·rcases List.mem_cons.mp z with z | z
     ·obtain ⟨c0,hc0⟩ := hf (n,k) List.mem_cons_self (by simpa using c)
      have hc0 : cells.lookup n = some c0 := hc0
      refine .inr ⟨n,?_⟩
      rw [z,hc0]; rfl
     ·exact .inl z
    ·exact .inr z
   ·rw [if_neg c] at h
    exact ih _ (fun y hy=>hf y (List.mem_cons_of_mem _ hy)) h
 rcases gen names [] hfree h with z | ⟨y,z⟩
 ·cases z
 ·exact ⟨y,p.2,rfl,z⟩
theorem aJ {env : Env} : ∀ {names : List (Str × NameKind)} {x : Str} {k : NameKind},
  (names.map fun (n,k)=>if (k == NameKind.free && env.scope.kind == .function && env.kindOf n == some .cell) then (n,NameKind.cell) else (n,k)).lookup x = some k → k = .cell ∨ k = .free →
  names.lookup x = some .free ∨ names.lookup x = some .cell
 | [],_,_,h,_=>by simp at h
 | (n,k') :: r,x,k,h,hk=>by
  have ih := @aJ env r x k
  have h : List.lookup x ((if (k' == NameKind.free && env.scope.kind == .function && env.kindOf n == some .cell) = true then (n,NameKind.cell) else (n,k')) :: _) = _ := h
  cases hx : x == n with
  | true =>
   rw [List.lookup_cons,hx]
   by_cases hq : (k' == NameKind.free && env.scope.kind == .function && env.kindOf n == some .cell) = true
   ·have : (k' == NameKind.free) = true := by
     cases hz : (k' == NameKind.free)
     ·rw [hz] at hq; simp at hq
     ·rfl
    have e : k' = .free := by simpa using this
    rw [e]; exact .inl rfl
   ·rw [if_neg hq] at h
    simp only [List.lookup_cons,hx] at h
    cases h
    rcases hk with e | e
    ·rw [e]; exact .inr rfl
    ·rw [e]; exact .inl rfl
  | false =>
   rw [List.lookup_cons,hx]
   refine ih ?_ hk
   by_cases hq : (k' == NameKind.free && env.scope.kind == .function && env.kindOf n == some .cell) = true
   ·rw [if_pos hq] at h; simp only [List.lookup_cons,hx] at h; exact h
   ·rw [if_neg hq] at h; simp only [List.lookup_cons,hx] at h; exact h
def M9 (X : Cx) (scope : Scope) (N' : List Str) (C : Addr) (fp : List Addr) (s : Shared) (H : Hp) : Cx :=
  { prog := X.prog, w := X.w, K := X.K, mg := X.mg, base := X.base, A := X.A, N := N', s₀ := s, H₀ := H, env := compEnvC scope (M1 scope.names (C + 1) (G8 X.env.cells scope.names [])) C X.env,
    outer := X.stack, stack := X.stack, ex := fp, fn := fun x => scope.names.lookup x == some NameKind.cell, calm := X.calm, pn := [], xe := fun _ _ => False }
theorem jX {M : Model} {A : Around} {E : Value → Shared → Prop} {s : Shared} {Q : List (Str × Addr) → Shared → Prop} : ∀ (names : List (Str × NameKind)) (cs : List (Str × Addr)) (h : Heap),Q (M1 names h.objs.size cs) { s with heap := cI names h } →
  wpAny M A (forIn names cs fun (x : Str × NameKind) (r : List (Str × Addr))=>(match x with | (name,kind)=>if (kind == .cell) = true then do let c ← alloc { cls := Value.type "cell",data := Data.cell none }; pure (ForInStep.yield ((name,c) :: r)) else pure (ForInStep.yield r) : Sem (ForInStep (List (Str × Addr))))) Q E { s with heap := h }
 | [],cs,h,q=>wpAny_pure q
 | (n,k) :: r,cs,h,q=>by
  rw [List.forIn_cons]
  unfold M1 cI at q
  by_cases c : (k == NameKind.cell) = true
  ·rw [if_pos c,if_pos c] at q
   simp only [c,↓reduceIte]
   refine wpAny_bind (wpAny_bind (wpAny_alloc (wpAny_pure ?_)))
   refine jX r _ (h.push bB) ?_
   rw [show (h.push bB).objs.size = h.objs.size + 1 from Heap.size_push ..]
   exact q
  ·rw [if_neg c,if_neg c] at q
   simp only [c,↓reduceIte,Bool.false_eq_true]
   exact wpAny_bind (wpAny_pure (jX r _ h q))
theorem uD {M : Model} {A : Around} {E : Value → Shared → Prop} {s : Shared} {scope : Scope} {globals : Addr} {cl : List (Str × Addr)} {qual : Str} {env : Env} {Q : Env → Shared → Prop}
  (h : ∀ h' : Heap,h'.Ns s.heap.objs.size (fun _=>none) → (∀ b o,s.heap.get? b = some o → h'.get? b = some o) → (∀ cl,∀ p ∈ M1 scope.names (s.heap.objs.size + 1) cl,p ∈ cl ∨ h'.IsCell p.2 none) →
   Q { scope := scope,locals := s.heap.objs.size,globals := globals,cells := M1 scope.names (s.heap.objs.size + 1) cl,qual := qual,func := none,code := env.code,frame := env.frame,builtins := env.builtins } { s with heap := h',toks := s.toks }) :
  wpAny M A (newFunctionEnv scope globals cl [] qual none .none (some env)) Q E s := by
 unfold newFunctionEnv
 refine wpAny_bind (wpAny_alloc ?_)
 have hz : (s.heap.push { cls := Value.type "dict",data := Data.dict #[] }).objs.size = s.heap.objs.size + 1 := Heap.size_push ..
 refine wpAny_bind (jX (s := s) scope.names cl (s.heap.push { cls := Value.type "dict",data := Data.dict #[] }) ?_)
 rw [hz]
 refine wpAny_bind (wpAny_pure (wpAny_pure ?_))
 refine h _ ?_ (fun b o e=>X8 _ _ (Heap.get?_push_of_some _ e)) (fun cl p hp=>kF (h := s.heap.push { cls := Value.type "dict",data := Data.dict #[] }) (by rw [hz]; exact hp))
 have n0 : (s.heap.push { cls := Value.type "dict",data := Data.dict #[] }).Ns s.heap.objs.size (fun _=>none) := Heap.Ns.new ..
 exact n0.keeps fun b o e=>X8 _ _ e
structure CompOkC (X : Cx) (scope : Scope) (N' : List Str) (fr : List (Option Nat)) (own : List Nat) : Prop where
 kind : scope.kind = .function
 cell : (scope.names.all fun x=>x.2 != .cell || scope.names.lookup x.1 == some .cell) = true
 names : (scope.names.all fun x=>x.2 != .local || scope.names.lookup x.1 == some .local) = true
 free : (scope.names.all fun x=>x.2 != .free || X.env.scope.names.lookup x.1 == some .cell || X.env.scope.names.lookup x.1 == some .free) = true
 len : N'.length = fr.length
 from_ : ((N'.zip fr).all fun p=>match p.2 with | none=>true | some j=>X.N[j]? == some p.1 && (scope.names.lookup p.1 == some .free)) = true
 own_ : (own.all fun j=>fr[j]? == some none) = true
section
variable {X : Cx} {scope : Scope} {N' : List Str} {fr : List (Option Nat)} {own : List Nat} {elt tg iter : Expr} {ifs : List Expr} {wi : TI} {g : TG} {ti : TT} {te : TE} {pos : Pos}
theorem CompOkC.hcell (c : CompOkC X scope N' fr own) : ∀ y ∈ scope.names,y.2 = .cell → scope.names.lookup y.1 = some .cell := fun y hy e=>by
 have := List.all_eq_true.mp c.cell y hy
 rw [e] at this
 simpa using this
theorem CompOkC.hnames (c : CompOkC X scope N' fr own) : ∀ y ∈ scope.names,y.2 = .local → scope.names.lookup y.1 = some .local := fun y hy e=>by
 have := List.all_eq_true.mp c.names y hy
 rw [e] at this
 simpa using this
theorem CompOkC.hfree (c : CompOkC X scope N' fr own) {pins : List (Addr × Obj)} {σ : St} {H : Hp} {s : Shared} (I : Inv X pins σ H s) : ∀ y ∈ scope.names,y.2 = .free → ∃ c,X.env.cells.lookup y.1 = some c := fun y hy e=>by
 have := List.all_eq_true.mp c.free y hy
 rw [e] at this
 refine I.ok.has y.1 ?_
 have z : X.env.scope.names.lookup y.1 = some .cell ∨ X.env.scope.names.lookup y.1 = some .free := by simpa using this
 exact z
theorem sM {pins : List (Addr × Obj)} {σ : St} {H : Hp} {s : Shared} {fp : List Addr} {h₁ : Heap} {m : Str → Option Value} {tk : Nat} (c : CompOkC X scope N' fr own) (hc : X.calm = true) (I : Inv X pins σ H s) (hfp : ∀ b ∈ fp,W0 X pins H b) (hlt : ∀ b ∈ fp,b < s.heap.objs.size)
  (hns : h₁.Ns s.heap.objs.size m) (hk : ∀ b o,s.heap.get? b = some o → h₁.get? b = some o) (hcl : ∀ p ∈ M1 scope.names (s.heap.objs.size + 1) (G8 X.env.cells scope.names []),p ∈ G8 X.env.cells scope.names [] ∨ h₁.IsCell p.2 none) :
  Inv (M9 X scope N' s.heap.objs.size fp s H) [] (U5 fr σ) H { s with heap := h₁,toks := tk } := by
 have hfree := c.hfree I
 have look0 : ∀ x cc,(G8 X.env.cells scope.names []).lookup x = some cc → X.env.cells.lookup x = some cc := fun x cc e=>U3 _ _ hfree (by intro c' e'; simp at e') e
 have old : ∀ x cc,X.env.cells.lookup x = some cc → cc < s.heap.objs.size := fun x cc e=>by
  obtain ⟨v,o,ho,_⟩ := I.cell x cc e
  exact Heap.lt_size ho
 have look : ∀ x cc,(M1 scope.names (s.heap.objs.size + 1) (G8 X.env.cells scope.names [])).lookup x = some cc → X.env.cells.lookup x = some cc ∨ (s.heap.objs.size < cc ∧ h₁.IsCell cc none) := fun x cc e=>by
  rcases cJ e with h | h
  ·exact .inl (look0 x cc h)
  ·refine .inr ⟨h,?_⟩
   rcases hcl _ (PySem.mem_of_lookup e) with z | z
   ·exfalso
    obtain ⟨y,_,_,hy⟩ := mI hfree z
    have := old y cc hy
    exact absurd (Nat.lt_trans h this) (Nat.lt_irrefl _)
   ·exact z
 have cellAt : ∀ x cc,X.env.cells.lookup x = some cc → ∃ v,h₁.IsCell cc v := fun x cc e=>by
  obtain ⟨v,o,ho,hd⟩ := I.cell x cc e
  exact ⟨v,o,hk _ _ ho,hd⟩
 have ok : (M9 X scope N' s.heap.objs.size fp s H).Ok := by
  refine ⟨I.ok.mod,c.kind,I.ok.glob,I.ok.blt,Nat.le_refl _,fun x y cc h1 h2=>?inj,fun x h=>?_,fun x cc h e=>Nat.le_of_lt (Nat.lt_of_lt_of_le (Nat.lt_succ_self _) (kI (by simpa [M9] using h) e)),I.ok.hd,I.ok.frames,.inl rfl,fun b hb=>⟨Nat.ne_of_lt (hlt b hb),fun x cc e=>(look x cc e).elim (fun e=>(hfp b hb).2.2.2.2.1 x cc e) fun e=>Nat.ne_of_gt (Nat.lt_trans (hlt b hb) e.1)⟩,
   fun b o e=>I.bs b o e,Nat.le_trans I.ok.bsz I.sz,fun b o e hb=>?_,fun b hb hz=>?_,I.stack,I.stkFree⟩
  case inj =>
   rcases look x cc h1 with e1 | e1
   ·rcases look y cc h2 with e2 | e2
    ·exact I.ok.inj x y cc e1 e2
    ·exact absurd (Nat.lt_trans e2.1 (old x cc e1)) (Nat.lt_irrefl _)
   ·exact AA0 (fun p hp=>by
     obtain ⟨y',_,_,hy⟩ := mI hfree hp
     exact Nat.lt_succ_of_lt (old y' p.2 hy)) (PySem.mem_of_lookup h1) (PySem.mem_of_lookup h2) (Nat.succ_le_of_lt e1.1)
  ·have z : scope.names.lookup x = some .free ∨ scope.names.lookup x = some .cell := by
    rcases h with h | h
    ·exact aJ (env := X.env) h (.inl rfl)
    ·exact aJ (env := X.env) h (.inr rfl)
   rcases z with z | z
   ·exact cK _ _ _ (V7 _ _ z)
   ·exact kH _ _ _ z
  ·rcases (hfp b hb).2.2.2.1 with z | z
   ·exact I.ok.noex b o e z
   ·exact absurd (Nat.lt_of_lt_of_le (Heap.lt_size e) (Nat.le_trans I.ok.bsz z)) (Nat.lt_irrefl _)
  ·rcases List.mem_cons.mp (I.stkSub b hz) with e | e
   ·exact (hfp b hb).2.1 e
   ·exact (hfp b hb).2.2.1 e
 refine ⟨ok,rfl,I.bare,Un.kept hk,⟨m,hns,fun i x v e1 e2 hv=>?_⟩,fun x cc e=>(look x cc e).elim (fun e=>cellAt x cc e) fun e=>⟨_,e.2⟩,I.fresh,fun x cc e=>(look x cc e).elim (fun e=>I.freeC x cc e) fun e=>I.hok.fresh (Nat.le_of_lt e.1),fun p hp=>by simp [M9] at hp,I.hok.kept hk,?_⟩
 ·
  have e1 : N'[i]? = some x := e1
  have e2 : (fr.map fun o=>o.bind fun j=>(σ[j]?).join)[i]? = some (some v) := e2
  rw [List.getElem?_map] at e2
  cases hfi : fr[i]? with
  | none=>rw [hfi] at e2; simp at e2
  | some o =>
   rw [hfi] at e2
   simp only [Option.map_some,Option.some.injEq] at e2
   cases o with
   | none=>simp at e2
   | some j =>
    have e3 : (σ[j]?).join = some v := by simpa using e2
    have e4 : σ[j]? = some (some v) := by
     cases hz : σ[j]? with
     | none=>rw [hz] at e3; simp at e3
     | some z=>rw [hz] at e3; simp at e3; rw [e3]
    have hm : (x,some j) ∈ N'.zip fr := by
     have : (N'.zip fr)[i]? = some (x,some j) := by rw [List.getElem?_zip_eq_some]; exact ⟨e1,hfi⟩
     exact List.mem_of_getElem? this
    have hz := List.all_eq_true.mp c.from_ _ hm
    have hz : (X.N[j]? == some x && (scope.names.lookup x == some .free)) = true := hz
    have hz1 : X.N[j]? = some x ∧ scope.names.lookup x = some .free := by simpa using hz
    obtain ⟨m0,hn0,hl0⟩ := I.loc
    have hxf : (X.env.scope.names.lookup x = some .cell ∨ X.env.scope.names.lookup x = some .free) := by
     have hmem : (x,NameKind.free) ∈ scope.names := PySem.mem_of_lookup hz1.2
     have := List.all_eq_true.mp c.free _ hmem
     simpa using this
    have vis : rV X.env.scope x := .inr hxf
    obtain ⟨u,ru,lk⟩ := hl0 j x v hz1.1 e4 vis
    refine ⟨u,ru,?_⟩
    rcases lk with ⟨k,_⟩ | ⟨k,cc,ec,hcell⟩
    ·have k : X.env.scope.names.lookup x = some .local := k
     rcases hxf with h | h
     ·rw [h] at k; cases k
     ·rw [h] at k; cases k
    ·obtain ⟨c2,hc2⟩ := V7 (cells := X.env.cells) (x := x) scope.names [] hz1.2
     have := look0 x c2 hc2
     rw [ec] at this
     cases this
     have hown : (M1 scope.names (s.heap.objs.size + 1) (G8 X.env.cells scope.names [])).lookup x = some cc := by
      rw [kE fun p hp hc e=>?_]
      ·exact hc2
      ·have := c.hcell p hp hc
       rw [← e,hz1.2] at this
       cases this
     refine .inr ⟨?_,cc,hown,?_⟩
     ·rcases hv with h | h
      ·
       exfalso
       have hl : ∀ (names : List (Str × NameKind)),names.lookup x = some .free → (names.map fun (n,k)=>if (k == NameKind.free && X.env.scope.kind == .function && X.env.kindOf n == some .cell) then (n,NameKind.cell) else (n,k)).lookup x ≠ some .local := by
        intro names
        induction names with
        | nil=>intro h; simp at h
        | cons p r ih =>
         obtain ⟨n,k⟩ := p
         intro h hh
         have hh : List.lookup x ((if (k == NameKind.free && X.env.scope.kind == .function && X.env.kindOf n == some .cell) = true then (n,NameKind.cell) else (n,k)) :: _) = _ := hh
         rw [List.lookup_cons] at h
         cases hx : x == n with
         | true =>
          rw [hx] at h
          cases h
          by_cases hq : (NameKind.free == NameKind.free && X.env.scope.kind == .function && X.env.kindOf n == some .cell) = true
          ·rw [if_pos hq] at hh; simp [List.lookup_cons,hx] at hh
          ·rw [if_neg hq] at hh; simp [List.lookup_cons,hx] at hh
         | false =>
          rw [hx] at h
          by_cases hq : (k == NameKind.free && X.env.scope.kind == .function && X.env.kindOf n == some .cell) = true
          ·rw [if_pos hq] at hh; simp only [List.lookup_cons,hx] at hh; exact ih h hh
          ·rw [if_neg hq] at hh; simp only [List.lookup_cons,hx] at hh; exact ih h hh
       exact hl _ hz1.2 h
      ·exact h
     ·obtain ⟨o,ho,hd⟩ := hcell
      exact ⟨o,hk _ _ ho,hd⟩
 ·show (fr.map _).length = N'.length
  rw [List.length_map,c.len]
theorem sN {pins : List (Addr × Obj)} {σ : St} {H2 : Hp} {s2 : Shared} {it : Addr} {fp : List Addr} {tn : Nat → Heap → Prop} {J : It} {Q : VK} {RR : Value → Addr → Result → Shared → Prop} {E : Value → Shared → Prop} (c : CompOkC X scope N' fr own) (hc : X.calm = true)
  (hg : ∀ C fp s H,PG (M9 X scope N' C fp s H) tg g) (ho : kO own g) (ht : ∀ C fp s H,rX (M9 X scope N' C fp s H) ifs ti) (he : ∀ C fp s H,PE (M9 X scope N' C fp s H) elt te)
  (I2 : Inv X pins σ H2 s2) (T : kN X.prog X.w X.K tg J fp it tn) (st2 : tn 0 s2.heap) (f2 : ∀ b ∈ fp,W0 X pins H2 b)
  (R : ∀ l,H2 l = none → ∃ W : Nat → Nat → List V → Hp → Prop,(∃ m,W 0 m [] (B6 H2 l (.lst []))) ∧ ∀ i m ys H',W i m ys H' →
   (J.stop i H' ∧ Q (.ref l) H') ∨ (J.go i H' ∧ ∃ N : List V → Hp → Prop,(∀ zs H'',N zs H'' → ∃ m',m' < m ∧ W (i + 1) m' zs H'') ∧ ∀ x H2,J.yld i H' x H2 → g x (U5 fr σ) H2 fun σ3 H3=>ti σ3 H3 fun b H4=>if b = true then
    te σ3 H4 fun y H5=>H5 l = some (.lst ys) ∧ ys.length < sizeLine ∧ N (ys ++ [y]) (B6 H5 l (.lst (ys ++ [y]))) else N ys H4))
  (fin : ∀ l C s' H',Inv X pins σ H' s' → (∃ m,s'.heap.Ns C m) → H' C = none → s2.heap.objs.size ≤ C → Q (.ref l) H' → RR (.ref l) C (.ok .next) s') :
  wpAny (model X.prog X.w) X.A (newList []) (fun acc s₃=>wpAny (model X.prog X.w) X.A (newFunctionEnv scope X.env.globals (G8 X.env.cells scope.names []) [] X.env.qual none .none (some X.env)) (fun cenv s₄ =>
   codeAny (model X.prog X.w) X.A (.compStart (.ListComp elt [⟨tg,iter,ifs,0⟩] scope pos) 0 (.ref it) acc { cenv with scope := relabel scope X.env }) (RR acc cenv.locals) s₄) E s₃) E s2 := by
 refine wpAny_newObj_type (uD (fun h₁ hns₁ hup₁ hcl₁=>?_))
 dsimp only at hns₁ hup₁ hcl₁ ⊢
 have I3 : Inv X pins σ (B6 H2 s2.heap.objs.size (.lst [])) { s2 with heap := s2.heap.push { cls := .type "list",data := .seq ([] : List Value).toArray } } := I2.lnew (its := []) (t' := s2.toks) .nil (Nat.zero_le _)
 have hl := I2.fresh
 obtain ⟨W,⟨m0,w0⟩,turn⟩ := R _ hl
 generalize hs3 : ({ s2 with heap := s2.heap.push { cls := .type "list",data := .seq ([] : List Value).toArray } } : Shared) = s3 at I3
 have hh3 : s2.heap.push { cls := .type "list",dict := none,data := .seq ([] : List Value).toArray } = s3.heap := by rw [← hs3]
 have hz3 : s3.heap.objs.size = s2.heap.objs.size + 1 := by rw [← hs3]; exact Heap.size_push ..
 have up23 : ∀ b o,s2.heap.get? b = some o → s3.heap.get? b = some o := fun b o e=>by rw [← hh3]; exact Heap.get?_push_of_some _ e
 have objs : ∀ b ∈ fp,∃ o,s2.heap.get? b = some o ∧ ∀ v,o.data ≠ .cell v := T.obj _ _ st2
 have lt2 : ∀ b ∈ fp,b < s2.heap.objs.size := fun b hb=>by obtain ⟨o,e,_⟩ := objs b hb; exact Heap.lt_size e
 have f3 : ∀ b ∈ fp,W0 X pins (B6 H2 s2.heap.objs.size (.lst [])) b := fun b hb=>⟨by rw [B5 (Nat.ne_of_lt (lt2 b hb))]; exact (f2 b hb).1,(f2 b hb).2⟩
 have st3 : tn 0 s3.heap := T.keep _ _ _ st2 fun b _ o e=>up23 b o e
 rw [hh3] at hns₁ hup₁ hcl₁ ⊢
 have up34 : ∀ b o,s3.heap.get? b = some o → h₁.get? b = some o := hup₁
 have I4 : Inv (M9 X scope N' s3.heap.objs.size fp s3 (B6 H2 s2.heap.objs.size (.lst []))) [] (U5 fr σ) (B6 H2 s2.heap.objs.size (.lst [])) { s3 with heap := h₁,toks := s2.toks } :=
  sM c hc I3 f3 (fun b hb=>by rw [hz3]; exact Nat.lt_succ_of_lt (lt2 b hb)) hns₁ up34 (hcl₁ _)
 generalize hXX : M9 X scope N' s3.heap.objs.size fp s3 (B6 H2 s2.heap.objs.size (.lst [])) = X' at I4
 have hg' := hg s3.heap.objs.size fp s3 (B6 H2 s2.heap.objs.size (.lst []))
 have ht' := ht s3.heap.objs.size fp s3 (B6 H2 s2.heap.objs.size (.lst []))
 have he' := he s3.heap.objs.size fp s3 (B6 H2 s2.heap.objs.size (.lst []))
 rw [hXX] at hg' ht' he'
 have eP : X'.prog = X.prog := by rw [← hXX]; rfl
 have eW : X'.w = X.w := by rw [← hXX]; rfl
 have eK : X'.K = X.K := by rw [← hXX]; rfl
 have eA : X'.A = X.A := by rw [← hXX]; rfl
 have eC : X'.calm = true := by rw [← hXX]; exact hc
 have eX : X'.xe = fun _ _=>False := by rw [← hXX]; rfl
 have eE : X'.env = compEnvC scope (M1 scope.names (s3.heap.objs.size + 1) (G8 X.env.cells scope.names [])) s3.heap.objs.size X.env := by rw [← hXX]; rfl
 have eN : X'.env.locals = s3.heap.objs.size := by rw [eE]; rfl
 have eF : X'.fs = V9 X.stack := by rw [← hXX]; rfl
 have eEx : X'.ex = fp := by rw [← hXX]; rfl
 have ePn : X'.pn = [] := by rw [← hXX]; rfl
 have eS : X'.s₀ = s3 := by rw [← hXX]; rfl
 have eH : X'.H₀ = B6 H2 s2.heap.objs.size (.lst []) := by rw [← hXX]; rfl
 have fpIn : ∀ {H' : Hp},(∀ b ∈ fp,H' b = none) → ∀ b ∈ fp,W0 X' [] H' b := fun {H'} hn b hb=>by
  refine ⟨hn b hb,by rw [eN,hz3]; exact Nat.ne_of_lt (Nat.lt_succ_of_lt (lt2 b hb)),fun z=>?_,.inl (by rw [eEx]; exact hb),fun x cc e=>?_,fun p hp=>by rw [ePn] at hp; simp at hp⟩
  ·rw [eF] at z
   rcases List.mem_cons.mp (I3.stkSub b z) with e | e
   ·exact (f3 b hb).2.1 e
   ·exact (f3 b hb).2.2.1 e
  ·rw [eE] at e
   rcases cJ e with h | h
   ·exact (f3 b hb).2.2.2.2.1 x cc (U3 _ _ (c.hfree I3) (by intro c' e'; simp at e') h)
   ·exact Nat.ne_of_gt (Nat.lt_trans (by rw [hz3]; exact Nat.lt_succ_of_lt (lt2 b hb)) h)
 have loop : ∀ s₅ : Shared,s₅ = { s3 with heap := h₁,toks := s2.toks } →
   codeAny (model X.prog X.w) X.A (.compLoop (.ListComp elt [⟨tg,iter,ifs,0⟩] scope pos) 0 (.ref it) (.ref s2.heap.objs.size) (compEnvC scope (M1 scope.names (s3.heap.objs.size + 1) (G8 X.env.cells scope.names [])) s3.heap.objs.size X.env)) (RR (.ref s2.heap.objs.size) s3.heap.objs.size) s₅ := by
  rintro s₅ rfl
  refine hX (fun n s'=>∃ i ys H',Inv X' [] (U5 fr σ) H' s' ∧ tn i s'.heap ∧ (∀ b ∈ fp,H' b = none) ∧ W i n ys H') ?_ m0
   ⟨0,[],_,I4,T.keep _ _ _ st3 fun b _ o e=>up34 b o e,fun b hb=>(f3 b hb).1,w0⟩
  rintro n s6 ⟨i,ys,H6,I6,st6,fr6,w6⟩
  rcases turn i n ys H6 w6 with ⟨stop,q⟩ | ⟨go,NN,hNN,step⟩
  ·have D := T.done X' eP eW eK eC i [] s6 _ H6 (fun _ _=>False) I6 (fpIn fr6) st6 stop
   rw [eA] at D
   refine D8 D fun r s7 ⟨hr,I7⟩=>?_
   subst hr
   have un := I7.base
   rw [eF,eEx,eS,eH] at un
   have os7 : s7.os = s3.os := by rw [I7.os,eS]
   have hok7 := I7.hok
   rw [eP,eW] at hok7
   have J3 : Inv X pins σ H6 s7 := I3.call' os7 un hok7 I7.bare fun b hb=>⟨(f3 b hb).2.2.2.1,(f3 b hb).2.1,(f3 b hb).2.2.2.2.1,(f3 b hb).2.2.2.2.2⟩
   obtain ⟨m7,hn7,_⟩ := I7.loc
   rw [eN] at hn7
   have fr7 := I7.free
   rw [eN] at fr7
   exact fin _ _ s7 H6 J3 ⟨m7,hn7⟩ fr7 (by rw [hz3]; exact Nat.le_succ _) q
  ·have D := T.item X' eP eW eK eC i [] s6 _ H6 (fun _ _=>False) I6 (fpIn fr6) st6 go
   rw [eA] at D
   refine D8 D fun r s7 ⟨u,hr,h7⟩=>?_
   subst hr
   refine D8 h7 fun _ s8 ⟨x,H8,I8,r8,y8,st8,fr8⟩=>?_
   have I8' := I8.pinned (fpIn fr8) (T.obj _ _ st8)
   have q8 := ho _ _ _ _ (step x H8 y8)
   have A1 := hg' _ s8 _ H8 x u _ I8' r8 q8
   rw [eP,eW,eA,eE,eX] at A1
   refine D8 A1 fun _ s9 ⟨σ9,H9,I9,q9,len9,own9⟩=>?_
   have A2 := ht' _ s9 σ9 H9 _ I9 q9
   rw [eP,eW,eA,eE,eX] at A2
   refine D8 A2 fun ok s10 ⟨H10,I10,gH⟩=>?_
   have weak : ∀ {H' : Hp} {s' : Shared},Inv X' ([] ++ W3 fp s8.heap) σ9 H' s' → Inv X' ([] ++ W3 fp s8.heap) (U5 fr σ) H' s' := fun {H' s'} I'=>I'.weak len9.symm fun j v e=>by
    by_cases hj : j ∈ own
    ·exfalso
     have z := List.all_eq_true.mp c.own_ j hj
     have z : fr[j]? = some none := by simpa using z
     have e : (fr.map fun o=>o.bind fun j=>(σ[j]?).join)[j]? = some (some v) := e
     rw [List.getElem?_map,z] at e
     simp at e
    ·rw [own9 j hj]; exact e
   have again : ∀ {H' : Hp} {s' : Shared},Inv X' ([] ++ W3 fp s8.heap) σ9 H' s' → tn (i + 1) s'.heap ∧ (∀ b ∈ fp,H' b = none) ∧ Inv X' [] (U5 fr σ) H' s' := fun {H' s'} I'=>by
    refine ⟨T.keep _ _ _ st8 fun b hb o e=>(I'.pin (b,o) (List.mem_append_right _ (List.mem_append_right _ (V5 hb e)))).1,fun b hb=>?_,(weak I').unpinned⟩
    obtain ⟨o,e,d⟩ := T.obj _ _ st8 b hb
    exact (I'.pin (b,o) (List.mem_append_right _ (List.mem_append_right _ (V5 hb e)))).2.1
   cases ok with
   | false =>
    rw [if_neg Bool.false_ne_true] at gH ⊢
    obtain ⟨m',hm,w'⟩ := hNN _ _ gH
    obtain ⟨t1,t2,t3⟩ := again I10
    exact ⟨m',hm,i + 1,ys,H10,t3,t1,t2,w'⟩
   | true =>
    rw [if_pos rfl] at gH ⊢
    have A3 := he' _ s10 σ9 H10 _ I10 gH
    rw [eP,eW,eA,eE,eX] at A3
    refine D8 A3 fun yv s11 ⟨y,H11,I11,wQ,hl11,hz11,wR⟩=>?_
    have A4 := J7 (X := X') _ s11 σ9 H11 (.ref s2.heap.objs.size) [y] (.ref s2.heap.objs.size) [yv] (fun _ H'=>H' = B6 H11 s2.heap.objs.size (.lst (ys ++ [y]))) I11 rfl (.cons wQ .nil) ⟨_,ys,y,rfl,rfl,hl11,hz11,rfl⟩
    rw [eP,eW,eA,eX] at A4
    refine D8 A4 fun _ s12 ⟨_,H12,I12,_,e12⟩=>?_
    subst e12
    obtain ⟨m',hm,w'⟩ := hNN _ _ wR
    obtain ⟨t1,t2,t3⟩ := again I12
    exact ⟨m',hm,i + 1,_,_,t3,t1,t2,w'⟩
 have e5 : ({ s2 with heap := h₁,toks := s2.toks } : Shared) = { s3 with heap := h₁,toks := s2.toks } := by rw [← hs3]
 exact codeAny_compStart_list (loop _ e5) (T.self _ 0 _ _ _ (T.keep _ _ _ st3 fun b _ o e=>up34 b o e) (loop _ e5))
theorem zR {i : Nat} {y : Str} {py spos : Pos} (c : CompOkC X scope N' fr own) (hc : X.calm = true) (hN : X.N.Nodup) (hy : X.N[i]? = some y) (hx : X.env.scope.names.lookup y = some .local) (hi : PI X tg iter wi)
  (hg : ∀ C fp s H,PG (M9 X scope N' C fp s H) tg g) (ho : kO own g) (ht : ∀ C fp s H,rX (M9 X scope N' C fp s H) ifs ti) (he : ∀ C fp s H,PE (M9 X scope N' C fp s H) elt te)
  (hsw : swapsWith (.ListComp elt [⟨tg,iter,ifs,0⟩] scope pos) (some (.Name y py)) spos.line X.env = pure true := by rfl)
  (hs : ∀ x,foldedSetIterable iter X.env x = pure x := by intro _; rfl) : PS X (.Assign [.Name y py] (.ListComp elt [⟨tg,iter,ifs,0⟩] scope pos) spos) (kA (uK wi fr g ti te) (R1 i)) := by
 intro pins s σ H D I h
 rw [exec_Assign_Name_used _ _ _ _ hsw]
 refine wpAny_bind (wpAny_standAt (wpAny_bind ?_))
 show wpAny _ X.A (do let _ ← comprehension (.ListComp elt [⟨tg,iter,ifs,0⟩] scope pos) scope X.env _ (newList []) false (eval iter X.env) (some (assign (.Name y py) X.env))) _ _ s
 refine wpAny_bind (wpAny_mono (wpAny_comprehension_free (use := some (assign (.Name y py) X.env)) (Q := fun _ s'=>SP X pins D .next s') rfl hs (aN (c.hfree I)) c.kind c.hnames
  (D8 (hi pins s σ H _ I h) fun v s1 h1=>D8 h1 fun itv s2 h2=>?_)) (fun _ s' hq=>wpAny_pure (wpAny_pure hq)) fun _ _ e=>e)
 obtain ⟨it,fp,tn,J,H2,e,I2,T,st2,f2,R⟩ := h2
 subst e
 refine sN (Q := fun x H1=>R1 i x σ H1 D.nx) (RR := fun acc C=>compPost (model X.prog X.w) X.A X.xe (some (assign (.Name y py) X.env)) (fun _ s'=>SP X pins D .next s') acc C) c hc hg ho ht he I2 T st2 f2 R ?_
 intro l C s' H' I' hn hC hle q
 obtain ⟨m,hn⟩ := hn
 have cl : ∀ x cc,X.env.cells.lookup x = some cc → cc ≠ C := fun x cc e z=>by
  obtain ⟨v,o,ho,_⟩ := I2.cell x cc e
  exact absurd (Nat.lt_of_lt_of_le (Heap.lt_size ho) (by rw [z]; exact hle)) (Nat.lt_irrefl _)
 show wpAny _ X.A (assign (.Name y py) X.env (.ref l)) _ _ s'
 refine wpAny_assign_Name (fY I' hN hy (.inl hx) (v := .ref l) rfl (fun s5 I5 hsb=>?_) (.inr hx))
 obtain ⟨a,hsb,ha⟩ := hsb
 have hCa : C ≠ a := by
  rcases ha with e | e
  ·rw [e]; exact Nat.ne_of_gt (Nat.lt_of_lt_of_le I2.lt hle)
  ·exact Ne.symm (cl _ _ e)
 refine ⟨m,hn.sameBut hsb hCa,fun h' hs'=>⟨_,H',?_,q⟩⟩
 exact I5.turned (t' := s5.toks) (fun b o hb e=>hs'.extBut b o hb e) hC (Nat.ne_of_gt (Nat.lt_of_lt_of_le I2.lt hle)) (.inr (Nat.le_trans I2.sz hle)) cl fun p hp z =>
  absurd (Nat.lt_of_lt_of_le (Heap.lt_size (I2.pin p hp).1) (by rw [z]; exact hle)) (Nat.lt_irrefl _)
end
end L2
namespace L2
open PySem PySem.Spec PyProof.Rows
theorem AM4 : typeLookup (.type "list_reverseiterator") "__len__" = pure none := by rw [typeLookup_type,builtinLookup_eq_fast]; kernel_rfl
theorem AB7 : typeLookup (.type "list_reverseiterator") "__length_hint__" = pure (some (.builtin "list_reverseiterator.__length_hint__")) := by rw [typeLookup_type,builtinLookup_eq_fast]; kernel_rfl
section
variable {prog : Program} {w : World} {A : Around} {E : Value → Shared → Prop} {s : Shared}
theorem xR {items acc : Array Value} (h : ItemsOf (fun i v=>items[items.size - 1 - i]? = some v) acc items.size) : acc.toList = items.toList.reverse := by
 obtain ⟨hz,hi⟩ := h
 apply List.ext_getElem?
 intro i
 by_cases c : i < items.size
 ·have e1 : acc.toList[i]? = some acc[i] := by rw [Array.getElem?_toList]; exact Array.getElem?_eq_getElem (by omega)
  have h1 := hi i acc[i] (Array.getElem?_eq_getElem (by omega))
  have h2 : items[items.size - 1 - i]? = some acc[i] := h1
  rw [e1,List.getElem?_reverse (by simpa using c)]
  rw [← Array.getElem?_toList] at h2
  simpa using h2.symm
 ·have e1 : acc.toList[i]? = none := by rw [Array.getElem?_toList]; exact Array.getElem?_eq_none (by omega)
  rw [e1]
  exact (List.getElem?_eq_none (by simp; omega)).symm
theorem sJ {I l : Addr} {items : Array Value} {Q : Value → Shared → Prop} (hh : A.handled = none) (hne : l ≠ I) (hit : s.heap.IsRevIter I l ((items.size : Int) - 1)) (hl : s.heap.IsList l items) (hz : items.size ≤ sizeLine)
  (hQ : ∀ h' tk c,(∀ b o,b ≠ I → s.heap.get? b = some o → h'.get? b = some o) → h'.get? s.heap.objs.size = some { cls := .type "list",data := .seq items.toList.reverse.toArray c } → Q (.ref s.heap.objs.size) { s with heap := h',toks := tk }) :
  wpAny (model prog w) A (call (.type "list") [.ref I]) Q E s := by
 have W := (Walks.listRev (prog := prog) (w := w) (A := A.in1.in1) hh I l hne items).toS
 have hI : I < s.heap.objs.size := by obtain ⟨o,e,_⟩ := hit; exact Heap.lt_size e
 have hL : l < s.heap.objs.size := by obtain ⟨o,e,_⟩ := hl; exact Heap.lt_size e
 have nS : s.heap.objs.size ∉ [I,l] := fun z=>by
  have z' : s.heap.objs.size = I ∨ s.heap.objs.size = l := by simpa using z
  rcases z' with z' | z'
  ·exact absurd hI (by rw [← z']; exact Nat.lt_irrefl _)
  ·exact absurd hL (by rw [← z']; exact Nat.lt_irrefl _)
 have nSI : s.heap.objs.size ≠ I := fun e=>nS (by simp [e])
 refine callType_codes (Q₁ := fun obj s₁=>obj = .ref s.heap.objs.size ∧ s₁ = { s with heap := s.heap.push { cls := .type "list",data := .seq #[] } }) F.called_list (F.typeCall_list_1 _) F.entry_list_init
  (code_list_new _ ⟨rfl,rfl⟩) fun obj s₁ h₁=>?_
 obtain ⟨rfl,rfl⟩ := h₁
 have o1 : (s.heap.push { cls := .type "list",data := .seq #[] }).get? s.heap.objs.size = some { cls := .type "list",data := .seq #[] } := Heap.get?_push_size _ rfl
 refine ⟨⟨_,o1,rfl⟩,F.args_list_init_2 _ _,?_⟩
 show wpAny _ A.in1.in1 (Builtin.List.listItems (.ref s.heap.objs.size) >>= fun old=>Builtin.List.listUpdate (.ref s.heap.objs.size) (fun _=>#[]) >>= fun _=>letGo old.toList.reverse >>= fun _=>Builtin.List.listExtendWith (.ref s.heap.objs.size) (.ref I) .none) _ _ _
 refine wpAny_bind (listItems_at o1 rfl (wpAny_bind (listUpdate_at o1 rfl ?_ (Nat.zero_le _) (Nat.zero_le _))))
 have o2 := Heap.get?_update_self (Obj.mapSeq (fun _=>(#[] : Array Value))) o1 rfl
 have oth : ∀ b o,s.heap.get? b = some o → ((s.heap.push { cls := .type "list",data := .seq #[] }).update s.heap.objs.size (Obj.mapSeq (fun _=>(#[] : Array Value)))).get? b = some o := fun b o e =>
  (Heap.get?_update_other _ _ (Nat.ne_of_gt (Heap.lt_size e))).trans (Heap.get?_push_of_some _ e)
 refine wpAny_bind (wpAny_letGo ?_)
 generalize hh2 : (s.heap.push { cls := .type "list",data := .seq #[] }).update s.heap.objs.size (Obj.mapSeq (fun _=>(#[] : Array Value))) = h2 at o2 oth
 show wpAny _ _ _ _ _ { s with heap := h2 }
 have st2 : 0 ≤ items.size ∧ h2.IsRevIter I l ((items.size : Int) - 1 - ((0 : Nat) : Int)) ∧ h2.IsList l items := ⟨Nat.zero_le _,by
  have e : (items.size : Int) - 1 - ((0 : Nat) : Int) = (items.size : Int) - 1 := by omega
  rw [e]; exact hit.at fun o e=>oth _ _ e,hl.at fun o e=>oth _ _ e⟩
 have ty : Shared.TypeIs { s with heap := h2 } (.ref I) "list_reverseiterator" := Heap.IsRevIter.typeIs (s := { s with heap := h2 }) st2.2.1
 have ns : Builtin.List.listSameRef (.ref s.heap.objs.size) (.ref I) = false := by simp [Builtin.List.listSameRef,nSI]
 unfold Builtin.List.listExtendWith
 refine wpAny_bind (wpAny_typeOf ty ?_)
 rw [if_neg (by rw [ns]; decide)]
 refine wpAny_bind (W.self 0 _ _ _ st2 (wpAny_bind (wpAny_holding ?_)))
 unfold Builtin.List.listLengthHint
 refine wpAny_bind (wpAny_specialOf ty AM4 ?_)
 show wpAny _ A.in1.in1 (specialOf (Value.ref I) (Str.ofString "__length_hint__") >>= _) _ _ _
 refine wpAny_bind (wpAny_specialOf ty AB7 ?_)
 generalize hid : ("list_reverseiterator.__length_hint__" : String) = id0
 wp_delta
 rw [show splitId id0 = some ("list_reverseiterator","__length_hint__") from by subst hid; decide +kernel]
 subst hid
 refine wpAny_bind (wpAny_isInstance (b := true) ty (by rw [isSubtype_type]; kernel_rfl) (wpAny_pure ?_))
 rw [if_neg (by decide)]
 refine wpAny_pure ⟨plainId_quiet F.plain_extend_loop _,codeAny_extend_loopS W hz _ nS _ items.size 0 _ _ _ rfl (Nat.zero_le _) st2 o2 (ItemsOf.nil _) fun s' acc' c' hm hS' hacc=>?_⟩
 refine ⟨rfl,?_⟩
 have e := xR hacc
 have eacc : acc' = items.toList.reverse.toArray := by rw [← e]
 rw [eacc] at hS'
 have hs : s' = { s with heap := s'.heap,toks := s'.toks } := by
  obtain ⟨a,b,c,d,f⟩ := s'
  have g1 : b = s.gens := hm.gens
  have g2 : c = s.drawn := hm.drawn
  have g3 : f = s.os := hm.os
  subst g1 g2 g3
  rfl
 rw [hs]
 exact hQ _ _ c' (fun b o hb eo=>hm.heap b o (fun z=>by
  have z' : b = s.heap.objs.size ∨ b = I := by simpa using z
  rcases z' with z' | z'
  ·exact absurd (Heap.lt_size eo) (by rw [z']; exact Nat.lt_irrefl _)
  ·exact hb z') (oth b o eo)) hS'
end
section
variable {X : Cx}
theorem AC8 : bootBuiltins "list" = some (.type "list") := by decide +kernel
theorem AN3 : bootBuiltins "reversed" = some (.type "reversed") := by decide +kernel
theorem uV {e : Expr} {te : TE} {p1 p2 q1 q2 : Pos} (hc : X.calm = true) (g1 : Gl X "list") (m1 : X.mg "list" = none) (g2 : Gl X "reversed") (m2 : X.mg "reversed" = none) (he : PE X e te)
  (hs : starEach [e] X.env = [(false,eval e X.env)] := by rfl) : PE X (.Call (.Name "list" p1) [.Call (.Name "reversed" p2) [e] [] q2] [] q1) (fun σ H Q=>te σ H fun x H1=>∃ a vs,x = .ref a ∧ H1 a = some (.lst vs) ∧ ∀ l,H1 l = none → Q (.ref l) (B6 H1 l (.lst vs.reverse))) := by
 intro pins s σ H Q I h
 have hs0 : starEach ([] : List Expr) X.env = [] := rfl
 refine wpAny_Call_Name_kw (bR I g1 m1 AC8 ?_)
 refine PyProof.Rows.callWith_type1 ?_ rfl rfl
 show wpAny _ _ (spliced ((false,eval (.Call (.Name "reversed" p2) [e] [] q2) X.env) :: backTo q1 (starEach [] X.env))) _ _ s
 refine Calls.spliced_cons (wpAny_Call_Name_kw (bR I g2 m2 AN3 (PyProof.Rows.callWith_type1 ?_ (by rw [hs,hs0]) (by rw [hs0]; rfl))))
 rw [hs]
 show wpAny _ _ (spliced ((false,eval e X.env) :: backTo q2 [])) _ _ s
 refine Calls.spliced_cons (D8 (he pins s σ H _ I h) fun u s1 ⟨x,H1,I1,r1,a,vs,ex,ha,q⟩=>?_)
 subst ex
 cases r1
 refine Calls.spliced_nil ?_
 obtain ⟨z,its,n,rv,hl,e1⟩ := I1.lstM ha
 have hz : its.toArray.size = vs.length := by rw [List.size_toArray,hl]
 refine call_reversed_list (items := its.toArray) (PySem.IsL.isList e1) (Calls.spliced_nil ?_)
 have I2 : Inv X pins σ H1 { s1 with heap := s1.heap.push (revObj a ((its.toArray.size : Int) - 1)) } := I1.kept (t' := s1.toks) fun b o eo=>Heap.get?_push_of_some _ eo
 generalize hs2 : ({ s1 with heap := s1.heap.push (revObj a ((its.toArray.size : Int) - 1)) } : Shared) = s2 at I2
 have hit : s2.heap.IsRevIter s1.heap.objs.size a ((its.toArray.size : Int) - 1) := by rw [← hs2]; exact ⟨_,Heap.get?_push_size _ rfl,rfl,rfl⟩
 have hlt : a < s1.heap.objs.size := Heap.lt_size e1
 have hne : a ≠ s1.heap.objs.size := Nat.ne_of_lt hlt
 have e2 : s2.heap.get? a = some { cls := .type "list",data := .seq its.toArray n } := by rw [← hs2]; exact Heap.get?_push_of_some _ e1
 have hz2 : s2.heap.objs.size = s1.heap.objs.size + 1 := by rw [← hs2]; exact Heap.size_push ..
 refine sJ (items := its.toArray) (I1.ok.hd hc) hne hit (PySem.IsL.isList e2) (by rw [hz]; exact z) fun h' tk c hk hS=>?_
 have rr : Vals vs.reverse its.toArray.toList.reverse := by
  have rev : ∀ {xs : List V} {us : List Value},Vals xs us → Vals xs.reverse us.reverse := by
   intro xs us r
   induction r with
   | nil=>exact .nil
   | cons r _ ih=>rw [List.reverse_cons,List.reverse_cons]; exact ih.append (.cons r .nil)
  exact rev rv
 have I3 : Inv X pins σ (B6 H1 s2.heap.objs.size (.lst vs.reverse)) { s2 with heap := s2.heap.push { cls := .type "list",data := .seq its.toArray.toList.reverse.toArray c },toks := tk } :=
  I2.laid (fun b o eo=>Heap.get?_push_of_some _ eo) (Nat.le_refl _) ⟨by rw [List.length_reverse]; exact z,_,c,rr,Heap.get?_push_size _ rfl⟩
 have nIt : B6 H1 s2.heap.objs.size (.lst vs.reverse) s1.heap.objs.size = none := by
  rw [B5 (by rw [hz2]; exact Nat.ne_of_lt (Nat.lt_succ_self _))]
  exact I1.fresh
 have tn := fun hk1 hk2 hk3=>I3.turned (it := s1.heap.objs.size) (h' := h') (t' := tk) hk1 nIt (Nat.ne_of_gt I1.lt) (.inr I1.sz) hk2 hk3
 refine ⟨.ref s2.heap.objs.size,_,tn (fun b o hb eo=>?_) (fun x cc ec zc=>?_) (fun p hp zp=>?_),rfl,q _ I2.fresh⟩
 ·by_cases hbs : b = s2.heap.objs.size
  ·subst hbs
   have : (s2.heap.push { cls := .type "list",data := .seq its.toArray.toList.reverse.toArray c }).get? s2.heap.objs.size = some o := eo
   rw [Heap.get?_push_size _ rfl] at this
   cases this
   exact hS
  ·have eo' : s2.heap.get? b = some o := by
    have := eo
    rw [Heap.get?_push_ne _ _ _ hbs] at this
    exact this
   exact hk b o hb eo'
 ·obtain ⟨v,o,ho,_⟩ := I1.cell x cc ec
  have := Heap.lt_size ho
  rw [zc] at this
  exact absurd this (Nat.lt_irrefl _)
 ·have := Heap.lt_size (I1.pin p hp).1
  rw [zp] at this
  exact absurd this (Nat.lt_irrefl _)
end
end L2
namespace L2
open PySem PySem.Spec PyProof.Rows
theorem yH {K : PySem.W.Frag} {a : Addr} {xs : List V} {fr : List (Option Nat)} {g : TG} {ti : TT} {te : TE} {σ : St} {H1 : Hp} {l : Addr} {Q : VK} (Pv : Nat → List V → Hp → Prop) (h0 : Pv 0 [] (B6 H1 l (.lst []))) (hl : ∀ i zs H,Pv i zs H → SqL K H a xs)
  (hs : ∀ i x zs H T,xs[i]? = some x → Pv i zs H → H T = none → X0 fr g ti te σ l (.ref T) zs (B6 H T (.tup [.int (i : Int),x])) (Pv (i + 1))) (hd : ∀ zs H,Pv xs.length zs H → Q (.ref l) H) : jM (uC K a) fr g ti te σ H1 l Q := by
 refine ⟨fun i m zs H=>m = xs.length - i ∧ i ≤ xs.length ∧ Pv i zs H,⟨xs.length,by simp,Nat.zero_le _,h0⟩,?_⟩
 rintro i m zs H ⟨rfl,hi,p⟩
 have qa := hl i zs H p
 by_cases hlt : i < xs.length
 ·refine .inr ⟨⟨xs,xs[i],qa,by simp [hlt]⟩,Pv (i + 1),fun zs' H' p'=>⟨xs.length - (i + 1),by omega,rfl,hlt,p'⟩,fun x H' y=>?_⟩
  obtain ⟨T,x',rfl,hT,rfl,hxy⟩ := y
  exact hs i x' zs _ T (hxy xs qa) p hT
 ·have e : i = xs.length := by omega
  subst e
  exact .inl ⟨⟨xs,qa,Nat.le_refl _⟩,hd zs H p⟩
section
variable {X : Cx}
end
end L2
namespace L2
open PySem PySem.Spec PyProof.Rows
section
variable {X : Cx}
theorem Z6 : uB X (fun x lo hi H Q=>∃ z,x = .str z ∧ z.length ≤ sizeLine ∧ Q (.str (Txt.slice z lo hi)) H) := by
 intro pins s σ H x v vl vu lo hi sl Q I rx hs pl pu h
 obtain ⟨z,rfl,hz,q⟩ := h
 obtain ⟨t,rfl⟩ := rx
 obtain ⟨o,ho,hoc,hod⟩ := hs
 have fin : ∀ t' k,EP X pins σ Q (.str (Txt.slice z lo hi) t') { s with toks := k } := fun t' k=>⟨.str _,H,I.tok _,⟨_,rfl⟩,q⟩
 refine ⟨"str",_,F.slot_str_getitem.lookup,typeIs_str _ _ _,?_⟩
 cases pl with
 | none =>
  cases pu with
  | none=>exact wpAny_getItem_str_slice (l := none) (u := none) (st := none) ⟨_,ho,hoc,hod⟩ rfl (post_val_or_str ⟨Nat.le_trans (Txt.slice_le z _ _) hz,fin⟩)
  | int j uj=>exact wpAny_getItem_str_slice (l := none) (u := some (j,uj)) (st := none) ⟨_,ho,hoc,hod⟩ rfl (post_val_or_str ⟨Nat.le_trans (Txt.slice_le z _ _) hz,fin⟩)
 | int i ui =>
  cases pu with
  | none=>exact wpAny_getItem_str_slice (l := some (i,ui)) (u := none) (st := none) ⟨_,ho,hoc,hod⟩ rfl (post_val_or_str ⟨Nat.le_trans (Txt.slice_le z _ _) hz,fin⟩)
  | int j uj=>exact wpAny_getItem_str_slice (l := some (i,ui)) (u := some (j,uj)) (st := none) ⟨_,ho,hoc,hod⟩ rfl (post_val_or_str ⟨Nat.le_trans (Txt.slice_le z _ _) hz,fin⟩)
theorem uR {x : Str} {i j : Int} (h0 : 0 ≤ i) (hj : (x.length : Int) ≤ j) : Txt.slice x (some i) (some j) = Txt.slice x (some i) (some (x.length : Int)) := by
 have e : Builtin.Str.strSliceIndices (some i) (some j) 1 x.length = Builtin.Str.strSliceIndices (some i) (some (x.length : Int)) 1 x.length := by
  unfold Builtin.Str.strSliceIndices
  have h1 : ¬ j < 0 := by omega
  have h2 : ¬ ((x.length : Int) < 0) := by omega
  have h3 : min j (x.length : Int) = x.length := by omega
  have h4 : min (x.length : Int) (x.length : Int) = x.length := by omega
  simp only [show (1 : Int) > 0 by decide,if_true,if_neg h1,if_neg h2,h3,h4]
 unfold Txt.slice
 rw [e]
theorem X3 (l : List Nat) {i j : Nat} (h : i ≤ l.length) (hj : i ≤ j) : Txt.slice ⟨l.toArray⟩ (some (i : Int)) (some (j : Int)) = ⟨((l.drop i).take (j - i)).toArray⟩ := by
 have key : ∀ k : Nat,i ≤ k → k ≤ l.length → Txt.slice ⟨l.toArray⟩ (some (i : Int)) (some (k : Int)) = ⟨((l.drop i).take (k - i)).toArray⟩ := fun k h1 h2=>by
  have e := beq_iff_eq.mp (slice_closes (x := ⟨l.toArray⟩) (i := (i : Int)) (j := (k : Int)) ⟨by omega,by omega,by simpa using h2⟩)
  rw [e]
  have e2 : ((k : Int) - (i : Int)).toNat = k - i := by omega
  rw [e2]
  rfl
 by_cases hk : j ≤ l.length
 ·exact key j hj hk
 ·have hl : (⟨l.toArray⟩ : Str).length = l.length := by simp [Str.length]
  rw [uR (by omega) (by rw [hl]; omega),hl,key l.length h (Nat.le_refl _)]
  rw [List.take_of_length_le (by simp),List.take_of_length_le (by rw [List.length_drop]; omega)]
theorem uQ (l : List Nat) {i : Nat} (h : i ≤ l.length) : Txt.slice ⟨l.toArray⟩ (some (i : Int)) none = ⟨(l.drop i).toArray⟩ := by
 have e := beq_iff_eq.mp (slice_closes_from (x := ⟨l.toArray⟩) (i := (i : Int)) ⟨by omega,by simpa using h⟩)
 rw [e,List.take_of_length_le (by rw [List.length_drop]; show _ ≤ ((l.length : Int) - i).toNat; have : (⟨l.toArray⟩ : Str).cps.toList.length = l.length := rfl; have e3 : ((i : Int)).toNat = i := rfl; omega)]
 rfl
theorem yL : S9 X (.type "int") (fun xs H Q=>∃ b,xs = [.bl b] ∧ Q (.int (if b then 1 else 0)) H) := by
 intro pins s σ H xs us Q I r h
 obtain ⟨b,rfl,q⟩ := h
 obtain ⟨u,rfl,ru⟩ := bX r
 cases (show u = Value.bool b from ru)
 exact call_int_bool ⟨.int _,H,I.tok _,⟨_,rfl⟩,q⟩
def AO5 (G : V → (List V → Hp → VK → Prop) → Prop) (tn : TE) (t : TA) : TE := fun σ H Q=>tn σ H fun v H1=>∃ sp,G v sp ∧ t σ H1 fun vs H2=>sp vs H2 Q
def zB (P : Program) (w : World) (K : PySem.W.Frag) (mg : Str → Option Value) (base : Heap) (k : Nat) (v : V) (sp : List V → Hp → VK → Prop) : Prop :=
 ∃ (f : Addr) (fd : FuncData) (ps : List Str),v = .ref f ∧ FnOk P w K mg base K3 k f fd ps (fun vs H Q _=>sp vs H Q) ∧ PySem.W.keepIn K (.ref f) = true ∧ Binds K fd ps []
theorem zY {k : Nat} {x : Str} {p pos : Pos} {e : Expr} {es : List Expr} {tn : TE} {t : TA} (hr : Room k X.A) (hn : PE X (.Name x p) tn) (ha : PA X (e :: es) t)
  (he : starEach (e :: es) X.env = (false,eval e X.env) :: starEach es X.env := by rfl) (hpl : (backTo pos (starEach es X.env)).any (·.1) = false := by rfl) :
  PE X (.Call (.Name x p) (e :: es) [] pos) (AO5 (zB X.prog X.w X.K X.mg X.base k) tn t) := by
 intro pins s σ H Q I h
 refine wpAny_Call_Name_kw (D8 (hn pins s σ H _ I h) fun v s1 ⟨y,H1,I1,r1,q1⟩=>?_)
 obtain ⟨sp,⟨f,fd,ps,rfl,F,hk,hb⟩,q⟩ := q1
 cases (show v = Value.ref f from r1)
 refine PySem.W.callWith_K (h₀ := X.base) I1.ok.mod.kin hk (D8 (ha pos pins s1 σ H1 _ I1 q) fun us s2 ⟨vs,H2,I2,r2,q2⟩=>⟨I2.kIn,?_⟩) he hpl
 exact lF (dvs := []) (E := E0) F hr hb .nil M8 I2 r2 (by rw [List.append_nil]; exact q2)
def tFr (te : TE) : TE := fun σ H Q=>te σ H fun x H1=>∃ z,x = .str z ∧ z.length ≤ 100000 ∧ (∀ c ∈ z.cps.toList,c < 1114112) ∧ ∀ r,Q (.str r) H1
theorem AF0 {y : Str} {j : Nat} {e : Expr} {te : TE} {p1 p2 pos : Pos} (he : PE X e te) (hy : y.length ≤ 100000 := by decide) : PE X (.JoinedStr [.Constant (.str y) j p1,.FormattedValue e 114 none p2] pos) (tFr te) := by
 intro pins s σ H Q I h
 refine wpAny_JoinedStr ?_
 have e0 : ∀ z : Str,Str.empty ++ z = z := fun z=>by show (⟨#[] ++ z.cps⟩ : Str) = z; simp
 have ln : sizeLine = 16777216 := sizeLine_eq
 show wpAny _ _ (eval (.Constant (.str y) j p1) X.env) _ _ s
 refine Calls.Constant_str ?_
 refine ⟨y,_,rfl,by rw [e0]; omega,?_⟩
 show wpAny _ _ (eval (.FormattedValue e 114 none p2) X.env) _ _ _
 refine wpAny_FormattedValue_repr (D8 (he pins _ σ H _ (I.tok _) h) fun v s1 ⟨x,H1,I1,r1,q1⟩=>?_)
 obtain ⟨z,rfl,hz,hc,q⟩ := q1
 obtain ⟨t,rfl⟩ := r1
 have hl := StrLaws.reprText_len z (fun c hc'=>Nat.lt_trans (hc c hc') (by decide))
 refine wpAny_pyReprObj_str ?_ (by omega)
 refine formatField_str (fun t' tk=>?_) (by omega)
 refine ⟨_,_,rfl,by rw [e0,strLen_append]; omega,?_⟩
 exact ⟨by rw [e0,strLen_append]; omega,.str _,H1,(I1.tok _),⟨_,rfl⟩,q _⟩
end
end L2
namespace Law
open PySem L2 L2.Sp
def O5 (i : Nat) : Stmt := PySem.Challenge.pw_meetvalue_k71_desk_rows.main.body.getD i (.Pass ⟨0,0,0,0⟩)
structure Cal (P : Program) (w : World) (K : PySem.W.Frag) (mg : Str → Option Value) (base : Heap) (k : Nat) (x : Str) (ps : List Str) (sp : Sp) : Prop where
 ex : ∃ (f : Addr) (fd : FuncData),FnOk P w K mg base K3 k f fd ps sp ∧ mg x = some (.ref f) ∧ PySem.W.keepIn K (.ref f) = true ∧ Binds K fd ps []
theorem Cal.mono {P : Program} {w : World} {K : PySem.W.Frag} {mg : Str → Option Value} {base : Heap} {j k : Nat} {x : Str} {ps : List Str} {sp : Sp} (C : Cal P w K mg base j x ps sp) (h : j ≤ k) : Cal P w K mg base k x ps sp := by
 obtain ⟨f,fd,F,a,b,c⟩ := C.ex
 exact ⟨f,fd,F.mono h,a,b,c⟩
theorem E3 {X : Cx} {k : Nat} {x : Str} {ps : List Str} {sp : Sp} {p pos : Pos} {e : Expr} {es : List Expr} {t : TA} (C : Cal X.prog X.w X.K X.mg X.base k x ps sp) (hr : Room k X.A) (hg : Gl X x) (ha : PA X (e :: es) t)
  (hdb : (x == ("__debug__" : Str)) = false := by decide) (he : starEach (e :: es) X.env = (false,eval e X.env) :: starEach es X.env := by rfl) (hpl : (backTo pos (starEach es X.env)).any (·.1) = false := by rfl) :
  PE X (.Call (.Name x p) (e :: es) [] pos) (uL sp [] E0 t) := by
 obtain ⟨f,fd,F,a,b,c⟩ := C.ex
 exact tH F hr hg a b c .nil M8 ha hdb he hpl
theorem B8 {H : Hp} {p : Addr} (h : H p = none) (o : HO) : Same H (B6 H p o) := fun b u q=>by rw [B5 (C0 q h)]; exact q
def Grow (st : Addr) (H H' : Hp) : Prop := ∀ b o,b ≠ st → H b = some o → H' b = some o
theorem Grow.trans {st : Addr} {H H1 H2 : Hp} (a : Grow st H H1) (b : Grow st H1 H2) : Grow st H H2 := fun c o hc h=>b c o hc (a c o hc h)
theorem Grow.of {st : Addr} {H H' : Hp} (a : Same H H') : Grow st H H' := fun c o _ h=>a c o h
theorem bS {st : Addr} {H : Hp} {o : HO} : Grow st H (B6 H st o) := fun b u hb q=>by rw [B5 hb]; exact q
theorem Grow.refl {st : Addr} {H : Hp} : Grow st H H := fun _ _ _ q=>q
theorem Y0 : ([] : List V).length ≤ sizeLine := by decide
theorem S4 {a : V} : ([a] : List V).length ≤ sizeLine := by show 1 ≤ sizeLine; decide
theorem Q6 {a b : V} : ([a,b] : List V).length ≤ sizeLine := by show 2 ≤ sizeLine; decide
theorem bQ {a b c : V} : ([a,b,c] : List V).length ≤ sizeLine := by show 3 ≤ sizeLine; decide
theorem Q7 {n : Nat} (h : n ≤ 1000) : n < sizeLine := oJ h
section
variable {P : Program} {w : World} {K : PySem.W.Frag} {mg : Str → Option Value} {base : Heap} {f : Addr} {fd : FuncData}
def BD0 (t u : TS) : TS := fun D σ H=>∃ R : St → Hp → Prop,t { D with nx := R } σ H ∧ ∀ σ' H',R σ' H' → u D σ' H'
theorem U2 {X : Cx} {st : Stmt} {rest : List Stmt} {t u : TS} (h1 : PS X st t) (h2 : PSs X rest u) : PSs X (st :: rest) (BD0 t u) := by
 intro pins s σ H D I h
 obtain ⟨R,ha,hb⟩ := h
 refine wpAny_execs_cons (D8 (h1 pins s σ H { D with nx := R } I ha) fun f s1 q=>?_)
 cases f with
 | next =>
  obtain ⟨σ',H',I',q⟩ := q
  exact h2 pins s1 σ' H' D I' (hb σ' H' q)
 | ret v=>exact q
 | brk=>exact q
 | cont=>exact q
theorem jW {σ : St} {H : Hp} {A B : Hp → Prop} (h : A H) : AO0 σ H (fun b H4=>if b = true then A H4 else B H4) := by
 show (if true = true then A H else B H)
 rw [if_pos rfl]
 exact h
end
theorem bZ {α : Type} {xs : List α} {i : Nat} {x : α} (h : xs[i]? = some x) : xs.take (i + 1) = xs.take i ++ [x] := by
 rw [List.take_add_one,h]; rfl
theorem yN : bootBuiltins "any" = some (.builtin "any") := by decide +kernel
theorem yO : bootBuiltins "all" = some (.builtin "all") := by decide +kernel
theorem rS : bootBuiltins "isinstance" = some (.builtin "isinstance") := by decide +kernel
theorem bV : bootBuiltins "tuple" = some (.type "tuple") := by decide +kernel
theorem mK : bootBuiltins "int" = some (.type "int") := by decide +kernel
theorem jK : bootBuiltins "list" = some (.type "list") := by decide +kernel
theorem rR : bootBuiltins "str" = some (.type "str") := by decide +kernel
section
variable {K : PySem.W.Frag}
theorem kL {a b : Str} : decide (V.str a = V.str b) = decide (a = b) := by
 rw [Bool.eq_iff_iff,decide_eq_true_iff,decide_eq_true_iff]
 exact ⟨fun h=>V.str.inj h,fun h=>by rw [h]⟩
theorem jH {X : Cx} {scope : Scope} {N' : List Str} {C : Addr} {fp : List Addr} {s : Shared} {H : Hp} : zA (Q2 X scope N' C fp s H) (AQ0 X.K) := aG
theorem uT {H : Hp} : Same H H := fun _ _ h=>h
theorem DAll.last {H : Hp} : ∀ {ds : List D} {vs : List V} {y : V},DAll K H ds vs → vs[vs.length - 1]? = some y → ∃ ds' d,ds = ds' ++ [d] ∧ DAll K H ds' vs.dropLast ∧ DV K H d y
 | [],vs,y,h,e=>by simp only [DAll] at h; subst h; simp at e
 | [d],vs,y,h,e=>by
  simp only [DAll] at h
  obtain ⟨z,_,rfl,h1,rfl⟩ := h
  simp at e
  subst e
  exact ⟨[],d,rfl,by simp [DAll],h1⟩
 | d :: d2 :: ds,vs,y,h,e=>by
  simp only [DAll] at h
  obtain ⟨z,r,rfl,h1,h2⟩ := h
  have h2' : DAll K H (d2 :: ds) r := by simp only [DAll]; exact h2
  obtain ⟨z2,r2,rfl,_,_⟩ := h2
  obtain ⟨ds',d',e1,h3,h4⟩ := DAll.last h2' (y := y) (by simpa using e)
  refine ⟨d :: ds',d',by rw [e1]; rfl,?_,h4⟩
  rw [List.dropLast_cons_of_ne_nil (by simp)]
  simp only [DAll]
  exact ⟨z,_,rfl,h1,h3⟩
theorem zF {n : Nat} (h : n ≤ 1000) : n ≤ sizeLine := Nat.le_of_lt (Q7 h)
theorem rE (t : Str) (ts : List Str) : eI (.str t) (ts.map V.str) = decide (t ∈ ts) := by
 rw [Bool.eq_iff_iff,decide_eq_true_iff]
 unfold eI
 simp only [List.any_map,List.any_eq_true,Function.comp]
 constructor
 ·rintro ⟨y,hy,e⟩
  have e : (y == t) = true := e
  rw [beq_iff_eq] at e
  exact e ▸ hy
 ·intro h
  exact ⟨t,h,by show (t == t) = true; simp⟩
theorem aI {α : Type} {xs : List α} {i : Nat} {x : α} (h : xs[i]? = some x) : xs.drop i = x :: xs.drop (i + 1) := by
 obtain ⟨hi,e⟩ := List.getElem?_eq_some_iff.mp h
 rw [← e]
 exact List.drop_eq_getElem_cons hi
theorem DAll.snoc {H : Hp} {ds : List D} {vs : List V} {d : D} {v : V} (h : DAll K H ds vs) (h' : DV K H d v) : DAll K H (ds ++ [d]) (vs ++ [v]) := DAll.append h (by simp only [DAll]; exact ⟨v,[],rfl,h',rfl⟩)
mutual
def nD : D → Nat
 | .tup ds=>1 + nL ds
 | _=>1
def nL : List D → Nat
 | []=>0
 | d :: ds=>nD d + nL ds
end
theorem xL : ∀ d : D,0 < nD d
 | .tup ds=>by simp only [nD]; omega
 | .non=>by simp only [nD]; omega
 | .bl _=>by simp only [nD]; omega
 | .int _=>by simp only [nD]; omega
 | .str _=>by simp only [nD]; omega
 | .lst=>by simp only [nD]; omega
 | .dic=>by simp only [nD]; omega
theorem cO : ∀ ds es : List D,nL (ds ++ es) = nL ds + nL es
 | [],es=>by simp [nL]
 | d :: ds,es=>by simp only [List.cons_append,nL,cO ds es]; omega
theorem lP : ∀ ds : List D,ds.length ≤ nL ds
 | []=>Nat.le_refl _
 | d :: ds=>by
  have := lP ds
  have := xL d
  simp only [List.length_cons,nL]; omega
end
end Law
namespace Law
open PySem L2 L2.Sp
def P4 (c : Nat) : Bool := decide (97 ≤ c) && decide (c ≤ 122)
def K2 (c : Nat) : Bool := decide (48 ≤ c) && decide (c ≤ 57)
def U7 (c : Nat) : Bool := decide (32 ≤ c) && (decide (c ≤ 126) && !(decide (c = 34) || decide (c = 37)))
def T9 : List Nat := [123,125,91,93,40,41,44,58,63,38,124,33,64,46]
def sg (l : List Nat) : Nat := if l.head? = some 45 then 1 else 0
def W8 (l : List Nat) : Option (List Nat) :=
 if ((l.drop (sg l)).takeWhile K2) = [] ∨ 60 < ((l.drop (sg l)).takeWhile K2).length ∨ (((l.drop (sg l)).takeWhile K2).head? = some 48 ∧ l.take (sg l + ((l.drop (sg l)).takeWhile K2).length) ≠ [48]) then none
 else some (l.take (sg l + ((l.drop (sg l)).takeWhile K2).length))
def aP (l : List Nat) : Option (List Nat) :=
 if (l.drop (1 + ((l.drop 1).takeWhile U7).length)).take 1 = [34] then some (l.take (2 + ((l.drop 1).takeWhile U7).length)) else none
def N0 : List Nat → Option (List Nat)
 | []=>none
 | c :: r =>
  if P4 c = true then some ((c :: r).take (((c :: r).takeWhile P4).length))
  else if c = 45 ∨ K2 c = true then W8 (c :: r)
  else if c = 34 then aP (c :: r)
  else if (c :: r).take 2 = [46,46] then some [46,46]
  else if c ∈ T9 then some [c] else none
def E7 : List Nat → Option (List (List Nat))
 | []=>some []
 | c :: r=>if c = 32 then E7 r else match N0 (c :: r) with
  | none=>none
  | some w=>(E7 (r.drop (w.length - 1))).map (w :: ·)
termination_by l=>l.length
decreasing_by all_goals (simp only [List.length_cons,List.length_drop]; omega)
theorem kR (p : Nat → Bool) (l : List Nat) : (l.takeWhile p).length ≤ l.length := (List.takeWhile_sublist p).length_le
theorem sQ (p : Nat → Bool) : ∀ l : List Nat,l.take (l.takeWhile p).length = l.takeWhile p
 | []=>rfl
 | c :: r=>by
  by_cases h : p c = true
  ·rw [List.takeWhile_cons_of_pos h,List.length_cons,List.take_succ_cons,sQ p r]
  ·rw [List.takeWhile_cons_of_neg h]; rfl
theorem kS (p : Nat → Bool) : ∀ {a s : List Nat},(∀ c ∈ a,p c = true) → (∀ d,s.head? = some d → p d = false) → (a ++ s).takeWhile p = a
 | [],[],_,_=>rfl
 | [],d :: s,_,h=>by
  have := h d rfl
  rw [List.nil_append,List.takeWhile_cons_of_neg (by rw [this]; simp)]
 | c :: a,s,h1,h2=>by
  rw [List.cons_append,List.takeWhile_cons_of_pos (h1 c (by simp)),kS p (fun d hd=>h1 d (by simp [hd])) h2]
theorem AE2 (l : List Nat) : sg l ≤ 1 := by unfold sg; split <;> omega
theorem oE {l w : List Nat} (h : N0 l = some w) : 0 < w.length ∧ w.length ≤ l.length ∧ w = l.take w.length := by
 have key : ∀ n,0 < n → n ≤ l.length → w = l.take n → 0 < w.length ∧ w.length ≤ l.length ∧ w = l.take w.length := fun n h1 h2 h3=>by
  have e : w.length = n := by rw [h3,List.length_take]; omega
  exact ⟨by omega,by omega,by rw [e]; exact h3⟩
 cases l with
 | nil=>cases h
 | cons c r =>
  simp only [N0] at h
  split at h
  ·rename_i hc
   cases h
   refine key _ ?_ (kR P4 (c :: r)) rfl
   rw [List.takeWhile_cons_of_pos hc]; simp
  ·split at h
   ·unfold W8 at h
    split at h
    ·cases h
    ·rename_i hn
     cases h
     have hne : ((c :: r).drop (sg (c :: r))).takeWhile K2 ≠ [] := fun z=>hn (.inl z)
     have h1 := kR K2 ((c :: r).drop (sg (c :: r)))
     rw [List.length_drop] at h1
     have h2 : 0 < (((c :: r).drop (sg (c :: r))).takeWhile K2).length := List.length_pos_iff.mpr hne
     have h3 := AE2 (c :: r)
     refine key _ (by omega) (by simp only [List.length_cons] at h1 ⊢; omega) rfl
   ·split at h
    ·unfold aP at h
     split at h
     ·rename_i hq
      cases h
      have h1 := congrArg List.length hq
      rw [List.length_take,List.length_drop] at h1
      simp only [List.length_cons,List.length_nil] at h1
      refine key _ (by omega) ?_ rfl
      simp only [List.length_cons]
      omega
     ·cases h
    ·split at h
     ·rename_i hd
      cases h
      refine key 2 (by omega) ?_ hd.symm
      have h1 := congrArg List.length hd
      rw [List.length_take] at h1
      simp only [List.length_cons,List.length_nil] at h1 ⊢
      omega
     ·split at h
      ·cases h
       exact key 1 (by omega) (by simp) rfl
      ·cases h
theorem fU : E7 [] = some [] := by rw [E7]
theorem jY (r : List Nat) : E7 (32 :: r) = E7 r := by rw [E7,if_pos rfl]
theorem uE {l : List Nat} (h0 : l.head? ≠ some 32) (hl : l ≠ []) (h : N0 l = none) : E7 l = none := by
 cases l with
 | nil=>exact absurd rfl hl
 | cons c r =>
  have hc : c ≠ 32 := fun z=>h0 (by rw [z]; rfl)
  rw [E7,if_neg hc,h]
theorem kQ {l w : List Nat} (h0 : l.head? ≠ some 32) (h : N0 l = some w) : E7 l = (E7 (l.drop w.length)).map (w :: ·) := by
 cases l with
 | nil=>cases h
 | cons c r =>
  have hc : c ≠ 32 := fun z=>h0 (by rw [z]; rfl)
  obtain ⟨h1,_,_⟩ := oE h
  rw [E7,if_neg hc,h]
  have e : (c :: r).drop w.length = r.drop (w.length - 1) := by
   cases hw : w.length with
   | zero=>omega
   | succ n=>rfl
  rw [e]
end Law
namespace Law
open PySem L2 L2.Sp
theorem bP (a b : Nat) : decide (([a] : List Nat) < [b]) = decide (a < b) := by
 rw [Bool.eq_iff_iff]
 simp [List.cons_lt_cons_iff]
theorem AU8 : bootBuiltins "ord" = some (.builtin "ord") := by decide +kernel
section
variable {P : Program} {w : World} {K : PySem.W.Frag} {mg : Str → Option Value} {base : Heap} {f : Addr} {fd : FuncData}
def W6 (φ : Nat → Bool) : List V → Hp → VK → Prop := fun args H Q=>∃ c : Nat,args = [.str ⟨#[c]⟩] ∧ Q (.bl (φ c)) H
abbrev iN : Stmt := O5 9
theorem AP0 : D7 ["letter"] ["letter"] (B3 iN) := ⟨rfl,rfl,rfl,by decide +kernel,rfl,by decide +kernel,by decide +kernel⟩
theorem AM6 (c : Nat) : eI (.int (c : Int)) [.int 34,.int 37] = (decide (c = 34) || decide (c = 37)) := by
 unfold eI
 simp only [List.any_cons,List.any_nil,Bool.or_false]
 have h1 : ((34 : Int) == (c : Int)) = decide (c = 34) := by
  rw [Bool.eq_iff_iff,beq_iff_eq,decide_eq_true_iff]; omega
 have h2 : ((37 : Int) == (c : Int)) = decide (c = 37) := by
  rw [Bool.eq_iff_iff,beq_iff_eq,decide_eq_true_iff]; omega
 show (((34 : Int) == (c : Int)) || ((37 : Int) == (c : Int))) = _
 rw [h1,h2]
theorem AJ9 (F : Fun K "is_sign" "is_sign" iN f fd) (m1 : mg "ord" = none) {gt : Addr} (hg : mg "NO_SIGNS" = some (.ref gt)) (hK : ∀ H : Hp,SqT K H gt [.int 34,.int 37]) : FnOk P w K mg base K3 1 f fd ["letter"] (fun vs H Q _=>W6 U7 vs H Q) := by
 refine F.ok AP0 (fun vs H Q E h=>?_) (fun cdv A outer s H vs Q E hr h=>?_)
 ·obtain ⟨c,rfl,_⟩ := h
  rfl
 obtain ⟨c,rfl,q⟩ := h
 refine ⟨_,B4 (D4 (bJ (fA T6 T6 B9 (pv 0) B9) (aD (N8 qQ (G1 AC6 rfl m1 AU8 (A9 (pv 0) B0)) (Y9 (v := .ref gt) rfl hg rfl) rfl)))),?_⟩
 by_cases h1 : 32 ≤ c
 ·by_cases h2 : c ≤ 126
  ·refine ⟨_,rfl,_,_,rfl,rfl,true,?_,E8 ⟨_,_,rfl,rfl,true,?_,E8 ⟨_,rfl,_,rfl,rfl,gt,_,rfl,.inr (hK _),rfl,rfl,?_⟩⟩⟩
   ·show V.bl (!decide (([c] : List Nat) < [32])) = .bl true
    rw [bP,decide_eq_false (by omega)]; rfl
   ·show V.bl (!decide (([126] : List Nat) < [c])) = .bl true
    rw [bP,decide_eq_false (by omega)]; rfl
   ·have e : eI (.int ((#[c].getD 0 0 : Nat) : Int)) [.int 34,.int 37] = (decide (c = 34) || decide (c = 37)) := AM6 c
    show Q (.bl (!eI (.int ((#[c].getD 0 0 : Nat) : Int)) [.int 34,.int 37])) H
    rw [e]
    have : U7 c = !(decide (c = 34) || decide (c = 37)) := by unfold U7; rw [decide_eq_true h1,decide_eq_true h2]; rfl
    rw [← this]
    exact q
  ·have e : U7 c = false := by unfold U7; rw [decide_eq_true h1,decide_eq_false h2]; rfl
   rw [e] at q
   refine ⟨_,rfl,_,_,rfl,rfl,true,?_,E8 ⟨_,_,rfl,rfl,false,?_,F0 q⟩⟩
   ·show V.bl (!decide (([c] : List Nat) < [32])) = .bl true
    rw [bP,decide_eq_false (by omega)]; rfl
   ·show V.bl (!decide (([126] : List Nat) < [c])) = .bl false
    rw [bP,decide_eq_true (by omega)]; rfl
 ·have e : U7 c = false := by unfold U7; rw [decide_eq_false h1]; rfl
  rw [e] at q
  refine ⟨_,rfl,_,_,rfl,rfl,false,?_,F0 ⟨false,rfl,F0 q⟩⟩
  show V.bl (!decide (([c] : List Nat) < [32])) = .bl false
  rw [bP,decide_eq_true (by omega)]; rfl
def yM (a b c : Nat) : Bool := decide (a ≤ c) && decide (c ≤ b)
theorem hZ {a b c : Nat} {H : Hp} {Q : VK} (q : Q (.bl (yM a b c)) H) :
  ∃ i j,(V.str ⟨#[a]⟩ : V) = .str i ∧ (V.str ⟨#[c]⟩ : V) = .str j ∧ ∃ d,V.bl (!decide (j.cps.toList < i.cps.toList)) = .bl d ∧ if d = true then ∃ i' j',(V.str ⟨#[c]⟩ : V) = .str i' ∧ (V.str ⟨#[b]⟩ : V) = .str j' ∧ Q (.bl (!decide (j'.cps.toList < i'.cps.toList))) H else Q (.bl false) H := by
 refine ⟨_,_,rfl,rfl,_,rfl,?_⟩
 show if (!decide (([c] : List Nat) < [a])) = true then _ else _
 rw [bP]
 by_cases h : a ≤ c
 ·rw [decide_eq_false (by omega)]
  refine E8 ⟨_,_,rfl,rfl,?_⟩
  show Q (.bl (!decide (([b] : List Nat) < [c]))) H
  rw [bP]
  have e : (!decide (b < c)) = yM a b c := by
   unfold yM
   rw [decide_eq_true h,Bool.true_and,Bool.eq_iff_iff]
   simp
  rw [e]; exact q
 ·rw [decide_eq_true (by omega)]
  have e : yM a b c = false := by unfold yM; rw [decide_eq_false h]; rfl
  rw [e] at q
  exact F0 q
abbrev aW : Stmt := O5 26
theorem zI : D7 ["sign"] ["sign"] (B3 aW) := ⟨rfl,rfl,rfl,by decide +kernel,rfl,by decide +kernel,by decide +kernel⟩
theorem xC (F : Fun K "is_letter" "is_letter" aW f fd) : FnOk P w K mg base K3 1 f fd ["sign"] (fun vs H Q _=>W6 P4 vs H Q) := by
 refine F.ok zI (fun vs H Q E h=>?_) (fun cdv A outer s H vs Q E hr h=>?_)
 ·obtain ⟨c,rfl,_⟩ := h
  rfl
 obtain ⟨c,rfl,q⟩ := h
 refine ⟨_,B4 (D4 (fA T6 T6 B9 (pv 0) B9)),?_⟩
 exact ⟨_,rfl,hZ (a := 97) (b := 122) q⟩
abbrev aX : Stmt := O5 27
theorem zJ : D7 ["sign"] ["sign"] (B3 aX) := ⟨rfl,rfl,rfl,by decide +kernel,rfl,by decide +kernel,by decide +kernel⟩
theorem xD (F : Fun K "is_figure" "is_figure" aX f fd) : FnOk P w K mg base K3 1 f fd ["sign"] (fun vs H Q _=>W6 K2 vs H Q) := by
 refine F.ok zJ (fun vs H Q E h=>?_) (fun cdv A outer s H vs Q E hr h=>?_)
 ·obtain ⟨c,rfl,_⟩ := h
  rfl
 obtain ⟨c,rfl,q⟩ := h
 refine ⟨_,B4 (D4 (fA T6 T6 B9 (pv 0) B9)),?_⟩
 exact ⟨_,rfl,hZ (a := 48) (b := 57) q⟩
end
end Law
namespace Law
open PySem L2 L2.Sp
abbrev S (l : List Nat) : Str := ⟨l.toArray⟩
theorem O2 (l : List Nat) : (S l).length = l.length := rfl
theorem Q1 {l : List Nat} (h : l.length ≤ 100000) : (S l).length ≤ sizeLine := by rw [O2]; have : sizeLine = 16777216 := sizeLine_eq; omega
theorem AG9 {φ : Nat → Bool} {l : List Nat} {e : Nat} {c : Nat} (h : l[e]? = some c) (hc : φ c = true) : ((l.drop e).takeWhile φ).length = 1 + ((l.drop (e + 1)).takeWhile φ).length := by
 rw [aI h,List.takeWhile_cons_of_pos hc,List.length_cons]; omega
theorem AG8 {φ : Nat → Bool} {l : List Nat} {e : Nat} {c : Nat} (h : l[e]? = some c) (hc : φ c = false) : ((l.drop e).takeWhile φ).length = 0 := by
 rw [aI h,List.takeWhile_cons_of_neg (by rw [hc]; simp)]; rfl
section
variable {P : Program} {w : World} {K : PySem.W.Frag} {mg : Str → Option Value} {base : Heap} {f : Addr} {fd : FuncData}
abbrev mW : Stmt := O5 25
theorem uS : D7 ["text","place","fits","end"] ["text","place","fits"] (B3 mW) := ⟨rfl,rfl,rfl,by decide +kernel,rfl,by decide +kernel,by decide +kernel⟩
def kY (P : Program) (w : World) (K : PySem.W.Frag) (mg : Str → Option Value) (base : Heap) : Sp := fun args H Q _=>∃ (l : List Nat) (p : Nat) (v : V) (φ : Nat → Bool),args = [.str (S l),.int (p : Int),v] ∧ zB P w K mg base 1 v (W6 φ) ∧ p ≤ l.length ∧ l.length ≤ 100000 ∧
 Q (.int ((p + ((l.drop p).takeWhile φ).length : Nat) : Int)) H
theorem AR2 (F : Fun K "run_end" "run_end" mW f fd) (m1 : mg "len" = none) : FnOk P w K mg base K3 2 f fd ["text","place","fits"] (kY P w K mg base) := by
 refine F.ok uS (fun vs H Q E h=>?_) (fun cdv A outer s H vs Q E hr h=>?_)
 ·obtain ⟨l,p,v,φ,rfl,_⟩ := h
  rfl
 obtain ⟨l,p,v,φ,rfl,hv,hp,hl,q⟩ := h
 refine ⟨_,B2 (D3 (i := 3) uS.nd rfl (Or.inl rfl) (pv 1))
  (B2 (R5 PassesOwn.never (PW.pt (lJ (E1 fC (pv 3) (G1 V1 rfl m1 PySem.boot_len (A9 (pv 0) B0)) (D9 _))
    (jA (O7 (zY hr (pv 2) (A9 (G5 aH (pv 0) (pv 3) (fun _ _=>rfl)) B0))))))
   (B4 (X9 (i := 3) uS.nd rfl (Or.inl rfl) B7 lX)))
  (B4 (D4 (pv 3)))),?_⟩
 refine ⟨_,rfl,?_⟩
 refine ⟨fun m σ H'=>∃ e : Nat,σ = [some (.str (S l)),some (.int (p : Int)),some v,some (.int (e : Int))] ∧ H' = H ∧ m = l.length - e ∧ e ≤ l.length ∧ e + ((l.drop e).takeWhile φ).length = p + ((l.drop p).takeWhile φ).length,
  ⟨_,p,rfl,rfl,rfl,hp,rfl⟩,?_⟩
 rintro m σ H' ⟨e,rfl,rfl,rfl,he,hi⟩
 refine ⟨_,rfl,_,rfl,_,rfl,Q1 hl,_,_,rfl,rfl,_,rfl,R0 (fun c=>?_) (fun c=>?_)⟩
 ·have c : decide ((e : Int) < ((S l).length : Nat)) = true := c
  have hlt : e < l.length := by have := of_decide_eq_true c; rw [O2] at this; omega
  have hg : l[e]? = some l[e] := List.getElem?_eq_getElem hlt
  refine ⟨_,rfl,_,hv,_,rfl,_,rfl,_,_,l[e],rfl,rfl,Q1 hl,G2 hg,l[e],rfl,_,rfl,?_⟩
  cases hφ : φ l[e] with
  | true =>
   refine E8 ⟨fun σ' H''=>σ' = [some (.str (S l)),some (.int (p : Int)),some v,some (.int ((e + 1 : Nat) : Int))] ∧ H'' = H',fun σ' H'' h=>?_,_,rfl,_,_,rfl,rfl,rfl,rfl⟩
   obtain ⟨rfl,rfl⟩ := h
   exact ⟨_,by omega,e + 1,rfl,rfl,rfl,by omega,by have := AG9 hg hφ; omega⟩
  | false =>
   refine F0 ⟨_,rfl,?_⟩
   have h0 := AG8 hg hφ
   have : e = p + ((l.drop p).takeWhile φ).length := by omega
   show Q (.int (e : Int)) H'
   rw [this]; exact q
 ·have c : ¬ decide ((e : Int) < ((S l).length : Nat)) = true := c
  have hge : l.length ≤ e := by
   refine Nat.le_of_not_lt fun z=>c (decide_eq_true ?_)
   rw [O2]; omega
  refine F0 ⟨_,rfl,?_⟩
  have h0 : l.drop e = [] := List.drop_eq_nil_of_le hge
  rw [h0] at hi
  have : e = p + ((l.drop p).takeWhile φ).length := by
   have z : (([] : List Nat).takeWhile φ).length = 0 := rfl
   omega
  show Q (.int (e : Int)) H'
  rw [this]; exact q
end
end Law
namespace Law
open PySem L2 L2.Sp
theorem AG2 {a b : List Nat} : (V.str (S a) = V.str (S b)) ↔ a = b := by
 constructor
 ·intro h
  have h := V.str.inj h
  have h2 : a.toArray = b.toArray := congrArg Str.cps h
  exact congrArg Array.toList h2
 ·rintro rfl; rfl
theorem O1 {a b : List Nat} : decide (V.str (S a) = V.str (S b)) = decide (a = b) := by
 rw [Bool.eq_iff_iff,decide_eq_true_iff,decide_eq_true_iff]; exact AG2
def S6 (l : List Nat) : Prop := l.length ≤ 100000 ∧ ∀ c ∈ l,c < 1114112
structure K8 (P : Program) (w : World) (K : PySem.W.Frag) (mg : Str → Option Value) (base : Heap) (k : Nat) (x : Str) (ps : List Str) (sp : Sp) : Prop where
 ex : ∃ (f : Addr) (fd : FuncData),FnOk P w K mg base (M0 P w) k f fd ps sp ∧ mg x = some (.ref f) ∧ PySem.W.keepIn K (.ref f) = true ∧ Binds K fd ps []
theorem J9 {X : Cx} {k : Nat} {x : Str} {ps : List Str} {sp : Sp} {p pos : Pos} {e : Expr} {es : List Expr} {t : TA} {E : XK} (C : K8 X.prog X.w X.K X.mg X.base k x ps sp) (hr : Room k X.A) (hg : Gl X x) (hx : S7 (M0 X.prog X.w) X E) (ha : PA X (e :: es) t)
  (hdb : (x == ("__debug__" : Str)) = false := by decide) (he : starEach (e :: es) X.env = (false,eval e X.env) :: starEach es X.env := by rfl) (hpl : (backTo pos (starEach es X.env)).any (·.1) = false := by rfl) :
  PE X (.Call (.Name x p) (e :: es) [] pos) (uL sp [] E t) := by
 obtain ⟨f,fd,F,a,b,c⟩ := C.ex
 exact tH F hr hg a b c .nil hx ha hdb he hpl
section
variable {P : Program} {w : World} {K : PySem.W.Frag} {mg : Str → Option Value} {base : Heap} {f : Addr} {fd : FuncData}
theorem Fun.ok1 {x qual : Str} {st : Stmt} {f : Addr} {fd : FuncData} {N ps : List Str} {k : Nat} {sp : Sp} (F : Fun K x qual st f fd) (S : D7 N ps (B3 st)) (len : ∀ vs H Q E,sp vs H Q E → vs.length = ps.length)
  (hbody : ∀ (cdv : Value) (A : Around) (outer : List Env) (s : Shared) (H : Hp) (vs : List V) (Q : VK) (E : XK),Room k (A.deeper (PyProof.Rows.envOfC qual (B3 st) s.heap.objs.size f cdv)) → sp vs H Q E →
   ∃ t,PSs (X1 (M0 P w) P w K mg base N qual (B3 st) f cdv A outer s H E) (D5 st) t ∧ t { nx := fun _ H'=>Q .non H',rt := Q } (start N vs) H) : FnOk P w K mg base (M0 P w) (k + 1) f fd ps sp := by
 obtain ⟨oc,od,kV,doc,pm,an,cdv,ct,osl,rfl,lk,hcd⟩ := F.ex
 exact AF9 lk hcd S len fun A outer s H vs Q E hr hsp=>hbody cdv A outer s H vs Q E hr hsp
structure NT (K : PySem.W.Frag) (mg : Str → Option Value) (C : Addr) : Prop where
 xc : XC K C [.type "ValueError",.type "Exception",.type "BaseException",.type "object"] "ValueError.__new__"
 mg : mg "NoText" = some (.ref C)
abbrev nB : Stmt := O5 28
theorem pQ : D7 ["text","place","start","word","figures"] ["text","place"] (B3 nB) := ⟨rfl,rfl,rfl,by decide +kernel,rfl,by decide +kernel,by decide +kernel⟩
def cV (g : List Nat → Option (List Nat)) (C : Addr) : Sp := fun args H Q E=>∃ (l : List Nat) (p : Nat),args = [.str (S l),.int (p : Int)] ∧ p < l.length ∧ S6 l ∧ (∀ v,g (l.drop p) = some v → Q (.str (S v)) H) ∧ (g (l.drop p) = none → E (.ref C) none H)
theorem rB : (Str.ofString "" : Str) = S [] := by decide +kernel
theorem AZ4 : (Str.ofString "0" : Str) = S [48] := by decide +kernel
theorem vE : (Str.ofString "-" : Str) = S [45] := by decide +kernel
theorem AR7 {C fF : Addr} {mt : Tok} (F : Fun K "number_at" "number_at" nB f fd) (RUN : Cal P w K mg base 2 "run_end" ["text","place","fits"] (kY P w K mg base)) (n : NT K mg C) (hF : zB P w K mg base 1 (.ref fF) (W6 K2)) (gF : mg "is_figure" = some (.ref fF))
  (gM : mg "MOST_FIGURES" = some (.int 60 mt)) (m1 : mg "len" = none) : FnOk P w K mg base (M0 P w) 3 f fd ["text","place"] (cV W8 C) := by
 refine Fun.ok1 F pQ (fun vs H Q E h=>?_) (fun cdv A outer s H vs Q E hr h=>?_)
 ·obtain ⟨l,p,rfl,_⟩ := h
  rfl
 obtain ⟨l,p,rfl,hp,hs,q1,q2⟩ := h
 refine ⟨_,U2 (D3 (i := 2) pQ.nd rfl (Or.inl rfl) (eZ (E1 N4 (G5 aH (pv 0) (pv 1) (fun _ _=>rfl)) B9 (D9 _)) (G9 U0 (pv 1) B7) (pv 1)))
  (U2 (D3 (i := 3) pQ.nd rfl (Or.inl rfl) (T0 Z6 (pv 0) (N6 (pv 1)) (N6 (E3 RUN hr rfl (A9 (pv 0) (A9 (pv 2) (A9 (Y9 (v := .ref fF) rfl gF rfl) B0)))))))
  (U2 (D3 (i := 4) pQ.nd rfl (Or.inl rfl) (T0 Z6 (pv 3) (N6 (G9 dY (pv 2) (pv 1))) nJ))
  (B2 (G3 (PW.pt (lI (E1 N4 (pv 4) B9 (D9 _)) (lI (E1 jB (G1 V1 rfl m1 PySem.boot_len (A9 (pv 4) B0)) (Y9 (v := .int 60) rfl gM ⟨_,rfl⟩) (D9 _))
    (lH (PW.pt (lJ (E1 N4 (G5 aH (pv 4) B7 (fun _ _=>rfl)) B9 (D9 _)) (jA (E1 lM (pv 3) B9 (D9 _)))))))))
   (B4 (R6 PySem.F.excBase_ValueError n.xc rfl n.mg (A9 (AF0 (pv 3)) B0))) E4)
  (B4 (D4 (pv 3)))))),?_⟩
 have hg : l[p]? = some l[p] := List.getElem?_eq_getElem hp
 have hr0 : (l.drop p).head? = some l[p] := by rw [aI hg]; rfl
 have hrl : (l.drop p).length = l.length - p := List.length_drop
 have hk1 := AE2 (l.drop p)
 generalize hk : sg (l.drop p) = k at hk1
 have hdd : (l.drop p).drop k = l.drop (p + k) := by rw [List.drop_drop]
 have hpk : p + k ≤ l.length := by omega
 generalize hn : ((l.drop (p + k)).takeWhile K2).length = n
 have hnl : n ≤ l.length - (p + k) := by rw [← hn]; have := kR K2 (l.drop (p + k)); rw [List.length_drop] at this; exact this
 have ew : ((l.drop p).take (k + n)).length = k + n := by rw [List.length_take]; omega
 have ef : ((l.drop p).take (k + n)).drop k = (l.drop (p + k)).takeWhile K2 := by
  rw [List.drop_take,hdd,Nat.add_sub_cancel_left,← hn,sQ]
 have wl := hs.1
 refine ⟨fun σ' H'=>σ' = [some (.str (S l)),some (.int (p : Int)),some (.int ((p + k : Nat) : Int)),none,none] ∧ H' = H,?_,?_⟩
 ·refine ⟨_,rfl,_,rfl,_,_,l[p],rfl,rfl,Q1 wl,G2 hg,rfl,_,rfl,?_⟩
  have e1 : decide (V.str ⟨#[l[p]]⟩ = V.str (Str.ofString "-")) = decide (k = 1) := by
   rw [vE]
   have : decide (V.str (S [l[p]]) = V.str (S [45])) = decide ([l[p]] = [45]) := O1
   rw [show (⟨#[l[p]]⟩ : Str) = S [l[p]] from rfl,this]
   rw [Bool.eq_iff_iff,decide_eq_true_iff,decide_eq_true_iff,← hk]
   unfold sg
   rw [hr0]
   constructor
   ·intro h; rw [if_pos (by rw [List.singleton_inj.mp h])]
   ·intro h
    split at h
    ·rename_i h2; rw [Option.some.inj h2]
    ·omega
  rw [e1]
  refine R0 (fun c=>?_) (fun c=>?_)
  ·have c := of_decide_eq_true c
   exact ⟨_,rfl,_,_,rfl,rfl,by rw [c]; rfl,rfl⟩
  ·have c : k = 0 := by
    have : ¬ k = 1 := fun z=>c (decide_eq_true z)
    omega
   exact ⟨_,rfl,by rw [c]; rfl,rfl⟩
 rintro σ1 H1 ⟨rfl,rfl⟩
 refine ⟨fun σ' H'=>σ' = [some (.str (S l)),some (.int (p : Int)),some (.int ((p + k : Nat) : Int)),some (.str (S ((l.drop p).take (k + n)))),none] ∧ H' = H1,?_,?_⟩
 ·refine ⟨_,rfl,_,rfl,_,rfl,_,rfl,_,rfl,l,p + k,.ref fF,K2,rfl,hF,hpk,wl,_,rfl,_,rfl,Q1 wl,?_⟩
  have e := X3 l (i := p) (j := p + k + ((l.drop (p + k)).takeWhile K2).length) (by omega) (by omega)
  rw [e,hn,show p + k + n - p = k + n by omega]
  exact ⟨rfl,rfl⟩
 rintro σ2 H2 ⟨rfl,rfl⟩
 refine ⟨fun σ' H'=>σ' = [some (.str (S l)),some (.int (p : Int)),some (.int ((p + k : Nat) : Int)),some (.str (S ((l.drop p).take (k + n)))),some (.str (S ((l.drop (p + k)).takeWhile K2)))] ∧ H' = H2,?_,?_⟩
 ·refine ⟨_,rfl,_,rfl,_,rfl,_,_,rfl,rfl,_,rfl,_,rfl,Q1 (by omega),?_⟩
  have e := uQ ((l.drop p).take (k + n)) (i := k) (by omega)
  rw [show ((p + k : Nat) : Int) - (p : Int) = (k : Int) by omega,e,ef]
  exact ⟨rfl,rfl⟩
 rintro σ3 H3 ⟨rfl,rfl⟩
 have hnum : W8 (l.drop p) = if ((l.drop (p + k)).takeWhile K2) = [] ∨ 60 < ((l.drop (p + k)).takeWhile K2).length ∨ (((l.drop (p + k)).takeWhile K2).head? = some 48 ∧ (l.drop p).take (k + n) ≠ [48]) then none else some ((l.drop p).take (k + n)) := by
  unfold W8
  rw [hk,hdd,hn]
 have bad : ((l.drop (p + k)).takeWhile K2) = [] ∨ 60 < ((l.drop (p + k)).takeWhile K2).length ∨ (((l.drop (p + k)).takeWhile K2).head? = some 48 ∧ (l.drop p).take (k + n) ≠ [48]) → E (.ref C) none H3 := fun z=>q2 (by rw [hnum,if_pos z])
 have good : ¬ (((l.drop (p + k)).takeWhile K2) = [] ∨ 60 < ((l.drop (p + k)).takeWhile K2).length ∨ (((l.drop (p + k)).takeWhile K2).head? = some 48 ∧ (l.drop p).take (k + n) ≠ [48])) → Q (.str (S ((l.drop p).take (k + n)))) H3 := fun z=>q1 _ (by rw [hnum,if_neg z])
 have rz : (S ((l.drop p).take (k + n))).length ≤ 100000 ∧ (∀ c ∈ (S ((l.drop p).take (k + n))).cps.toList,c < 1114112) := ⟨by rw [O2]; omega,fun c hc=>hs.2 c (List.mem_of_mem_drop (List.mem_of_mem_take hc))⟩
 have fl : ((l.drop (p + k)).takeWhile K2).length ≤ 100000 := by omega
 generalize (l.drop (p + k)).takeWhile K2 = fs at bad good fl ⊢
 generalize (l.drop p).take (k + n) = wd at bad good rz ⊢
 refine ⟨_,rfl,rfl,_,rfl,?_⟩
 rw [rB,O1]
 refine R0 (fun c=>?_) (fun c0=>?_)
 ·exact E8 ⟨_,rfl,_,rfl,rz.1,rz.2,fun r=>⟨S4,bad (.inl (of_decide_eq_true c))⟩⟩
 have c0 : fs ≠ [] := fun z=>c0 (decide_eq_true z)
 refine ⟨_,rfl,_,rfl,Q1 fl,_,_,rfl,rfl,_,rfl,?_⟩
 refine R0 (fun c=>?_) (fun c1=>?_)
 ·have c : decide (((S fs).length : Nat) > (60 : Int)) = true := c
  have c := of_decide_eq_true c
  rw [O2] at c
  exact E8 ⟨_,rfl,_,rfl,rz.1,rz.2,fun r=>⟨S4,bad (.inr (.inl (by omega)))⟩⟩
 have c1 : ¬ 60 < fs.length := fun z=>c1 (decide_eq_true (by show ((S fs).length : Int) > 60; rw [O2]; omega))
 obtain ⟨c,r,rfl⟩ := List.exists_cons_of_ne_nil c0
 refine ⟨_,rfl,_,_,c,rfl,rfl,Q1 fl,G2 (j := 0) rfl,rfl,_,rfl,?_⟩
 rw [AZ4,show (⟨#[c]⟩ : Str) = S [c] from rfl,O1]
 refine R0 (fun c2=>?_) (fun c2=>?_)
 ·have c2 : c = 48 := List.singleton_inj.mp (of_decide_eq_true c2)
  subst c2
  refine ⟨_,rfl,rfl,_,rfl,?_⟩
  rw [O1]
  by_cases hw : wd = [48]
  ·rw [decide_eq_true hw]
   exact F0 ⟨_,rfl,good (fun z=>by
    rcases z with z | z | z
    ·cases z
    ·exact c1 z
    ·exact z.2 hw)⟩
  ·rw [decide_eq_false hw]
   exact E8 ⟨_,rfl,_,rfl,rz.1,rz.2,fun r=>⟨S4,bad (.inr (.inr ⟨rfl,hw⟩))⟩⟩
 ·have c2 : c ≠ 48 := fun z=>c2 (decide_eq_true (by rw [z]))
  exact F0 ⟨_,rfl,good (fun z=>by
   rcases z with z | z | z
   ·cases z
   ·exact c1 z
   ·exact c2 (Option.some.inj z.1))⟩
end
end Law
namespace Law
open PySem L2 L2.Sp
section
variable {P : Program} {w : World} {K : PySem.W.Frag} {mg : Str → Option Value} {base : Heap} {f : Addr} {fd : FuncData}
abbrev mZ : Stmt := O5 29
theorem AE4 : D7 ["text","place","end"] ["text","place"] (B3 mZ) := ⟨rfl,rfl,rfl,by decide +kernel,rfl,by decide +kernel,by decide +kernel⟩
theorem AF4 : (Str.ofString "\"" : Str) = S [34] := by decide +kernel
theorem AR5 {C fS : Addr} (F : Fun K "quoted_at" "quoted_at" mZ f fd) (RUN : Cal P w K mg base 2 "run_end" ["text","place","fits"] (kY P w K mg base)) (n : NT K mg C) (hF : zB P w K mg base 1 (.ref fS) (W6 U7)) (gF : mg "is_sign" = some (.ref fS)) :
  FnOk P w K mg base (M0 P w) 3 f fd ["text","place"] (cV aP C) := by
 refine Fun.ok1 F AE4 (fun vs H Q E h=>?_) (fun cdv A outer s H vs Q E hr h=>?_)
 ·obtain ⟨l,p,rfl,_⟩ := h
  rfl
 obtain ⟨l,p,rfl,hp,hs,q1,q2⟩ := h
 refine ⟨_,B2 (D3 (i := 2) AE4.nd rfl (Or.inl rfl) (E3 RUN hr rfl (A9 (pv 0) (A9 (G9 U0 (pv 1) B7) (A9 (Y9 (v := .ref fS) rfl gF rfl) B0)))))
  (B2 (G3 (E1 lM (T0 Z6 (pv 0) (N6 (pv 2)) (N6 (G9 U0 (pv 2) B7))) B9 (D9 _))
   (B4 (R6 PySem.F.excBase_ValueError n.xc rfl n.mg (A9 B9 B0))) E4)
  (B4 (D4 (T0 Z6 (pv 0) (N6 (pv 1)) (N6 (G9 U0 (pv 2) B7)))))),?_⟩
 have wl := hs.1
 have hdd : (l.drop p).drop 1 = l.drop (p + 1) := by rw [List.drop_drop]
 have hnl := kR U7 (l.drop (p + 1))
 rw [List.length_drop] at hnl
 have hquo : aP (l.drop p) = if (l.drop (p + 1 + ((l.drop (p + 1)).takeWhile U7).length)).take 1 = [34] then some ((l.drop p).take (2 + ((l.drop (p + 1)).takeWhile U7).length)) else none := by
  unfold aP
  rw [hdd,List.drop_drop,Nat.add_assoc]
 refine ⟨_,rfl,_,rfl,_,_,rfl,rfl,l,p + 1,.ref fS,U7,rfl,hF,by omega,wl,?_⟩
 generalize ((l.drop (p + 1)).takeWhile U7).length = n at hnl hquo ⊢
 refine ⟨_,rfl,_,rfl,_,rfl,_,rfl,_,_,rfl,rfl,_,rfl,_,rfl,Q1 wl,rfl,_,rfl,?_⟩
 have e1 := X3 l (i := p + 1 + n) (j := p + 1 + n + 1) (by omega) (by omega)
 have e2 := X3 l (i := p) (j := p + 1 + n + 1) (by omega) (by omega)
 rw [show ((p + 1 + n : Nat) : Int) + 1 = ((p + 1 + n + 1 : Nat) : Int) by omega,e1,show p + 1 + n + 1 - (p + 1 + n) = 1 by omega,AF4]
 have e3 : decide (V.str (S ((l.drop (p + 1 + n)).take 1)) = V.str (S [34])) = decide ((l.drop (p + 1 + n)).take 1 = [34]) := O1
 rw [e3]
 by_cases hq : (l.drop (p + 1 + n)).take 1 = [34]
 ·rw [decide_eq_true hq]
  refine F0 ⟨_,rfl,_,rfl,_,rfl,_,rfl,_,_,rfl,rfl,_,rfl,_,rfl,Q1 wl,?_⟩
  rw [show ((p + 1 + n : Nat) : Int) + 1 = ((p + 1 + n + 1 : Nat) : Int) by omega,e2,show p + 1 + n + 1 - p = 2 + n by omega]
  exact q1 _ (by rw [hquo,if_pos hq])
 ·rw [decide_eq_false hq]
  exact E8 ⟨S4,q2 (by rw [hquo,if_neg hq])⟩
abbrev iK : Stmt := O5 24
theorem wI : D7 ["text","place","sign"] ["text","place"] (B3 iK) := ⟨rfl,rfl,rfl,by decide +kernel,rfl,by decide +kernel,by decide +kernel⟩
theorem tL : (Str.ofString ".." : Str) = S [46,46] := by decide +kernel
theorem xN : (Str.ofString "{}[](),:?&|!@." : Str) = S T9 := by decide +kernel
theorem sD {k : Nat} {x : Str} {ps : List Str} {sp : List V → Hp → VK → Prop} (C : Cal P w K mg base k x ps (fun vs H Q _=>sp vs H Q)) : ∃ f,zB P w K mg base k (.ref f) sp ∧ mg x = some (.ref f) := by
 obtain ⟨f,fd,F,a,b,c⟩ := C.ex
 exact ⟨f,⟨f,fd,ps,rfl,F,b,c⟩,a⟩
theorem AJ6 {C : Addr} {st : Tok} (F : Fun K "word_at" "word_at" iK f fd) (RUN : Cal P w K mg base 2 "run_end" ["text","place","fits"] (kY P w K mg base)) (LET : Cal P w K mg base 1 "is_letter" ["sign"] (fun vs H Q _=>W6 P4 vs H Q))
  (FIG : Cal P w K mg base 1 "is_figure" ["sign"] (fun vs H Q _=>W6 K2 vs H Q)) (NUM : K8 P w K mg base 3 "number_at" ["text","place"] (cV W8 C)) (QUO : K8 P w K mg base 3 "quoted_at" ["text","place"] (cV aP C)) (n : NT K mg C)
  (gS : mg "SINGLE_SIGNS" = some (.str (Str.ofString "{}[](),:?&|!@.") st)) : FnOk P w K mg base (M0 P w) 4 f fd ["text","place"] (cV N0 C) := by
 refine Fun.ok1 F wI (fun vs H Q E h=>?_) (fun cdv A outer s H vs Q E hr h=>?_)
 ·obtain ⟨l,p,rfl,_⟩ := h
  rfl
 obtain ⟨l,p,rfl,hp,hs,q1,q2⟩ := h
 obtain ⟨fL,hL,gL⟩ := sD LET
 refine ⟨_,B2 (D3 (i := 2) wI.nd rfl (Or.inl rfl) (G5 aH (pv 0) (pv 1) (fun _ _=>rfl)))
  (B2 (G3 (O7 (E3 (LET.mono (by omega)) hr rfl (A9 (pv 2) B0)))
   (B4 (D4 (T0 Z6 (pv 0) (N6 (pv 1)) (N6 (E3 (RUN.mono (by omega)) hr rfl (A9 (pv 0) (A9 (pv 1) (A9 (Y9 (v := .ref fL) rfl gL rfl) B0)))))))) E4)
  (B2 (G3 (PW.pt (lI (E1 N4 (pv 2) B9 (D9 _)) (lH (O7 (E3 (FIG.mono (by omega)) hr rfl (A9 (pv 2) B0))))))
   (B4 (D4 (J9 NUM hr rfl (G0 (E' := E) fun _ _ _ h=>h) (A9 (pv 0) (A9 (pv 1) B0))))) E4)
  (B2 (G3 (E1 N4 (pv 2) B9 (D9 _))
   (B4 (D4 (J9 QUO hr rfl (G0 (E' := E) fun _ _ _ h=>h) (A9 (pv 0) (A9 (pv 1) B0))))) E4)
  (B2 (G3 (E1 N4 (T0 Z6 (pv 0) (N6 (pv 1)) (N6 (G9 U0 (pv 1) B7))) B9 (D9 _)) (B4 (D4 B9)) E4)
  (B2 (G3 (E1 wX (pv 2) (Y9 (v := .str (S T9)) rfl gS ⟨st,by rw [xN]⟩) rfl) (B4 (D4 (pv 2))) E4)
  (B4 (R6 PySem.F.excBase_ValueError n.xc rfl n.mg (A9 (AF0 (pv 2)) B0)))))))),?_⟩
 have wl := hs.1
 have hg : l[p]? = some l[p] := List.getElem?_eq_getElem hp
 have ed : l.drop p = l[p] :: l.drop (p + 1) := aI hg
 have hc0 := hs.2 l[p] (List.getElem_mem hp)
 refine ⟨_,rfl,_,rfl,_,_,l[p],rfl,rfl,Q1 wl,G2 hg,?_⟩
 have hw : N0 (l.drop p) = if P4 l[p] = true then some ((l.drop p).take ((l.drop p).takeWhile P4).length) else if l[p] = 45 ∨ K2 l[p] = true then W8 (l.drop p) else if l[p] = 34 then aP (l.drop p)
   else if (l.drop p).take 2 = [46,46] then some [46,46] else if l[p] ∈ T9 then some [l[p]] else none := by
  rw [ed,N0]
 refine ⟨_,rfl,l[p],rfl,_,rfl,?_⟩
 cases hcl : P4 l[p] with
 | true =>
  rw [hcl,if_pos rfl] at hw
  refine E8 ⟨_,rfl,_,rfl,_,rfl,_,rfl,_,rfl,l,p,.ref fL,P4,rfl,hL,by omega,wl,_,rfl,_,rfl,Q1 wl,?_⟩
  have e := X3 l (i := p) (j := p + ((l.drop p).takeWhile P4).length) (by omega) (by omega)
  rw [e,Nat.add_sub_cancel_left]
  exact q1 _ hw
 | false =>
 rw [hcl,if_neg (by simp)] at hw
 refine F0 ⟨_,rfl,rfl,_,rfl,?_⟩
 rw [vE,show (⟨#[l[p]]⟩ : Str) = S [l[p]] from rfl,O1]
 have num : (l[p] = 45 ∨ K2 l[p] = true) → cV W8 C [.str (S l),.int (p : Int)] H Q E := fun z=>by
  rw [if_pos z] at hw
  exact ⟨l,p,rfl,hp,hs,fun v hv=>q1 v (hw.trans hv),fun hv=>q2 (hw.trans hv)⟩
 refine R0 (fun c=>?_) (fun c1=>?_)
 ·exact E8 ⟨_,rfl,_,rfl,num (.inl (List.singleton_inj.mp (of_decide_eq_true c)))⟩
 have c1 : l[p] ≠ 45 := fun z=>c1 (decide_eq_true (by rw [z]))
 refine ⟨_,rfl,l[p],rfl,_,rfl,?_⟩
 cases hcf : K2 l[p] with
 | true=>exact E8 ⟨_,rfl,_,rfl,num (.inr hcf)⟩
 | false =>
 rw [if_neg (by rintro (z | z); exact c1 z; rw [hcf] at z; cases z)] at hw
 refine F0 ⟨_,rfl,rfl,_,rfl,?_⟩
 rw [AF4,O1]
 refine R0 (fun c=>?_) (fun c2=>?_)
 ·have c := List.singleton_inj.mp (of_decide_eq_true c)
  rw [if_pos c] at hw
  exact ⟨_,rfl,_,rfl,l,p,rfl,hp,hs,fun v hv=>q1 v (hw.trans hv),fun hv=>q2 (hw.trans hv)⟩
 have c2 : l[p] ≠ 34 := fun z=>c2 (decide_eq_true (by rw [z]))
 rw [if_neg c2] at hw
 refine ⟨_,rfl,_,rfl,_,rfl,_,rfl,_,_,rfl,rfl,_,rfl,_,rfl,Q1 wl,rfl,_,rfl,?_⟩
 have e := X3 l (i := p) (j := p + 2) (by omega) (by omega)
 rw [show ((p : Int) + 2) = ((p + 2 : Nat) : Int) by omega,e,Nat.add_sub_cancel_left,tL]
 have e3 : decide (V.str (S ((l.drop p).take 2)) = V.str (S [46,46])) = decide ((l.drop p).take 2 = [46,46]) := O1
 rw [e3]
 refine R0 (fun c=>?_) (fun c3=>?_)
 ·rw [if_pos (of_decide_eq_true c)] at hw
  show Q (.str (Str.ofString "..")) H
  rw [tL]
  exact q1 _ hw
 rw [if_neg (fun z=>c3 (decide_eq_true z))] at hw
 refine ⟨_,rfl,_,_,rfl,rfl,_,rfl,?_⟩
 have e4 : (!(Builtin.Str.occurrences (S T9) (S [l[p]]) 0 (S T9).length 1).isEmpty) = decide (l[p] ∈ T9) := StrLaws.found_one _ _
 rw [e4]
 refine R0 (fun c=>?_) (fun c4=>?_)
 ·rw [if_pos (of_decide_eq_true c)] at hw
  exact ⟨_,rfl,q1 _ hw⟩
 rw [if_neg (fun z=>c4 (decide_eq_true z))] at hw
 exact ⟨_,rfl,_,rfl,by show 1 ≤ 100000; omega,fun c hc=>by
  have hc : c ∈ [l[p]] := hc
  rw [List.mem_singleton.mp hc]; exact hc0,fun r=>⟨S4,q2 hw⟩⟩
end
end Law
namespace Law
open PySem L2 L2.Sp
theorem oZ {X : Cx} : S9 X (.builtin "isinstance") (fun xs H Q=>∃ v b,xs = [v,.ty "str"] ∧ ((∃ z,v = .str z ∧ b = true) ∨ (∃ d,DV X.K H d v ∧ gZ d "str" = b)) ∧ Q (.bl b) H) := by
 intro pins s σ H xs us Q I r h
 obtain ⟨v,b,rfl,h,q⟩ := h
 rcases h with ⟨z,rfl,rfl⟩ | ⟨d,hd,rfl⟩
 ·exact AC7 pins s σ H _ us Q I r ⟨_,_,true,rfl,rfl,q⟩
 ·exact yK pins s σ H _ us Q I r ⟨_,d,_,rfl,hd,.inr (.inl rfl),q⟩
section
variable {P : Program} {w : World} {K : PySem.W.Frag} {mg : Str → Option Value} {base : Heap} {f : Addr} {fd : FuncData}
abbrev dG : Stmt := O5 23
theorem dC : D7 ["text","words","place"] ["text"] (B3 dG) := ⟨rfl,rfl,rfl,by decide +kernel,rfl,by decide +kernel,by decide +kernel⟩
abbrev ST (ws : List (List Nat)) : List V := ws.map fun w=>V.str (S w)
def mQ (K : PySem.W.Frag) (C : Addr) : Sp := fun args H Q E=>∃ v,args = [v] ∧ ((∃ d,DV K H d v ∧ gZ d "str" = false ∧ E (.ref C) none H) ∨ ∃ l,v = .str (S l) ∧ S6 l ∧
 (∀ ws,E7 l = some ws → ∀ (H' : Hp) (p : Addr),H p = none → Same H H' → H' p = some (.lst (ST ws)) → Q (.ref p) H') ∧ (E7 l = none → ∀ H',Same H H' → E (.ref C) none H'))
theorem AZ3 : (Str.ofString " " : Str) = S [32] := by decide +kernel
theorem tK {ws ws' : List (List Nat)} {o : Option (List (List Nat))} : (o.map (ws' ++ ·)).map (ws ++ ·) = o.map ((ws ++ ws') ++ ·) := by
 cases o with
 | none=>rfl
 | some x=>simp
theorem AA1 {C : Addr} (F : Fun K "words_of" "words_of" dG f fd) (WORD : K8 P w K mg base 4 "word_at" ["text","place"] (cV N0 C)) (n : NT K mg C) (m1 : mg "len" = none) (m2 : mg "isinstance" = none) (m3 : mg "str" = none) :
  FnOk P w K mg base (M0 P w) 5 f fd ["text"] (mQ K C) := by
 refine Fun.ok1 F dC (fun vs H Q E h=>?_) (fun cdv A outer s H vs Q E hr h=>?_)
 ·obtain ⟨v,rfl,_⟩ := h
  rfl
 obtain ⟨v,rfl,h⟩ := h
 refine ⟨_,B2 (G3 (dS (O7 (G1 oZ rfl m2 rS (A9 (pv 0) (A9 (nM (v := .ty "str") rfl m3 rR rfl) B0)))))
   (B4 (R6 PySem.F.excBase_ValueError n.xc rfl n.mg (A9 B9 B0))) E4)
  (B2 (D3 (i := 1) dC.nd rfl (Or.inl rfl) (J0 B0))
  (B2 (D3 (i := 2) dC.nd rfl (Or.inl rfl) B7)
  (B2 (R5 PassesOwn.leaving (E1 fC (pv 2) (G1 V1 rfl m1 PySem.boot_len (A9 (pv 0) B0)) (D9 _))
   (B4 (G3 (E1 N4 (G5 aH (pv 0) (pv 2) (fun _ _=>rfl)) B9 (D9 _))
    (B4 (X9 (i := 2) dC.nd rfl (Or.inl rfl) B7 lX))
    (B2 (G4 (O0 PySem.F.plainAttrs_list PySem.F.slot_list_append PySem.F.type_list_append J7 (pv 1) (A9 (J9 WORD hr rfl (G0 (E' := E) fun _ _ _ h=>h) (A9 (pv 0) (A9 (pv 2) B0))) B0)))
    (B4 (X9 (i := 2) dC.nd rfl (Or.inl rfl) (G1 V1 rfl m1 PySem.boot_len (A9 (G5 K5 (pv 1) (AE8 vY B7) (fun _ _=>rfl)) B0)) lX))))))
  (B4 (D4 (pv 1)))))),?_⟩
 rcases h with ⟨d,hd,hf,e⟩ | ⟨l,rfl,hs,q1,q2⟩
 ·exact ⟨_,rfl,_,_,rfl,.inr ⟨d,hd,hf⟩,_,rfl,E8 ⟨S4,e⟩⟩
 have wl := hs.1
 refine ⟨_,rfl,_,_,rfl,.inl ⟨_,rfl,rfl⟩,_,rfl,F0 ?_⟩
 refine ⟨Y0,fun a ha=>?_⟩
 have g1 := B8 ha (.lst [])
 refine ⟨fun m σ H'=>∃ (p : Nat) (ws : List (List Nat)),σ = [some (.str (S l)),some (.ref a),some (.int (p : Int))] ∧ Same H H' ∧ H' a = some (.lst (ST ws)) ∧ m = l.length - p ∧ p ≤ l.length ∧ ws.length ≤ p ∧ E7 l = (E7 (l.drop p)).map (ws ++ ·),
  ⟨_,0,[],rfl,g1,B1,rfl,by omega,Nat.le_refl _,by
   show E7 l = (E7 l).map ([] ++ ·)
   cases E7 l with
   | none=>rfl
   | some x=>rfl⟩,?_⟩
 rintro m σ H' ⟨p,ws,rfl,g,hl,rfl,hp,hwl,hw⟩
 refine ⟨_,rfl,_,rfl,_,rfl,Q1 wl,_,_,rfl,rfl,_,rfl,R0 (fun c=>?_) (fun c=>?_)⟩
 ·have c : decide ((p : Int) < ((S l).length : Nat)) = true := c
  have hlt : p < l.length := by have := of_decide_eq_true c; rw [O2] at this; omega
  have hg : l[p]? = some l[p] := List.getElem?_eq_getElem hlt
  have ed : l.drop p = l[p] :: l.drop (p + 1) := aI hg
  refine ⟨fun σ' H''=>∃ (p' : Nat) (ws : List (List Nat)),σ' = [some (.str (S l)),some (.ref a),some (.int (p' : Int))] ∧ Same H H'' ∧ H'' a = some (.lst (ST ws)) ∧ p < p' ∧ p' ≤ l.length ∧ ws.length ≤ p' ∧ E7 l = (E7 (l.drop p')).map (ws ++ ·),fun σ' H'' h=>?_,?_⟩
  ·obtain ⟨p',ws',rfl,h1,h2,h3,h4,h5,h6⟩ := h
   exact ⟨l.length - p',by omega,p',ws',rfl,h1,h2,rfl,h4,h5,h6⟩
  refine ⟨_,rfl,_,rfl,_,_,l[p],rfl,rfl,Q1 wl,G2 hg,rfl,_,rfl,?_⟩
  rw [AZ3,show (⟨#[l[p]]⟩ : Str) = S [l[p]] from rfl,O1]
  refine R0 (fun c=>?_) (fun c=>?_)
  ·have c := List.singleton_inj.mp (of_decide_eq_true c)
   refine ⟨_,rfl,_,_,rfl,rfl,p + 1,ws,rfl,g,hl,by omega,by omega,by omega,?_⟩
   rw [hw,ed,c,jY]
  ·have c : l[p] ≠ 32 := fun z=>c (decide_eq_true (by rw [z]))
   have hh : (l.drop p).head? ≠ some 32 := by rw [ed]; intro z; exact c (Option.some.inj z)
   refine ⟨_,rfl,.inl ⟨rfl,_,SqL.of hl⟩,_,rfl,_,rfl,l,p,rfl,hlt,hs,fun v hv=>?_,fun hv=>?_⟩
   ·obtain ⟨v1,v2,v3⟩ := oE hv
    rw [List.length_drop] at v2
    refine ⟨a,_,_,rfl,rfl,hl,?_,?_⟩
    ·rw [List.length_map]; exact Nat.lt_of_le_of_lt (Nat.le_trans hwl (Nat.le_trans hp wl)) (by decide)
    have el : ST ws ++ [V.str (S v)] = ST (ws ++ [v]) := by simp [ST]
    refine ⟨_,rfl,_,rfl,_,rfl,a,_,_,_,rfl,rfl,SqL.of B1,AD4 _ _,_,rfl,Q1 (by omega),_,_,rfl,rfl,p + v.length,ws ++ [v],?_,fun b o h=>by rw [B5 (C0 h ha)]; exact g _ _ h,by rw [B1,el],by omega,by omega,by rw [List.length_append,List.length_singleton]; omega,?_⟩
    ·rfl
    ·rw [hw,kQ hh hv,List.drop_drop]
     exact tK (ws' := [v])
   ·have hn : E7 (l.drop p) = none := uE hh (fun z=>by rw [ed] at z; cases z) hv
    exact q2 (hw.trans (by rw [hn]; rfl)) H' g
 ·have c : ¬ decide ((p : Int) < ((S l).length : Nat)) = true := c
  have hge : l.length ≤ p := by
   refine Nat.le_of_not_lt fun z=>c (decide_eq_true ?_)
   rw [O2]; omega
  have h0 : l.drop p = [] := List.drop_eq_nil_of_le hge
  rw [h0,fU] at hw
  refine ⟨_,rfl,q1 ws ?_ H' a ha g hl⟩
  rw [hw]; simp
end
end Law
namespace Law
open PySem L2 L2.Sp
def Let (w : List Nat) : Prop := w ≠ [] ∧ ∀ c ∈ w,P4 c = true
def Num (w : List Nat) : Prop := ∃ sn fs,w = sn ++ fs ∧ (sn = [] ∨ sn = [45]) ∧ fs ≠ [] ∧ (∀ c ∈ fs,K2 c = true) ∧ fs.length ≤ 60 ∧ (fs.head? ≠ some 48 ∨ w = [48])
def Quo (w : List Nat) : Prop := ∃ b,(∀ c ∈ b,U7 c = true) ∧ w = 34 :: (b ++ [34])
def One (w : List Nat) : Prop := ∃ c,c ∈ T9 ∧ w = [c]
def T4 (w : List Nat) : Prop := Let w ∨ Num w ∨ Quo w ∨ w = [46,46] ∨ One w
def Fol (w s : List Nat) : Prop := ∀ d,s.head? = some d → (Let w → P4 d = false) ∧ (Num w → K2 d = false) ∧ (w = [46] → d ≠ 46)
theorem BA1 {c : Nat} (h : K2 c = true) : P4 c = false := by
 unfold K2 at h; unfold P4
 simp only [Bool.and_eq_true,decide_eq_true_eq] at h
 rw [decide_eq_false (by omega)]; rfl
theorem AF5 {c : Nat} (h : P4 c = true) : K2 c = false := by
 unfold P4 at h; unfold K2
 simp only [Bool.and_eq_true,decide_eq_true_eq] at h
 rw [decide_eq_false (show ¬ c ≤ 57 by omega),Bool.and_false]
theorem Z7 : ∀ c ∈ T9,P4 c = false ∧ K2 c = false ∧ c ≠ 45 ∧ c ≠ 34 ∧ c ≠ 32 := by decide
theorem AW5 {c : Nat} (h : K2 c = true) : c ≠ 45 ∧ c ≠ 32 ∧ c ≠ 34 ∧ c ≠ 46 := by
 unfold K2 at h
 simp only [Bool.and_eq_true,decide_eq_true_eq] at h
 omega
theorem AW1 {c : Nat} (h : P4 c = true) : c ≠ 45 ∧ c ≠ 32 ∧ c ≠ 34 ∧ c ≠ 46 := by
 unfold P4 at h
 simp only [Bool.and_eq_true,decide_eq_true_eq] at h
 omega
theorem Num.head {w : List Nat} (h : Num w) : ∃ c,w.head? = some c ∧ (c = 45 ∨ K2 c = true) := by
 obtain ⟨sn,fs,rfl,hsn,hne,hf,_⟩ := h
 obtain ⟨c,r,rfl⟩ := List.exists_cons_of_ne_nil hne
 rcases hsn with rfl | rfl
 ·exact ⟨c,rfl,.inr (hf c (by simp))⟩
 ·exact ⟨45,rfl,.inl rfl⟩
theorem Let.head {w : List Nat} (h : Let w) : ∃ c,w.head? = some c ∧ P4 c = true := by
 obtain ⟨hne,hl⟩ := h
 obtain ⟨c,r,rfl⟩ := List.exists_cons_of_ne_nil hne
 exact ⟨c,rfl,hl c (by simp)⟩
theorem sF {w : List Nat} (h : Let w) (h' : Num w) : False := by
 obtain ⟨c,e,hc⟩ := h.head
 obtain ⟨c',e',hc'⟩ := h'.head
 rw [e] at e'; cases e'
 rcases hc' with rfl | hc'
 ·cases hc
 ·rw [AF5 hc] at hc'; cases hc'
theorem xG {w s : List Nat} (h : Num w) (hs : ∀ d,s.head? = some d → K2 d = false) : W8 (w ++ s) = some w := by
 obtain ⟨sn,fs,rfl,hsn,hne,hf,hlen,h0⟩ := h
 obtain ⟨c,r,rfl⟩ := List.exists_cons_of_ne_nil hne
 have htw : ((c :: r) ++ s).takeWhile K2 = c :: r := kS K2 hf hs
 have key : ∀ k,sg (sn ++ (c :: r) ++ s) = k → k = sn.length → W8 (sn ++ (c :: r) ++ s) = some (sn ++ (c :: r)) := fun k hk hl=>by
  have hd : (sn ++ (c :: r) ++ s).drop k = (c :: r) ++ s := by rw [hl,List.append_assoc,List.drop_left]
  have ht : (sn ++ (c :: r) ++ s).take (k + (c :: r).length) = sn ++ (c :: r) := by
   rw [hl,← List.length_append,List.take_left]
  unfold W8
  rw [hk,hd,htw,ht,if_neg]
  rintro (z | z | z)
  ·cases z
  ·omega
  ·rcases h0 with h0 | h0
   ·exact h0 z.1
   ·exact z.2 h0
 rcases hsn with rfl | rfl
 ·refine key 0 ?_ rfl
  unfold sg
  rw [if_neg]
  intro z
  exact (AW5 (hf c (by simp))).1 (Option.some.inj z)
 ·exact key 1 rfl rfl
theorem AN9 {w s : List Nat} (h : T4 w) (hf : Fol w s) : N0 (w ++ s) = some w := by
 rcases h with h | h | h | rfl | h
 ·have htw : (w ++ s).takeWhile P4 = w := kS P4 h.2 fun d hd=>(hf d hd).1 h
  obtain ⟨c,r,rfl⟩ := List.exists_cons_of_ne_nil h.1
  have hc := h.2 c (by simp)
  show N0 (c :: (r ++ s)) = _
  rw [N0,if_pos hc]
  have : (c :: (r ++ s)).takeWhile P4 = c :: r := htw
  rw [this]
  show some ((c :: r ++ s).take (c :: r).length) = _
  rw [List.take_left]
 ·have hn := xG h (s := s) fun d hd=>(hf d hd).2.1 h
  obtain ⟨c,e,hc⟩ := h.head
  obtain ⟨r,rfl⟩ : ∃ r,w = c :: r := by
   cases w with
   | nil=>cases e
   | cons a r=>cases e; exact ⟨r,rfl⟩
  have hl : P4 c = false := by
   rcases hc with rfl | hc
   ·rfl
   ·exact BA1 hc
  show N0 (c :: (r ++ s)) = _
  rw [N0,if_neg (by rw [hl]; simp),if_pos hc]
  exact hn
 ·obtain ⟨b,hb,rfl⟩ := h
  show N0 (34 :: (b ++ [34] ++ s)) = _
  rw [N0,if_neg (by decide),if_neg (by decide),if_pos rfl]
  have htw : (b ++ [34] ++ s).takeWhile U7 = b := by
   rw [List.append_assoc]
   exact kS U7 hb fun d hd=>by cases hd; decide
  unfold aP
  have e1 : (34 :: (b ++ [34] ++ s)).drop 1 = b ++ [34] ++ s := rfl
  rw [e1,htw]
  have e2 : (34 :: (b ++ [34] ++ s)).drop (1 + b.length) = [34] ++ s := by
   rw [Nat.add_comm 1,List.drop_succ_cons,List.append_assoc,List.drop_left]
  have e3 : (34 :: (b ++ [34] ++ s)).take (2 + b.length) = 34 :: (b ++ [34]) := by
   have : 2 + b.length = (34 :: (b ++ [34])).length := by simp; omega
   rw [this]
   show ((34 :: (b ++ [34])) ++ s).take _ = _
   rw [List.take_left]
  rw [e2,e3]
  rfl
 ·show N0 (46 :: 46 :: s) = _
  rw [N0,if_neg (by decide),if_neg (by decide),if_neg (by decide),if_pos (show List.take 2 (46 :: 46 :: s) = [46,46] from rfl)]
 ·obtain ⟨c,hc,rfl⟩ := h
  obtain ⟨h1,h2,h3,h4,_⟩ := Z7 c hc
  show N0 (c :: s) = _
  rw [N0,if_neg (by rw [h1]; simp),if_neg (by rintro (z | z); exact h3 z; rw [h2] at z; cases z),if_neg h4,if_neg,if_pos hc]
  intro z
  cases s with
  | nil=>cases z
  | cons d r =>
   have z : c :: d :: [] = [46,46] := z
   cases z
   exact (hf 46 rfl).2.2 rfl rfl
theorem pY {w : List Nat} (h : T4 w) : ∃ c,w.head? = some c ∧ c ≠ 32 := by
 rcases h with h | h | h | rfl | h
 ·obtain ⟨c,e,hc⟩ := h.head
  exact ⟨c,e,(AW1 hc).2.1⟩
 ·obtain ⟨c,e,hc⟩ := h.head
  refine ⟨c,e,?_⟩
  rcases hc with rfl | hc
  ·decide
  ·exact (AW5 hc).2.1
 ·obtain ⟨b,_,rfl⟩ := h
  exact ⟨34,rfl,by decide⟩
 ·exact ⟨46,rfl,by decide⟩
 ·obtain ⟨c,hc,rfl⟩ := h
  exact ⟨c,rfl,(Z7 c hc).2.2.2.2⟩
theorem vV {w s : List Nat} (h : T4 w) (hf : Fol w s) : E7 (w ++ s) = (E7 s).map (w :: ·) := by
 obtain ⟨c,e,hc⟩ := pY h
 have hh : (w ++ s).head? ≠ some 32 := by
  cases w with
  | nil=>cases e
  | cons a r =>
   cases e
   intro z
   exact hc (Option.some.inj z)
 rw [kQ hh (AN9 h hf),List.drop_left]
def Line (line : List Nat) (due : List (List Nat)) (last : List Nat) : Prop :=
 (line = [] ∧ due = [] ∧ last = []) ∨ ∃ l0 d0 w,line = l0 ++ w ∧ due = d0 ++ [w] ∧ T4 w ∧ T4 last ∧ (∀ s,s.head? = w.head? → E7 (l0 ++ s) = (E7 s).map (d0 ++ ·)) ∧ (w = last ∨ (Let w ∧ Let last))
theorem Line.nil : Line [] [] [] := .inl ⟨rfl,rfl,rfl⟩
theorem Line.all {line last s : List Nat} {due : List (List Nat)} (h : Line line due last) (hf : Fol last s) : E7 (line ++ s) = (E7 s).map (due ++ ·) := by
 rcases h with ⟨rfl,rfl,rfl⟩ | ⟨l0,d0,w,rfl,rfl,hw,hl,ha,hwl⟩
 ·show E7 s = (E7 s).map ([] ++ ·)
  cases E7 s <;> rfl
 ·have hfw : Fol w s := by
   rcases hwl with rfl | ⟨h1,h2⟩
   ·exact hf
   ·exact fun d hd=>⟨fun _=>(hf d hd).1 h2,fun z=>(sF h1 z).elim,fun z=>by
     subst z
     have := h1.2 46 (by simp)
     cases this⟩
  obtain ⟨c,e,hc⟩ := pY hw
  have hh : (w ++ s).head? = w.head? := by
   cases w with
   | nil=>cases e
   | cons a r=>rfl
  rw [List.append_assoc,ha (w ++ s) hh,vV hw hfw]
  exact tK (ws' := [w])
theorem Fol.sp {w s : List Nat} : Fol w (32 :: s) := fun d hd=>by
 cases hd
 exact ⟨fun _=>by decide,fun _=>by decide,fun _=>by decide⟩
theorem Fol.nil {w : List Nat} : Fol w [] := fun d hd=>by cases hd
theorem oC (g : Nat) (s : List Nat) : E7 (List.replicate g 32 ++ s) = E7 s := by
 induction g with
 | zero=>rfl
 | succ g ih =>
  rw [List.replicate_succ,List.cons_append,jY,ih]
theorem Fol.head {w s s' : List Nat} (h : Fol w s) (e : s'.head? = s.head?) : Fol w s' := fun d hd=>h d (e ▸ hd)
theorem Line.gap {line last p : List Nat} {due : List (List Nat)} {g : Nat} (h : Line line due last) (hg : 0 < g) (hp : T4 p) : Line (line ++ List.replicate g 32 ++ p) (due ++ [p]) p := by
 refine .inr ⟨line ++ List.replicate g 32,due,p,rfl,rfl,hp,hp,fun s _=>?_,.inl rfl⟩
 obtain ⟨k,rfl⟩ : ∃ k,g = k + 1 := ⟨g - 1,by omega⟩
 rw [List.append_assoc,h.all (by rw [List.replicate_succ]; exact Fol.sp),oC]
theorem Line.zero {line last p : List Nat} {due : List (List Nat)} (h : Line line due last) (hp : T4 p) (hf : Fol last p) : Line (line ++ p) (due ++ [p]) p :=
 .inr ⟨line,due,p,rfl,rfl,hp,hp,fun s hs=>h.all (hf.head hs),.inl rfl⟩
theorem Line.ends {line last : List Nat} {due : List (List Nat)} (h : Line line due last) : E7 line = some due := by
 have e := h.all (s := []) Fol.nil
 rw [List.append_nil,fU] at e
 rw [e]; simp
theorem Line.bad {line last s : List Nat} {due : List (List Nat)} (h : Line line due last) (hn : E7 s = none) : E7 (line ++ (32 :: s)) = none := by
 rw [h.all Fol.sp,jY,hn]; rfl
end Law
namespace Law
open PySem L2 L2.Sp
inductive Tn where
 | non
 | bl (b : Bool)
 | int (i : Int)
 | str (w : List Nat)
 | tup (ts : List Tn)
mutual
def TV (K : PySem.W.Frag) (H : Hp) : Tn → V → Prop
 | .non,v=>v = .non
 | .bl b,v=>v = .bl b
 | .int i,v=>v = .int i
 | .str w,v=>v = .str (S w)
 | .tup ts,v=>∃ a ys,v = .ref a ∧ SqT K H a ys ∧ TAll K H ts ys
def TAll (K : PySem.W.Frag) (H : Hp) : List Tn → List V → Prop
 | [],ys=>ys = []
 | t :: ts,ys=>∃ y r,ys = y :: r ∧ TV K H t y ∧ TAll K H ts r
end
section
variable {K : PySem.W.Frag} {H H' : Hp}
mutual
theorem TV.mono (k : ∀ a ys,SqT K H a ys → SqT K H' a ys) : ∀ (t : Tn) (v : V),TV K H t v → TV K H' t v
 | .non,v,h=>by simp only [TV] at h ⊢; exact h
 | .bl b,v,h=>by simp only [TV] at h ⊢; exact h
 | .int i,v,h=>by simp only [TV] at h ⊢; exact h
 | .str x,v,h=>by simp only [TV] at h ⊢; exact h
 | .tup ts,v,h=>by
  simp only [TV] at h ⊢
  obtain ⟨a,ys,e,hq,hd⟩ := h
  exact ⟨a,ys,e,k a ys hq,TAll.mono k ts ys hd⟩
theorem TAll.mono (k : ∀ a ys,SqT K H a ys → SqT K H' a ys) : ∀ (ts : List Tn) (vs : List V),TAll K H ts vs → TAll K H' ts vs
 | [],vs,h=>by simp only [TAll] at h ⊢; exact h
 | t :: ts,vs,h=>by
  simp only [TAll] at h ⊢
  obtain ⟨y,r,e,h1,h2⟩ := h
  exact ⟨y,r,e,TV.mono k t y h1,TAll.mono k ts r h2⟩
end
theorem TAll.length : ∀ {ts : List Tn} {vs : List V},TAll K H ts vs → vs.length = ts.length
 | [],vs,h=>by simp only [TAll] at h; subst h; rfl
 | t :: ts,vs,h=>by
  simp only [TAll] at h
  obtain ⟨y,r,e,_,h2⟩ := h
  subst e
  rw [List.length_cons,List.length_cons,TAll.length h2]
theorem TAll.append : ∀ {ts us : List Tn} {vs xs : List V},TAll K H ts vs → TAll K H us xs → TAll K H (ts ++ us) (vs ++ xs)
 | [],us,vs,xs,h,h'=>by simp only [TAll] at h; subst h; exact h'
 | t :: ts,us,vs,xs,h,h'=>by
  simp only [TAll] at h
  obtain ⟨y,r,e,h1,h2⟩ := h
  subst e
  simp only [List.cons_append,TAll]
  exact ⟨y,r ++ xs,rfl,h1,TAll.append h2 h'⟩
theorem TAll.nil : TAll K H [] [] := by simp only [TAll]
theorem TAll.one {t : Tn} {v : V} (h : TV K H t v) : TAll K H [t] [v] := by simp only [TAll]; exact ⟨v,[],rfl,h,rfl⟩
theorem TAll.cons {t : Tn} {v : V} {ts : List Tn} {vs : List V} (h : TV K H t v) (h2 : TAll K H ts vs) : TAll K H (t :: ts) (v :: vs) := by simp only [TAll]; exact ⟨v,vs,rfl,h,h2⟩
theorem TV.tup {a : Addr} {ys : List V} {ts : List Tn} (h : SqT K H a ys) (h2 : TAll K H ts ys) : TV K H (.tup ts) (.ref a) := by simp only [TV]; exact ⟨a,ys,rfl,h,h2⟩
theorem TV.str {w : List Nat} : TV K H (.str w) (.str (S w)) := by simp only [TV]
theorem TV.int {i : Int} : TV K H (.int i) (.int i) := by simp only [TV]
theorem TV.bl {b : Bool} : TV K H (.bl b) (.bl b) := by simp only [TV]
theorem TV.non : TV K H .non .non := by simp only [TV]
theorem TAll.strs (ws : List (List Nat)) : TAll K H (ws.map Tn.str) (ST ws) := by
 induction ws with
 | nil=>exact TAll.nil
 | cons w ws ih=>exact TAll.cons TV.str ih
theorem Grow.tups {st : Addr} (g : Grow st H H') (h1 : ∀ xs,H st ≠ some (.tup xs)) (h2 : ∀ xs o,H st ≠ some (.frz o (.tup xs))) : ∀ a ys,SqT K H a ys → SqT K H' a ys := fun a ys h =>
 h.keep fun b u=>⟨fun q=>g b _ (fun e=>by subst e; exact h1 u q) q,fun o q=>g b _ (fun e=>by subst e; exact h2 u o q) q⟩
end
abbrev Wd := List Nat
abbrev R9 := Option (Tn × List Wd)
def hd (r : List Wd) : Wd := r.headD []
def E2 (w : Wd) : Bool := decide (w ≠ []) && w.all P4
def O8 (w : Wd) : Bool := match w with
 | []=>false
 | c :: _=>decide (c = 45) || K2 c
def nV (w : List Nat) : Nat := w.foldl (fun n c=>n * 10 + (c - 48)) 0
def N3 (w : Wd) : Int := match w with
 | 45 :: r=>-(nV r : Int)
 | _=>(nV w : Int)
def U9 : List Wd := [[110,111,110,101],[121,101,115],[110,111],[116,114,117,116,104],[110,117,109,98,101,114],[116,101,120,116],[108,105,115,116],[114,101,99,111,114,100],[97,110,121],[110,111,116,104,105,110,103]]
def cP : Wd := [119,111,114,100]
def jF : Wd := [115,112,97,110]
def lT : Wd := [116,101,120,116]
def Y1 : Wd := [112,108,97,99,101]
def vF : Wd := [110,111,116]
def Y2 : Wd := [97,110,100]
def eG : Wd := [111,114]
def jG : Wd := [108,105,115,116]
def nT : Wd := [114,101,99,111,114,100]
def M2 (a b : Tn) : Tn := .tup [.str jF,a,b]
def one (k : Wd) (ts : List Tn) : Tn := match ts with
 | [t]=>t
 | _=>.tup [.str k,.tup ts]
def uY : Nat → Tn → Tn
 | 0,t=>t
 | n + 1,t=>.tup [.str vF,uY n t]
inductive V2 : Nat → List Wd → List Wd → Option (List Wd × List Wd) → Prop
 | stop {ns r} : hd r ≠ [46] → V2 0 ns r (some (ns,r))
 | on {k ns n r res} : E2 n = true → V2 k (ns ++ [n]) r res → V2 (k + 1) ns ([46] :: n :: r) res
 | bad {ns r} : E2 (hd r) = false → V2 1 ns ([46] :: r) none
def S5 (r : List Wd) (res : Option (List Wd × List Wd)) : Prop :=
 if E2 (hd r) = true then ∃ k,V2 k [hd r] r.tail res else res = none
def O4 (close : Wd) (n : Nat) (r : List Wd) : Option (Bool × List Wd) :=
 if hd r = close then some (false,r)
 else if 0 < n then (if hd r = [44] then some (!(decide (hd r.tail = [46,46]) && decide (hd r.tail.tail = close)),r.tail) else none)
 else some (!(decide (hd r = [46,46]) && decide (hd r.tail = close)),r)
def aL (close : Wd) (r : List Wd) : Option (Bool × List Wd) :=
 if hd r = [46,46] then (if hd r.tail = close then some (true,r.tail.tail) else none) else (if hd r = close then some (false,r.tail) else none)
section
variable (X : Bool → List Wd → R9 → Prop)
def AV6 (free : Bool) (r : List Wd) (res : R9) : Prop := ∃ xres,X free r xres ∧ res = match xres with
 | none=>none
 | some (t,r1)=>if hd r1 = [41] then some (t,r1.tail) else none
inductive S8 : Nat → List Tn → List Wd → Option (List Tn × List Wd) → Prop
 | stop {ts r r1} : O4 [93] ts.length r = some (false,r1) → S8 0 ts r (some (ts,r1))
 | on {k ts r r1 t r2 res} : O4 [93] ts.length r = some (true,r1) → X false r1 (some (t,r2)) → S8 k (ts ++ [t]) r2 res → S8 (k + 1) ts r res
 | bad {ts r} : O4 [93] ts.length r = none → S8 0 ts r none
 | worse {ts r r1} : O4 [93] ts.length r = some (true,r1) → X false r1 none → S8 0 ts r none
def mO (r : List Wd) (res : R9) : Prop := ∃ k ires,S8 X k [] r ires ∧ res = match ires with
 | none=>none
 | some (ts,r1)=>(aL [93] r1).map fun p=>(.tup [.str jG,.tup ts,.bl p.1],p.2)
def R7 (r : List Wd) (res : Option ((Wd × Tn × Bool) × List Wd)) : Prop :=
  if E2 (hd r) = true then
    (if hd r.tail = [63] then (if hd r.tail.tail = [58] then ∃ xres, X false r.tail.tail.tail xres ∧ res = xres.map fun p => ((hd r, p.1, false), p.2) else res = none)
     else (if hd r.tail = [58] then ∃ xres, X false r.tail.tail xres ∧ res = xres.map fun p => ((hd r, p.1, true), p.2) else res = none))
  else res = none
inductive P1 : Nat → List (Wd × Tn × Bool) → List Wd → Option (List (Wd × Tn × Bool) × List Wd) → Prop
 | stop {fs r r1} : O4 [125] fs.length r = some (false,r1) → P1 0 fs r (some (fs,r1))
 | on {k fs r r1 f r2 res} : O4 [125] fs.length r = some (true,r1) → R7 X r1 (some (f,r2)) → f.1 ∉ fs.map (·.1) → P1 k (fs ++ [f]) r2 res → P1 (k + 1) fs r res
 | bad {fs r} : O4 [125] fs.length r = none → P1 0 fs r none
 | worse {fs r r1} : O4 [125] fs.length r = some (true,r1) → R7 X r1 none → P1 0 fs r none
 | twice {fs r r1 f r2} : O4 [125] fs.length r = some (true,r1) → R7 X r1 (some (f,r2)) → f.1 ∈ fs.map (·.1) → P1 0 fs r none
def fO (f : Wd × Tn × Bool) : Tn := .tup [.str f.1,f.2.1,.bl f.2.2]
def rW (r : List Wd) (res : R9) : Prop := ∃ k fres,P1 X k [] r fres ∧ res = match fres with
 | none=>none
 | some (fs,r1)=>(aL [125] r1).map fun p=>(.tup [.str nT,.tup (fs.map fO),.bl p.1],p.2)
def R4 (free : Bool) (r : List Wd) (res : R9) : Prop :=
  if hd r = [40] then AV6 X free r.tail res
  else if hd r = [91] then mO X r.tail res
  else if hd r = [123] then rW X r.tail res
  else if hd r = [64] ∧ free = true then ∃ nres, S5 r.tail nres ∧ res = nres.map fun p => (.tup [.str Y1, .tup (p.1.map Tn.str)], p.2)
  else if hd r = [46, 46] ∧ O8 (hd r.tail) = true then res = some (M2 .non (.int (N3 (hd r.tail))), r.tail.tail)
  else if O8 (hd r) = true then
    (if hd r.tail = [46, 46] then (if O8 (hd r.tail.tail) = true then res = some (M2 (.int (N3 (hd r))) (.int (N3 (hd r.tail.tail))), r.tail.tail.tail) else res = some (M2 (.int (N3 (hd r))) .non, r.tail.tail))
     else res = some (M2 (.int (N3 (hd r))) (.int (N3 (hd r))), r.tail))
  else if (hd r).take 1 = [34] then res = some (.tup [.str lT, .str ((hd r).drop 1).dropLast], r.tail)
  else if hd r ∈ U9 then res = some (.tup [.str cP, .str (hd r)], r.tail)
  else res = none
def O9 (r : List Wd) : Nat := (r.takeWhile (· == [33])).length
def bW (free : Bool) (r : List Wd) (res : R9) : Prop := ∃ sres,R4 X (free && decide (O9 r = 0)) (r.drop (O9 r)) sres ∧ res = sres.map fun p=>(uY (O9 r) p.1,p.2)
inductive U6 : Nat → Bool → List Tn → List Tn → List Wd → R9 → Prop
 | stop {free alts parts r} : hd r ≠ [38] → hd r ≠ [124] → U6 0 free alts parts r (some (one eG (alts ++ [one Y2 parts]),r))
 | and {k free alts parts r t r1 res} : bW X free r (some (t,r1)) → U6 k free alts (parts ++ [t]) r1 res → U6 (k + 1) free alts parts ([38] :: r) res
 | or {k free alts parts r t r1 res} : bW X free r (some (t,r1)) → U6 k free (alts ++ [one Y2 parts]) [t] r1 res → U6 (k + 1) free alts parts ([124] :: r) res
 | bad {free alts parts w r} : w = [38] ∨ w = [124] → bW X free r none → U6 1 free alts parts (w :: r) none
def sE (free : Bool) (r : List Wd) (res : R9) : Prop := ∃ nres,bW X free r nres ∧ match nres with
 | none=>res = none
 | some (t,r1)=>∃ k,U6 X k free [] [t] r1 res
end
def P6 : Nat → Bool → List Wd → R9 → Prop
 | 0=>fun _ _ _=>False
 | n + 1=>sE (P6 n)
end Law
namespace L2
open PySem PySem.Spec PyProof.Rows
section
variable {X : Cx}
theorem iA : S9 X (.type "int") (fun xs H Q=>∃ z n,xs = [.str z] ∧ PySem.intText? z = some n ∧ z.length ≤ 640 ∧ Q (.int n) H) := by
 intro pins s σ H xs us Q I r h
 obtain ⟨z,n,rfl,hn,hl,q⟩ := h
 obtain ⟨u,rfl,ru⟩ := bX r
 obtain ⟨t,rfl⟩ := ru
 exact PySem.W.KIN.call_text hn hl ⟨.int n,H,I.tok _,⟨_,rfl⟩,q⟩
theorem yI : S9 X (.type "str") (fun xs H Q=>∃ n,xs = [.int n] ∧ n.natAbs.log2 < 1920 ∧ Q (.str (Str.ofString (toString n))) H) := by
 intro pins s σ H xs us Q I r h
 obtain ⟨n,rfl,hn,q⟩ := h
 obtain ⟨u,rfl,ru⟩ := bX r
 obtain ⟨t,rfl⟩ := ru
 exact P.str_of_int hn ⟨.str _,H,I.tok _,⟨_,rfl⟩,q⟩
def TJ := St → Hp → (Hp → Prop) → Prop
def PJ (X : Cx) (es : List Expr) (n : Nat) (t : TJ) : Prop := ∀ (pins : List (Addr × Obj)) (s : Shared) (σ : St) (H : Hp) (Qh : Hp → Prop) (acc : Str),Inv X pins σ H s → acc.length + n * 1100000 ≤ sizeLine → t σ H Qh →
 Joins (model X.prog X.w) X.A X.xe (evalEach es X.env) acc (fun out s'=>out.length ≤ sizeLine ∧ ∃ H',Inv X pins σ H' s' ∧ Qh H') s
def BF5 : TJ := fun _ H Q=>Q H
def jFr (te : TE) (t : TJ) : TJ := fun σ H Q=>te σ H fun x H1=>∃ z,x = .str z ∧ z.length ≤ 100000 ∧ (∀ c ∈ z.cps.toList,c < 1114112) ∧ t σ H1 Q
theorem dU : PJ X [] 0 BF5 := fun pins s σ H Qh acc I hl h=>⟨by omega,H,I,h⟩
theorem W2 {y : Str} {j : Nat} {p : Pos} {es : List Expr} {n : Nat} {t : TJ} (he : PJ X es n t) (hy : y.length ≤ 100000 := by decide) : PJ X (.Constant (.str y) j p :: es) (n + 1) t := by
 intro pins s σ H Qh acc I hl h
 show wpAny _ _ (eval (.Constant (.str y) j p) X.env) _ _ s
 refine Calls.Constant_str ⟨y,_,rfl,by rw [strLen_append]; omega,?_⟩
 exact he pins _ σ H Qh (acc ++ y) (I.tok _) (by rw [strLen_append]; omega) h
theorem lL {e : Expr} {te : TE} {p : Pos} {es : List Expr} {n : Nat} {t : TJ} (hx : PE X e te) (he : PJ X es n t) : PJ X (.FormattedValue e 114 none p :: es) (n + 1) (jFr te t) := by
 intro pins s σ H Qh acc I hl h
 show wpAny _ _ (eval (.FormattedValue e 114 none p) X.env) _ _ s
 have ln : sizeLine = 16777216 := sizeLine_eq
 refine wpAny_FormattedValue_repr (D8 (hx pins s σ H _ I h) fun v s1 ⟨x,H1,I1,r1,q1⟩=>?_)
 obtain ⟨z,rfl,hz,hc,q⟩ := q1
 obtain ⟨t',rfl⟩ := r1
 have hr := StrLaws.reprText_len z (fun c hc'=>Nat.lt_trans (hc c hc') (by decide))
 refine wpAny_pyReprObj_str ?_ (by omega)
 refine formatField_str (fun t' tk=>?_) (by omega)
 refine ⟨_,_,rfl,by rw [strLen_append]; omega,?_⟩
 exact he pins _ σ H1 Qh _ (I1.tok _) (by rw [strLen_append]; omega) q
theorem lU {M : Model} {A : Around} {E : Value → Shared → Prop} : ∀ {parts : List (Sem Value)} {acc : Str} {Q Q' : Str → Shared → Prop} {s : Shared},Joins M A E parts acc Q s → (∀ o s',Q o s' → Q' o s') → Joins M A E parts acc Q' s
 | [],acc,Q,Q',s,h,k=>k _ _ h
 | x :: rest,acc,Q,Q',s,h,k=>wpAny_mono (show wpAny M A x _ E s from h) (fun v s1 ⟨y,t,e,hl,hj⟩=>⟨y,t,e,hl,lU hj k⟩) fun _ _ z=>z
theorem aZ {a b : Expr} {es : List Expr} {n : Nat} {t : TJ} {pos : Pos} (h : PJ X (a :: b :: es) n t) (hn : n ≤ 10 := by decide) : PE X (.JoinedStr (a :: b :: es) pos) (fun σ H Q=>t σ H fun H1=>∀ r,Q (.str r) H1) := by
 intro pins s σ H Q I q
 refine wpAny_JoinedStr ?_
 have ln : sizeLine = 16777216 := sizeLine_eq
 have e := h pins s σ H (fun H1=>∀ r,Q (.str r) H1) Str.empty I (by show 0 + n * 1100000 ≤ sizeLine; omega) q
 refine lU e fun out s' hq=>?_
 obtain ⟨hl,H',I',q'⟩ := hq
 exact ⟨hl,.str out,H',I'.tok _,⟨_,rfl⟩,q' out⟩
end
end L2
namespace Law
open PySem L2 L2.Sp
def Y4 (s : Stmt) (x : Str) : Stmt := match s with
 | .ClassDef _ _ _ body _ _ _ _ _ _ _=>(body.find? fun st=>match st with | .FunctionDef n _ _ _ _ _ _ _ _ _=>n == x | _=>false).getD (.Pass ⟨0,0,0,0⟩)
 | s=>s
abbrev dL : Stmt := O5 32
abbrev iV : Stmt := Y4 dL "__init__"
abbrev dR : Stmt := Y4 dL "ahead"
abbrev iM : Stmt := Y4 dL "take"
abbrev dH : Stmt := Y4 dL "takes"
abbrev iS : Stmt := Y4 dL "must_take"
theorem AP5 : D7 ["self","text"] ["self","text"] (B3 iV) := ⟨rfl,rfl,rfl,by decide +kernel,rfl,by decide +kernel,by decide +kernel⟩
theorem sW : D7 ["self","steps","place"] ["self","steps"] (B3 dR) := ⟨rfl,rfl,rfl,by decide +kernel,rfl,by decide +kernel,by decide +kernel⟩
theorem wK : D7 ["self","word"] ["self"] (B3 iM) := ⟨rfl,rfl,rfl,by decide +kernel,rfl,by decide +kernel,by decide +kernel⟩
theorem AH9 : D7 ["self","word"] ["self","word"] (B3 dH) := ⟨rfl,rfl,rfl,by decide +kernel,rfl,by decide +kernel,by decide +kernel⟩
theorem wL : D7 ["self","word","found"] ["self","word"] (B3 iS) := ⟨rfl,rfl,rfl,by decide +kernel,rfl,by decide +kernel,by decide +kernel⟩
structure WsOk (ws : List Wd) : Prop where
 len : ws.length ≤ 100000
 tok : ∀ w ∈ ws,T4 w
 sm : ∀ w ∈ ws,S6 w
def rdF (wl : Addr) (t : Nat) : List (Str × V) := [("words",.ref wl),("taken",.int (t : Int))]
structure RD (H : Hp) (R rd dx wl : Addr) (ws : List Wd) (t : Nat) : Prop where
 ob : H rd = some (.ins R dx (rdF wl t))
 li : H wl = some (.lst (ST ws))
 ok : WsOk ws
structure RK (K : PySem.W.Frag) (R : Addr) : Prop where
 cl : Cls K R
 nw : NoAttr K R "words"
 nt : NoAttr K R "taken"
structure P2 (P : Program) (w : World) (K : PySem.W.Frag) (mg : Str → Option Value) (base : Heap) (CX : X7) (R : Addr) (k : Nat) (m : Str) (ps : List Str) (sp : Sp) : Prop where
 ex : ∃ (f : Addr) (fd : FuncData),FnOk P w K mg base CX k f fd ps sp ∧ rZ K R m f ∧ Binds K fd ps []
def P9 (H : Hp) (R rd dx wl : Addr) (t : Nat) : Hp := B6 H rd (.ins R dx (rdF wl t))
theorem BA5 (ws : List Wd) (t k : Nat) : ((ws.drop t)[k]?).getD [] = (ws[t + k]?).getD [] := by rw [List.getElem?_drop]
theorem AT6 (ws : List Wd) (t : Nat) : hd (ws.drop t) = (ws[t]?).getD [] := by
 unfold hd
 rw [List.headD_eq_head?_getD,List.head?_drop]
section
variable {P : Program} {w : World} {K : PySem.W.Frag} {mg : Str → Option Value} {base : Heap} {f : Addr} {fd : FuncData} {R : Addr}
theorem RD.up {H H' : Hp} {rd dx wl : Addr} {ws : List Wd} {t t' : Nat} (h : RD H R rd dx wl ws t) : RD (P9 H R rd dx wl t') R rd dx wl ws t' :=
 ⟨B1,by unfold P9; rw [B5 (fun e=>by have := h.ob; rw [← e,h.li] at this; cases this)]; exact h.li,h.ok⟩
theorem N7 {X : Cx} {CX : X7} {E : XK} {k : Nat} {m : Str} {ps : List Str} {sp : Sp} {apos pos : Pos} {o e : Expr} {es : List Expr} {ta : TE} {t : TA} {pl : Sem Bool} (M : P2 X.prog X.w X.K X.mg X.base CX R k m ps sp) (c : RK X.K R) (hr : Room k X.A) (hx : S7 CX X E) (ho : PE X o ta) (ha : PA X (e :: es) t)
  (hst : starEach (e :: es) X.env = (false,eval e X.env) :: starEach es X.env := by rfl) (hpl : (backTo pos (starEach es X.env)).any (·.1) = false := by rfl)
  (ht : eval (.Call (.Attribute o m apos) (e :: es) [] pos) X.env = (do
   let ov ← eval o X.env
   standAt apos.atName
   let (f,first) ← holding [ov] (getMethod ov m pl)
   callWith pos f first (backTo pos (starEach (e :: es) X.env)) (backToKw pos (keywordEach [] X.env))) := by rfl) :
  PE X (.Call (.Attribute o m apos) (e :: es) [] pos) (eR R m sp [] E ta t) := by
 obtain ⟨f,fd,F,a,b⟩ := M.ex
 exact AJ1 ho c.cl a F hr b .nil hx ha hst hpl ht
theorem aY {X : Cx} {CX : X7} {E : XK} {k : Nat} {m : Str} {ps : List Str} {sp : Sp} {apos pos : Pos} {o : Expr} {ta : TE} {pl : Sem Bool} (M : P2 X.prog X.w X.K X.mg X.base CX R k m ps sp) (c : RK X.K R) (hr : Room k X.A) (hx : S7 CX X E) (ho : PE X o ta)
  (ht : eval (.Call (.Attribute o m apos) [] [] pos) X.env = (do
   let ov ← eval o X.env
   standAt apos.atName
   let (f,first) ← holding [ov] (getMethod ov m pl)
   callWith pos f first (backTo pos (starEach [] X.env)) (backToKw pos (keywordEach [] X.env))) := by rfl) :
  PE X (.Call (.Attribute o m apos) [] [] pos) (eR R m sp [] E ta fW) := by
 obtain ⟨f,fd,F,a,b⟩ := M.ex
 exact qN ho c.cl a F hr b .nil hx ht
def V4 (R : Addr) : Sp := fun args H Q _=>∃ rd dx wl ws t k,args = [.ref rd,.int ((k : Nat) : Int)] ∧ RD H R rd dx wl ws t ∧ Q (.str (S (((ws.drop t)[k]?).getD []))) H
theorem AB0 (F : Fun K "ahead" "Reader.ahead" dR f fd) (c : RK K R) (m1 : mg "len" = none) : FnOk P w K mg base K3 1 f fd ["self","steps"] (V4 R) := by
 refine F.ok sW (fun vs H Q E h=>?_) (fun cdv A outer s H vs Q E hr h=>?_)
 ·obtain ⟨rd,dx,wl,ws,t,k,rfl,_⟩ := h
  rfl
 obtain ⟨rd,dx,wl,ws,t,k,rfl,h,q⟩ := h
 refine ⟨_,B2 (D3 (i := 2) sW.nd rfl (Or.inl rfl) (G9 U0 (V0 (pv 0) rfl) (pv 1)))
  (B4 (D4 (eZ (E1 fC (pv 2) (G1 K4 rfl m1 PySem.boot_len (A9 (V0 (pv 0) rfl) B0)) (D9 _)) (G5 K5 (V0 (pv 0) rfl) (pv 2) (fun _ _=>rfl)) B9))),?_⟩
 refine ⟨_,rfl,rd,R,dx,_,_,rfl,h.ob,c.cl,c.nt,rfl,_,rfl,_,_,rfl,rfl,?_⟩
 refine ⟨_,rfl,_,rfl,rd,R,dx,_,_,rfl,h.ob,c.cl,c.nw,rfl,wl,_,rfl,.inl (SqL.of h.li),_,_,rfl,rfl,_,rfl,?_⟩
 rw [BA5] at q
 refine R0 (fun hc=>?_) (fun hc=>?_)
 ·have hc : t + k < ws.length := by
   have := of_decide_eq_true hc
   rw [List.length_map] at this
   omega
  rw [List.getElem?_eq_getElem hc] at q
  refine ⟨_,rfl,rd,R,dx,_,_,rfl,h.ob,c.cl,c.nw,rfl,_,rfl,wl,_,_,_,rfl,rfl,SqL.of h.li,?_,q⟩
  have := G2 (xs := ST ws) (j := t + k) (v := .str (S ws[t + k])) (by rw [List.getElem?_map,List.getElem?_eq_getElem hc]; rfl)
  exact this
 ·have hc : ws.length ≤ t + k := by
   refine Nat.le_of_not_lt fun z=>hc (decide_eq_true ?_)
   rw [List.length_map]; omega
  rw [List.getElem?_eq_none hc] at q
  rw [rB]
  exact q
theorem mL (r : List Wd) : (r[0]?).getD [] = hd r := by cases r <;> rfl
def Z5 (R : Addr) : Sp := fun args H Q _=>∃ rd dx wl ws t,args = [.ref rd] ∧ RD H R rd dx wl ws t ∧ Q (.str (S (hd (ws.drop t)))) (P9 H R rd dx wl (t + 1))
theorem AJ8 (F : Fun K "take" "Reader.take" iM f fd) (c : RK K R) (AH : P2 P w K mg base K3 R 1 "ahead" ["self","steps"] (V4 R)) : FnOk P w K mg base K3 2 f fd ["self"] (Z5 R) := by
 refine F.ok wK (fun vs H Q E h=>?_) (fun cdv A outer s H vs Q E hr h=>?_)
 ·obtain ⟨rd,dx,wl,ws,t,rfl,_⟩ := h
  rfl
 obtain ⟨rd,dx,wl,ws,t,rfl,h,q⟩ := h
 refine ⟨_,B2 (D3 (i := 1) wK.nd rfl (Or.inl rfl) (N7 AH c hr M8 (pv 0) (A9 B7 B0)))
  (B2 (oN (pv 0) B7 xT)
  (B4 (D4 (pv 1)))),?_⟩
 refine ⟨_,rfl,rd,dx,_,rfl,h.ob,rfl,rd,dx,wl,ws,t,0,rfl,h,?_⟩
 rw [mL]
 refine ⟨_,rfl,rd,R,dx,_,_,rfl,h.ob,c.cl,c.nt,rfl,_,_,rfl,rfl,dx,_,h.ob,(by show 2 < 1000; decide),?_⟩
 exact ⟨_,rfl,q⟩
def X2 (R : Addr) : Sp := fun args H Q _=>∃ rd dx wl ws t u,args = [.ref rd,.str (S u)] ∧ RD H R rd dx wl ws t ∧ (if hd (ws.drop t) = u then Q (.bl true) (P9 H R rd dx wl (t + 1)) else Q (.bl false) H)
theorem AA2 (F : Fun K "takes" "Reader.takes" dH f fd) (c : RK K R) (AH : P2 P w K mg base K3 R 1 "ahead" ["self","steps"] (V4 R)) : FnOk P w K mg base K3 2 f fd ["self","word"] (X2 R) := by
 refine F.ok AH9 (fun vs H Q E h=>?_) (fun cdv A outer s H vs Q E hr h=>?_)
 ·obtain ⟨rd,dx,wl,ws,t,u,rfl,_⟩ := h
  rfl
 obtain ⟨rd,dx,wl,ws,t,u,rfl,h,q⟩ := h
 refine ⟨_,B2 (G3 (E1 lM (N7 AH c hr M8 (pv 0) (A9 B7 B0)) (pv 1) (D9 _)) (B4 (D4 Z3)) E4)
  (B2 (oN (pv 0) B7 xT)
  (B4 (D4 Z3))),?_⟩
 refine ⟨_,rfl,rd,dx,_,rfl,h.ob,rfl,rd,dx,wl,ws,t,0,rfl,h,?_⟩
 rw [mL]
 refine ⟨_,rfl,rfl,_,rfl,?_⟩
 rw [O1]
 by_cases e : hd (ws.drop t) = u
 ·rw [if_pos e] at q
  rw [decide_eq_true e]
  exact F0 ⟨_,rfl,rd,R,dx,_,_,rfl,h.ob,c.cl,c.nt,rfl,_,_,rfl,rfl,dx,_,h.ob,(by show 2 < 1000; decide),q⟩
 ·rw [if_neg e] at q
  rw [decide_eq_false e]
  exact E8 q
def bF (R C : Addr) : Sp := fun args H Q E=>∃ rd dx wl ws t u,args = [.ref rd,.str (S u)] ∧ RD H R rd dx wl ws t ∧ S6 u ∧ (if hd (ws.drop t) = u then Q .non (P9 H R rd dx wl (t + 1)) else E (.ref C) none (P9 H R rd dx wl (t + 1)))
theorem xX {ws : List Wd} {t : Nat} : hd (ws.drop t) = [] ∨ hd (ws.drop t) ∈ ws := by
 rw [AT6]
 cases e : ws[t]? with
 | none=>exact .inl rfl
 | some w=>exact .inr (List.mem_of_getElem? e)
theorem WsOk.small {ws : List Wd} (h : WsOk ws) (t : Nat) : S6 (hd (ws.drop t)) := by
 rcases xX (ws := ws) (t := t) with e | e
 ·rw [e]; exact ⟨by decide,fun c hc=>by cases hc⟩
 ·exact h.sm _ e
theorem AK6 {C : Addr} (F : Fun K "must_take" "Reader.must_take" iS f fd) (c : RK K R) (n : NT K mg C) (TK : P2 P w K mg base K3 R 2 "take" ["self"] (Z5 R)) : FnOk P w K mg base (M0 P w) 3 f fd ["self","word"] (bF R C) := by
 refine Fun.ok1 F wL (fun vs H Q E h=>?_) (fun cdv A outer s H vs Q E hr h=>?_)
 ·obtain ⟨rd,dx,wl,ws,t,u,rfl,_⟩ := h
  rfl
 obtain ⟨rd,dx,wl,ws,t,u,rfl,h,hu,q⟩ := h
 refine ⟨_,B2 (D3 (i := 2) wL.nd rfl (Or.inl rfl) (aY TK c hr M8 (pv 0)))
  (B4 (G3 (E1 lM (pv 2) (pv 1) (D9 _)) (B4 (R6 PySem.F.excBase_ValueError n.xc rfl n.mg (A9 (aZ (lL (pv 2) (W2 (lL (pv 1) (W2 dU))))) B0))) E4)),?_⟩
 refine ⟨_,rfl,rd,dx,_,rfl,h.ob,rfl,rd,dx,wl,ws,t,rfl,h,?_⟩
 have hs := h.ok.small t
 refine ⟨_,rfl,_,rfl,rfl,_,rfl,?_⟩
 rw [O1]
 by_cases e : hd (ws.drop t) = u
 ·rw [if_pos e] at q
  rw [decide_eq_true e]
  exact F0 q
 ·rw [if_neg e] at q
  rw [decide_eq_false e]
  exact E8 ⟨_,rfl,_,rfl,by rw [O2]; exact hs.1,hs.2,_,rfl,_,rfl,by rw [O2]; exact hu.1,hu.2,fun r=>⟨S4,q⟩⟩
def wE (K : PySem.W.Frag) (R C : Addr) : Sp := fun args H Q E=>∃ rd dx v,args = [.ref rd,v] ∧ H rd = some (.ins R dx []) ∧ ((∃ d,DV K H d v ∧ gZ d "str" = false ∧ E (.ref C) none H) ∨ ∃ l,v = .str (S l) ∧ S6 l ∧
 (∀ ws,E7 l = some ws → ∀ (H' : Hp) (p : Addr),H p = none → Grow rd H H' → H' p = some (.lst (ST ws)) → H' rd = some (.ins R dx (rdF p 0)) → Q .non H') ∧ (E7 l = none → ∀ H',Same H H' → E (.ref C) none H'))
theorem AK9 {C : Addr} (F : Fun K "__init__" "Reader.__init__" iV f fd) (c : RK K R) (WORDS : K8 P w K mg base 5 "words_of" ["text"] (mQ K C)) : FnOk P w K mg base (M0 P w) 6 f fd ["self","text"] (wE K R C) := by
 refine Fun.ok1 F AP5 (fun vs H Q E h=>?_) (fun cdv A outer s H vs Q E hr h=>?_)
 ·obtain ⟨rd,dx,v,rfl,_⟩ := h
  rfl
 obtain ⟨rd,dx,v,rfl,hr0,h⟩ := h
 refine ⟨_,B2 (lK (pv 0) (J9 WORDS hr rfl (G0 (E' := E) fun _ _ _ h=>h) (A9 (pv 1) B0)) rfl)
  (B4 (lK (pv 0) B7 rfl)),?_⟩
 rcases h with ⟨d,hd,hf,e⟩ | ⟨l,rfl,hs,q1,q2⟩
 ·exact ⟨_,rfl,_,rfl,.inl ⟨d,hd,hf,e⟩⟩
 ·refine ⟨_,rfl,_,rfl,.inr ⟨l,rfl,hs,fun ws hw H' p hp g hl=>?_,q2⟩⟩
  have nrp : p ≠ rd := fun e=>by rw [e,hr0] at hp; cases hp
  refine ⟨_,rfl,rd,R,dx,_,rfl,g _ _ hr0,c.cl,c.nw,by decide,?_⟩
  refine ⟨_,rfl,rd,R,dx,_,rfl,B1,c.cl,c.nt,(by show 1 < 1000; decide),?_⟩
  refine q1 ws hw _ p hp (fun b o hb h=>?_) ?_ ?_
  ·rw [iE,B5 hb]; exact g _ _ h
  ·rw [iE,B5 nrp]; exact hl
  ·rw [iE,B1]; rfl
end
end Law
namespace Law
open PySem L2 L2.Sp
theorem fX {n : Nat} (h : n ≤ 200000) : n < sizeLine := by have : sizeLine = 16777216 := sizeLine_eq; omega
section
variable {P : Program} {w : World} {K : PySem.W.Frag} {mg : Str → Option Value} {base : Heap} {f : Addr} {fd : FuncData} {R C : Addr}
abbrev iR : Stmt := O5 8
theorem AP2 : D7 ["word"] ["word"] (B3 iR) := ⟨rfl,rfl,rfl,by decide +kernel,rfl,by decide +kernel,by decide +kernel⟩
theorem xJ : (["letter"] : List Str).Nodup := by decide +kernel
def qF : Sp := fun args H Q _=>∃ u,args = [.str (S u)] ∧ u.length ≤ 100000 ∧ ∀ H',Same H H' → Q (.bl (E2 u)) H'
theorem AK5 (F : Fun K "is_name" "is_name" iR f fd) (m1 : mg "isinstance" = none) (m2 : mg "str" = none) (m3 : mg "all" = none) (m4 : mg "len" = none) : FnOk P w K mg base K3 1 f fd ["word"] qF := by
 refine F.ok AP2 (fun vs H Q E h=>?_) (fun cdv A outer s H vs Q E hr h=>?_)
 ·obtain ⟨u,rfl,_⟩ := h
  rfl
 obtain ⟨u,rfl,hu,q⟩ := h
 refine ⟨_,B4 (D4 (bJ (G1 oZ rfl m1 rS (A9 (pv 0) (A9 (nM (v := .ty "str") rfl m2 rR rfl) B0)))
  (bJ (N8 jB (G1 V1 rfl m4 PySem.boot_len (A9 (pv 0) B0)) B7 (D9 _))
  (aD (G1 (fT rfl) rfl m3 yO (A9 (dW (N' := ["letter"]) (fr := [none]) (own := [0]) ⟨rfl,rfl,rfl,rfl,rfl,rfl,rfl⟩ rfl (AQ2 (pv 0))
   (fun _ _ _ _=>M3 (i := 0) xJ rfl (Or.inl rfl)) (Z0 0) (fun _ _ _ _=>Y7)
   (fun _ _ _ _=>fA T6 T6 B9 (pv 0) B9)) B0)))))),?_⟩
 refine ⟨_,rfl,_,_,rfl,.inl ⟨_,rfl,rfl⟩,true,rfl,E8 ?_⟩
 refine ⟨_,rfl,_,rfl,Q1 hu,_,_,rfl,rfl,decide ((0 : Int) < ((S u).length : Int)),rfl,?_⟩
 rw [O2]
 by_cases hz : 0 < u.length
 ·rw [decide_eq_true (p := (0 : Int) < (u.length : Int)) (by omega)]
  refine E8 ?_
  refine ⟨_,rfl,S u,rfl,fun l hl=>?_⟩
  refine AC5 (x := S u) (fun i ys H'=>H' = B6 H l (.lst ys) ∧ ys = List.map V.bl ((u.take i).map P4) ∧ i ≤ u.length) ⟨rfl,rfl,Nat.zero_le _⟩ (fun i c ys H' hc ⟨e,ey,hi⟩=>?_) (fun ys H' ⟨e,ey,_⟩=>?_)
  ·subst e
   have hc : u[i]? = some c := by
    have : (S u).cps[i]? = u[i]? := by show u.toArray[i]? = _; simp
    rw [← this]; exact hc
   have hi' := (List.getElem?_eq_some_iff.mp hc).1
   have hlen : ys.length ≤ 200000 := by rw [ey,List.length_map,List.length_map,List.length_take]; omega
   dsimp only [X0,R1]
   refine jW ?_
   refine ⟨_,rfl,hZ (a := 97) (b := 122) (c := c) (Q := fun y H5=>H5 l = some (.lst ys) ∧ ys.length < sizeLine ∧ B6 H5 l (.lst (ys ++ [y])) = B6 H l (.lst (ys ++ [y])) ∧ ys ++ [y] = List.map V.bl ((u.take (i + 1)).map P4) ∧ i + 1 ≤ u.length) ?_⟩
   refine ⟨B1,fX hlen,?_,?_,hi'⟩
   ·rw [iE]
   ·rw [ey,bZ hc,List.map_append,List.map_append]; rfl
  ·subst e
   have e1 : (S u).cps.size = u.length := O2 u
   rw [e1] at ey
   refine ⟨l,_,rfl,SqL.of (by rw [ey]; exact B1),?_⟩
   have e2 : (((u.take u.length).map P4).all id) = E2 u := by
    unfold E2
    rw [List.take_length,List.all_map,decide_eq_true (p := u ≠ []) (List.length_pos_iff.mp hz),Bool.true_and]
    rfl
   rw [e2]
   exact q _ (fun z o ho=>by rw [B5 (C0 ho hl)]; exact ho)
 ·have e : u = [] := List.eq_nil_of_length_eq_zero (by omega)
  subst e
  exact F0 (q H fun _ _ h=>h)
abbrev iT : Stmt := O5 38
theorem AP3 : D7 ["word"] ["word"] (B3 iT) := ⟨rfl,rfl,rfl,by decide +kernel,rfl,by decide +kernel,by decide +kernel⟩
def fZ : Sp := fun args H Q _=>∃ u,args = [.str (S u)] ∧ u.length ≤ 100000 ∧ Q (.bl (O8 u)) H
theorem AK7 (F : Fun K "is_number" "is_number" iT f fd) (FIG : Cal P w K mg base 1 "is_figure" ["sign"] (fun vs H Q _=>W6 K2 vs H Q)) : FnOk P w K mg base K3 2 f fd ["word"] fZ := by
 refine F.ok AP3 (fun vs H Q E h=>?_) (fun cdv A outer s H vs Q E hr h=>?_)
 ·obtain ⟨u,rfl,_⟩ := h
  rfl
 obtain ⟨u,rfl,hu,q⟩ := h
 refine ⟨_,B4 (D4 (bJ (N8 lM (pv 0) B9 (D9 _)) (aD (AE9 (N8 N4 (G5 aH (pv 0) B7 (fun _ _=>rfl)) B9 (D9 _)) (aD (E3 FIG hr rfl (A9 (G5 aH (pv 0) B7 (fun _ _=>rfl)) B0))))))),?_⟩
 refine ⟨_,rfl,rfl,_,rfl,?_⟩
 rw [rB,O1]
 cases u with
 | nil=>exact F0 q
 | cons c r =>
  rw [decide_eq_false (by simp)]
  refine E8 ?_
  refine ⟨_,rfl,_,_,c,rfl,rfl,Q1 hu,G2 (j := 0) rfl,rfl,_,rfl,?_⟩
  rw [vE,show (⟨#[c]⟩ : Str) = S [c] from rfl,O1]
  by_cases e : c = 45
  ·subst e
   exact E8 q
  ·rw [decide_eq_false (by simpa using e)]
   refine F0 ⟨_,rfl,_,_,c,rfl,rfl,Q1 hu,G2 (j := 0) rfl,c,rfl,?_⟩
   have : O8 (c :: r) = K2 c := by unfold O8; simp [e]
   rw [← this]
   exact q
abbrev aV : Stmt := O5 46
theorem qK : D7 ["reader","word"] ["reader"] (B3 aV) := ⟨rfl,rfl,rfl,by decide +kernel,rfl,by decide +kernel,by decide +kernel⟩
def bE (R C : Addr) : Sp := fun args H Q E=>∃ rd dx wl ws t,args = [.ref rd] ∧ RD H R rd dx wl ws t ∧ ∀ H',Same (P9 H R rd dx wl (t + 1)) H' → (if E2 (hd (ws.drop t)) = true then Q (.str (S (hd (ws.drop t)))) H' else E (.ref C) none H')
theorem xB (F : Fun K "name_of" "name_of" aV f fd) (c : RK K R) (n : NT K mg C) (TK : P2 P w K mg base K3 R 2 "take" ["self"] (Z5 R)) (NM : Cal P w K mg base 1 "is_name" ["word"] qF) : FnOk P w K mg base (M0 P w) 3 f fd ["reader"] (bE R C) := by
 refine Fun.ok1 F qK (fun vs H Q E h=>?_) (fun cdv A outer s H vs Q E hr h=>?_)
 ·obtain ⟨rd,dx,wl,ws,t,rfl,_⟩ := h
  rfl
 obtain ⟨rd,dx,wl,ws,t,rfl,h,q⟩ := h
 refine ⟨_,B2 (D3 (i := 1) qK.nd rfl (Or.inl rfl) (aY TK c hr M8 (pv 0)))
  (B2 (G3 (dS (O7 (E3 NM (hr.mono (by decide)) rfl (A9 (pv 1) B0)))) (B4 (R6 PySem.F.excBase_ValueError n.xc rfl n.mg (A9 (aZ (lL (pv 1) (W2 dU))) B0))) E4)
  (B4 (D4 (pv 1)))),?_⟩
 have hs := h.ok.small t
 refine ⟨_,rfl,rd,dx,_,rfl,h.ob,rfl,rd,dx,wl,ws,t,rfl,h,?_⟩
 refine ⟨_,rfl,_,rfl,hs.1,fun H' g=>⟨_,rfl,?_⟩⟩
 have q := q H' g
 cases e : E2 (hd (ws.drop t)) with
 | true =>
  rw [e,if_pos rfl] at q
  exact F0 ⟨_,rfl,q⟩
 | false =>
  rw [e,if_neg (by decide)] at q
  exact E8 ⟨_,rfl,_,rfl,by rw [O2]; exact hs.1,hs.2,fun r=>⟨S4,q⟩⟩
end
end Law
namespace Law
open PySem L2 L2.Sp
theorem K7 {c A B : Prop} [Decidable c] (hc : c) (h : A) : if c then A else B := by rw [if_pos hc]; exact h
theorem E9 {c A B : Prop} [Decidable c] (hc : ¬ c) (h : B) : if c then A else B := by rw [if_neg hc]; exact h
theorem BF2 : (Str.ofString "." : Str) = S [46] := by decide +kernel
theorem cT {ws r : List Wd} {x : Wd} {t : Nat} (h : ws.drop t = x :: r) : ws.drop (t + 1) = r ∧ t + 1 ≤ ws.length := by
 have hl : t < ws.length := by
  refine Nat.lt_of_not_le fun z=>?_
  rw [List.drop_eq_nil_of_le z] at h
  cases h
 refine ⟨?_,hl⟩
 rw [← List.drop_drop,h]; rfl
theorem V6 {ws : List Wd} {t : Nat} : ws.drop (t + 1) = (ws.drop t).tail := by rw [← List.drop_drop,List.drop_one]
theorem cQ {ws : List Wd} {t : Nat} (h : hd (ws.drop t) ≠ []) : t + 1 ≤ ws.length := by
 refine Nat.lt_of_not_le fun z=>h ?_
 rw [List.drop_eq_nil_of_le z]; rfl
theorem vG {ws : List Wd} {t : Nat} (h : hd (ws.drop t) ≠ []) : hd (ws.drop t) ∈ ws := by
 rcases xX (ws := ws) (t := t) with e | e
 ·exact absurd e h
 ·exact e
def Kp (K : PySem.W.Frag) (H H' : Hp) : Prop := ∀ a ys,SqT K H a ys → SqT K H' a ys
section
variable {K : PySem.W.Frag} {H H0 H1 H' : Hp} {R rd dx wl : Addr} {ws : List Wd} {t t' : Nat}
theorem Kp.same (g : Same H H') : Kp K H H' := fun _ _ h=>g.seqT h
theorem Kp.trans (a : Kp K H H1) (b : Kp K H1 H') : Kp K H H' := fun x y h=>b x y (a x y h)
theorem Kp.grow (g : Grow rd H H') (h : RD H R rd dx wl ws t) : Kp K H H' := Grow.tups g (fun xs z=>by rw [h.ob] at z; cases z) (fun xs o z=>by rw [h.ob] at z; cases z)
theorem Kp.lst {l : Addr} {xs : List V} {o : HO} (h : H l = some (.lst xs)) : Kp K H (B6 H l o) := Grow.tups bS (fun xs z=>by rw [h] at z; cases z) (fun xs o z=>by rw [h] at z; cases z)
theorem Kp.dct {l : Addr} {xs : List (K1 × V)} {o : HO} (h : H l = some (.dK xs)) : Kp K H (B6 H l o) := Grow.tups bS (fun xs z=>by rw [h] at z; cases z) (fun xs o z=>by rw [h] at z; cases z)
structure RS (H0 H : Hp) (R rd dx wl : Addr) (ws : List Wd) (t : Nat) : Prop where
 g : Grow rd H0 H
 st : RD H R rd dx wl ws t
 lw : H0 wl = some (.lst (ST ws))
 ob : ∃ t0,H0 rd = some (.ins R dx (rdF wl t0))
theorem RS.start (h : RD H R rd dx wl ws t) : RS H H R rd dx wl ws t := ⟨Grow.refl,h,h.li,t,h.ob⟩
theorem RS.more (s : RS H0 H R rd dx wl ws t) (g : Grow rd H H') (h : RD H' R rd dx wl ws t') : RS H0 H' R rd dx wl ws t' := ⟨s.g.trans g,h,s.lw,s.ob⟩
theorem RS.same (s : RS H0 H R rd dx wl ws t) (g : Same H H') : RS H0 H' R rd dx wl ws t := s.more (Grow.of g) ⟨g _ _ s.st.ob,g _ _ s.st.li,s.st.ok⟩
theorem RS.up (s : RS H0 H R rd dx wl ws t) (t' : Nat) : RS H0 (P9 H R rd dx wl t') R rd dx wl ws t' := s.more bS (s.st.up (H' := H))
theorem RS.step (s : RS H0 H R rd dx wl ws t) (g : Same (P9 H R rd dx wl t') H') : RS H0 H' R rd dx wl ws t' := (s.up t').same g
theorem RS.put {l : Addr} {o : HO} (s : RS H0 H R rd dx wl ws t) (hl : H0 l = none) : RS H0 (B6 H l o) R rd dx wl ws t := by
 have n1 : rd ≠ l := fun e=>by obtain ⟨t0,h⟩ := s.ob; rw [e,hl] at h; cases h
 have n2 : wl ≠ l := fun e=>by have h := s.lw; rw [e,hl] at h; cases h
 exact ⟨fun b u hb h=>by rw [B5 (C0 h hl)]; exact s.g b u hb h,⟨by rw [B5 n1]; exact s.st.ob,by rw [B5 n2]; exact s.st.li,s.st.ok⟩,s.lw,s.ob⟩
theorem RS.none {l : Addr} {o : HO} (s : RS H0 H R rd dx wl ws t) (hl : H0 l = none) (h : H l = some o) : l ≠ rd := fun e=>by obtain ⟨t0,h⟩ := s.ob; rw [← e,hl] at h; cases h
theorem fK (h : RD H R rd dx wl ws t) : Kp K H (P9 H R rd dx wl t') := Kp.grow bS h
end
theorem TV.kp {K : PySem.W.Frag} {H H' : Hp} {x : Tn} {v : V} (k : Kp K H H') (h : TV K H x v) : TV K H' x v := TV.mono k x v h
theorem TAll.kp {K : PySem.W.Frag} {H H' : Hp} {x : List Tn} {v : List V} (k : Kp K H H') (h : TAll K H x v) : TAll K H' x v := TAll.mono k x v h
def PO {α : Type} (C : Addr) (val : Hp → α → V → Prop) (H : Hp) (R rd dx wl : Addr) (ws : List Wd) (t : Nat) (res : Option (α × List Wd)) (Q : VK) (E : XK) : Prop := match res with
 | none=>∀ H',Grow rd H H' → E (.ref C) none H'
 | some (x,r)=>∀ v H' t',Grow rd H H' → RD H' R rd dx wl ws t' → ws.drop t' = r → t < t' → t' ≤ ws.length → val H' x v → Q v H'
section
variable {P : Program} {w : World} {K : PySem.W.Frag} {mg : Str → Option Value} {base : Heap} {f : Addr} {fd : FuncData} {R C : Addr}
abbrev Y6 : Stmt := O5 45
theorem oK : D7 ["reader","names"] ["reader"] (B3 Y6) := ⟨rfl,rfl,rfl,by decide +kernel,rfl,by decide +kernel,by decide +kernel⟩
def AW9 (K : PySem.W.Frag) : Hp → List Wd → V → Prop := fun H ns v=>TV K H (.tup (ns.map Tn.str)) v
def cA (K : PySem.W.Frag) (R C : Addr) : Sp := fun args H Q E=>∃ rd dx wl ws t res,args = [.ref rd] ∧ RD H R rd dx wl ws t ∧ S5 (ws.drop t) res ∧ PO C (AW9 K) H R rd dx wl ws t res Q E
theorem uX (F : Fun K "names_of" "names_of" Y6 f fd) (c : RK K R) (NAME : K8 P w K mg base 3 "name_of" ["reader"] (bE R C)) (TS : P2 P w K mg base K3 R 2 "takes" ["self","word"] (X2 R)) (m1 : mg "tuple" = none) : FnOk P w K mg base (M0 P w) 4 f fd ["reader"] (cA K R C) := by
 refine Fun.ok1 F oK (fun vs H Q E h=>?_) (fun cdv A outer s H vs Q E hr h=>?_)
 ·obtain ⟨rd,dx,wl,ws,t,res,rfl,_⟩ := h
  rfl
 obtain ⟨rd,dx,wl,ws,t,res,rfl,h,hn,q⟩ := h
 refine ⟨_,B2 (D3 (i := 1) oK.nd rfl (Or.inl rfl) (J0 (A9 (J9 NAME hr rfl (G0 (E' := E) fun _ _ _ h=>h) (A9 (pv 0) B0)) B0)))
  (B2 (R5 PassesOwn.leaving (O7 (N7 TS c (hr.mono (by decide)) M8 (pv 0) (A9 B9 B0)))
   (B4 (G4 (O0 PySem.F.plainAttrs_list PySem.F.slot_list_append PySem.F.type_list_append J7 (pv 1) (A9 (J9 NAME hr rfl (G0 (E' := E) fun _ _ _ h=>h) (A9 (pv 0) B0)) B0)))))
  (B4 (D4 (N9 U1 rfl m1 bV (A9 (pv 1) B0))))),?_⟩
 have S0 := RS.start h
 unfold S5 at hn
 refine ⟨_,rfl,rd,dx,wl,ws,t,rfl,h,fun H1 g1=>?_⟩
 have S1 := S0.step g1
 by_cases hb : E2 (hd (ws.drop t)) = true
 ·rw [if_pos hb] at hn ⊢
  obtain ⟨k,hk⟩ := hn
  have hne : hd (ws.drop t) ≠ [] := fun e=>by rw [e] at hb; cases hb
  rw [← V6] at hk
  refine ⟨S4,fun l hl=>?_⟩
  have hl0 : H l = none := by
   cases e : H l with
   | none=>rfl
   | some o =>
    by_cases e2 : l = rd
    ·rw [e2,S1.st.ob] at hl; cases hl
    ·rw [S1.g l o e2 e] at hl; cases hl
  have S2 := S1.put (o := .lst [.str (S (hd (ws.drop t)))]) hl0
  refine ⟨fun m σ H'=>∃ (ns : List Wd) (t' : Nat),σ = [some (.ref rd),some (.ref l)] ∧ RS H H' R rd dx wl ws t' ∧ H' l = some (.lst (ST ns)) ∧ V2 m ns (ws.drop t') res ∧ ns.length ≤ t' ∧ t < t' ∧ t' ≤ ws.length,⟨k,[hd (ws.drop t)],t + 1,rfl,S2,B1,hk,(by show 1 ≤ t + 1; omega),by omega,cQ hne⟩,?_⟩
  rintro m σ H' ⟨ns,t',rfl,s',hl',hp,hns,ht,htl⟩
  have wl0 := h.ok.len
  refine ⟨_,rfl,rd,dx,_,rfl,s'.st.ob,rfl,rd,dx,wl,ws,t',[46],by rw [BF2]; rfl,s'.st,?_⟩
  generalize hdr : ws.drop t' = rr at hp ⊢
  cases hp with
  | stop hh =>
   rw [if_neg hh]
   refine ⟨_,rfl,F0 ⟨_,rfl,l,_,rfl,.inl ⟨SqL.of hl',fun p hp=>?_⟩⟩⟩
   refine q _ _ t' (s'.same (B8 hp _)).g (s'.same (B8 hp _)).st hdr ht htl ?_
   exact TV.tup (SqT.of B1) (TAll.strs ns)
  | @on k' _ n r _ hb2 hk2 =>
   obtain ⟨d1,d2⟩ := cT hdr
   obtain ⟨d3,d4⟩ := cT d1
   refine K7 rfl ⟨_,rfl,E8 ?_⟩
   refine ⟨fun σ' H''=>∃ (t'' : Nat),σ' = [some (.ref rd),some (.ref l)] ∧ RS H H'' R rd dx wl ws t'' ∧ H'' l = some (.lst (ST (ns ++ [n]))) ∧ V2 k' (ns ++ [n]) (ws.drop t'') res ∧ (ns ++ [n]).length ≤ t'' ∧ t < t'' ∧ t'' ≤ ws.length,fun σ' H'' hh=>?_,?_⟩
   ·obtain ⟨t'',a1,a2,a3,a4,a5⟩ := hh
    exact ⟨k',Nat.lt_succ_self _,ns ++ [n],t'',a1,a2,a3,a4,a5⟩
   have nl : l ≠ rd := s'.none hl0 hl'
   have s2 := s'.up (t' + 1)
   have hl2 : P9 H' R rd dx wl (t' + 1) l = some (.lst (ST ns)) := by unfold P9; rw [B5 nl]; exact hl'
   refine ⟨_,rfl,.inl ⟨rfl,_,SqL.of hl2⟩,_,rfl,rd,dx,wl,ws,t' + 1,rfl,s2.st,fun H3 g3=>?_⟩
   rw [d1]
   refine K7 hb2 ?_
   have s3 := s2.step g3
   have hl3 : H3 l = some (.lst (ST ns)) := g3 _ _ (by unfold P9; rw [B5 nl]; exact hl2)
   refine ⟨l,_,_,rfl,rfl,hl3,by rw [List.length_map]; exact fX (by omega),t' + 1 + 1,rfl,s3.put hl0,?_,?_,by rw [List.length_append,List.length_singleton]; omega,by omega,d4⟩
   ·rw [B1]; simp [ST,hd]
   ·rw [d3]; exact hk2
  | @bad _ r hb2 =>
   obtain ⟨d1,d2⟩ := cT hdr
   refine K7 rfl ⟨_,rfl,E8 ?_⟩
   have nl : l ≠ rd := s'.none hl0 hl'
   have s2 := s'.up (t' + 1)
   have hl2 : P9 H' R rd dx wl (t' + 1) l = some (.lst (ST ns)) := by unfold P9; rw [B5 nl]; exact hl'
   refine ⟨fun _ _=>False,fun _ _ z=>z.elim,?_⟩
   refine ⟨_,rfl,.inl ⟨rfl,_,SqL.of hl2⟩,_,rfl,rd,dx,wl,ws,t' + 1,rfl,s2.st,fun H3 g3=>?_⟩
   rw [d1]
   exact E9 (by rw [hb2]; decide) (q _ (s2.step g3).g)
 ·rw [if_neg hb] at hn ⊢
  subst hn
  exact q _ S1.g
end
end Law
namespace Law
open PySem L2 L2.Sp
theorem BF3 : (Str.ofString "," : Str) = S [44] := by decide +kernel
theorem pS : (Str.ofString ".." : Str) = S [46,46] := by decide +kernel
theorem AZ7 : (Str.ofString "span" : Str) = S jF := by decide +kernel
theorem mP {u : Wd} (h : T4 u) (hn : O8 u = true) : Num u := by
 rcases h with h | h | h | rfl | h
 ·obtain ⟨c,e,hc⟩ := h.head
  cases u with
  | nil=>cases e
  | cons a r =>
   cases e
   have : (decide (c = 45) || K2 c) = true := hn
   rw [AF5 hc,decide_eq_false (AW1 hc).1] at this
   cases this
 ·exact h
 ·obtain ⟨b,_,rfl⟩ := h
  cases hn
 ·cases hn
 ·obtain ⟨c,hc,rfl⟩ := h
  have : (decide (c = 45) || K2 c) = true := hn
  rw [(Z7 c hc).2.1,decide_eq_false (Z7 c hc).2.2.1] at this
  cases this
theorem jI {c : Nat} (h : K2 c = true) : 48 ≤ c ∧ c ≤ 57 := by
 unfold K2 at h
 simpa [Bool.and_eq_true,decide_eq_true_eq] using h
theorem nO {u : Wd} (h : Num u) : PySem.intText? (S u) = some (N3 u) ∧ u.length ≤ 61 := by
 obtain ⟨sn,fs,rfl,hsn,hne,hf,hl,_⟩ := h
 have hd : PySem.NumText.AllDigits fs := fun c hc=>jI (hf c hc)
 obtain ⟨c,r,rfl⟩ := List.exists_cons_of_ne_nil hne
 have hc := jI (hf c (by simp))
 rcases hsn with rfl | rfl
 ·refine ⟨?_,by simpa using Nat.le_succ_of_le hl⟩
  have := PySem.intText_digits (x := S (c :: r)) hd hne (by rw [O2]; omega)
  rw [List.nil_append,this]
  have e : N3 (c :: r) = (nV (c :: r) : Int) := by
   unfold N3
   split
   ·rename_i heq; cases heq; omega
   ·rfl
  rw [e]; rfl
 ·refine ⟨?_,by simp at hl ⊢; omega⟩
  exact PySem.intText_neg (x := S ([45] ++ (c :: r))) (cs := c :: r) rfl hd hne (by rw [O2]; simp at hl ⊢; omega)
theorem eB {u : Wd} (h : O8 u = true) : u ≠ [] := fun e=>by rw [e] at h; cases h
section
variable {P : Program} {w : World} {K : PySem.W.Frag} {mg : Str → Option Value} {base : Heap} {f : Addr} {fd : FuncData} {R C : Addr}
abbrev nH : Stmt := O5 42
theorem AY1 : D7 ["reader","close","count"] ["reader","close","count"] (B3 nH) := ⟨rfl,rfl,rfl,by decide +kernel,rfl,by decide +kernel,by decide +kernel⟩
def EO (C : Addr) (H : Hp) (R rd dx wl : Addr) (ws : List Wd) (t : Nat) (res : Option (Bool × List Wd)) (Q : VK) (E : XK) : Prop := match res with
 | none=>∀ H',Grow rd H H' → E (.ref C) none H'
 | some (b,r)=>∀ H' t',Grow rd H H' → RD H' R rd dx wl ws t' → ws.drop t' = r → t ≤ t' → t' ≤ ws.length → Q (.bl b) H'
def lA (R C : Addr) : Sp := fun args H Q E=>∃ rd dx wl ws t close n,args = [.ref rd,.str (S close),.int ((n : Nat) : Int)] ∧ RD H R rd dx wl ws t ∧ t ≤ ws.length ∧ close ≠ [] ∧ EO C H R rd dx wl ws t (O4 close n (ws.drop t)) Q E
theorem dB (c : Nat) (h : c < 1114112) : S6 [c] := ⟨by show 1 ≤ 100000; decide,fun x hx=>by rw [List.mem_singleton.mp hx]; exact h⟩
theorem yS (r : List Wd) : (r[1]?).getD [] = hd r.tail := by
 cases r with
 | nil=>rfl
 | cons a r=>cases r <;> rfl
theorem AS1 (F : Fun K "has_another" "has_another" nH f fd) (c : RK K R) (AH : P2 P w K mg base K3 R 1 "ahead" ["self","steps"] (V4 R)) (MU : P2 P w K mg base (M0 P w) R 3 "must_take" ["self","word"] (bF R C)) : FnOk P w K mg base (M0 P w) 4 f fd ["reader","close","count"] (lA R C) := by
 refine Fun.ok1 F AY1 (fun vs H Q E h=>?_) (fun cdv A outer s H vs Q E hr h=>?_)
 ·obtain ⟨rd,dx,wl,ws,t,close,n,rfl,_⟩ := h
  rfl
 obtain ⟨rd,dx,wl,ws,t,close,n,rfl,h,ht,hc,q⟩ := h
 have hr1 := hr.mono (show 1 ≤ 3 by decide)
 refine ⟨_,B2 (G3 (E1 N4 (N7 AH c hr1 M8 (pv 0) (A9 B7 B0)) (pv 1) (D9 _)) (B4 (D4 Z3)) E4)
  (U2 (G3 (E1 jB (pv 2) B7 (D9 _)) (B4 (G4 (N7 MU c hr (G0 (E' := E) fun _ _ _ h=>h) (pv 0) (A9 B9 B0)))) E4)
  (B4 (D4 (wU (bJ (N8 N4 (N7 AH c hr1 M8 (pv 0) (A9 B7 B0)) B9 (D9 _)) (aD (N8 N4 (N7 AH c hr1 M8 (pv 0) (A9 B7 B0)) (pv 1) (D9 _)))))))),?_⟩
 refine ⟨_,rfl,rd,dx,_,rfl,h.ob,rfl,rd,dx,wl,ws,t,0,rfl,h,_,rfl,rfl,_,rfl,?_⟩
 rw [mL,O1]
 have S0 := RS.start h
 by_cases e : hd (ws.drop t) = close
 ·rw [decide_eq_true e]
  unfold O4 at q
  rw [if_pos e] at q
  exact E8 (q H t Grow.refl h rfl (Nat.le_refl _) ht)
 rw [decide_eq_false e]
 refine F0 ?_
 refine ⟨fun σ' H'=>∃ (t' : Nat),σ' = [some (.ref rd),some (.str (S close)),some (.int (n : Int))] ∧ RS H H' R rd dx wl ws t' ∧ t ≤ t' ∧ t' ≤ ws.length ∧ O4 close n (ws.drop t) = some (!(decide (hd (ws.drop t') = [46,46]) && decide (hd (ws.drop t').tail = close)),ws.drop t'),?_,?_⟩
 ·refine ⟨_,rfl,_,_,rfl,rfl,_,rfl,?_⟩
  by_cases hn : 0 < n
  ·rw [decide_eq_true (by omega)]
   refine E8 ⟨_,rfl,rd,dx,_,rfl,h.ob,rfl,rd,dx,wl,ws,t,[44],by rw [BF3]; rfl,h,dB 44 (by decide),?_⟩
   by_cases e2 : hd (ws.drop t) = [44]
   ·refine K7 e2 ⟨t + 1,rfl,S0.up (t + 1),by omega,cQ (by rw [e2]; simp),?_⟩
    unfold O4
    rw [if_neg e,if_pos hn,if_pos e2,V6]
   ·refine E9 e2 ?_
    unfold O4 at q
    rw [if_neg e,if_pos hn,if_neg e2] at q
    exact q _ (S0.up (t + 1)).g
  ·rw [decide_eq_false (by omega)]
   refine F0 ⟨t,rfl,S0,Nat.le_refl _,ht,?_⟩
   unfold O4
   rw [if_neg e,if_neg hn]
 ·rintro σ' H' ⟨t',rfl,s',h1,h2,hq⟩
  rw [hq] at q
  refine ⟨_,rfl,rd,dx,_,rfl,s'.st.ob,rfl,rd,dx,wl,ws,t',0,rfl,s'.st,rfl,_,rfl,?_⟩
  rw [mL,pS,O1]
  have fin := q H' t' s'.g s'.st rfl h1 h2
  cases hd1 : decide (hd (ws.drop t') = [46,46]) with
  | false =>
   rw [hd1] at fin
   exact F0 ⟨_,rfl,fin⟩
  | true =>
   rw [hd1] at fin
   refine E8 ⟨_,rfl,rd,dx,_,rfl,s'.st.ob,rfl,rd,dx,wl,ws,t',1,rfl,s'.st,_,rfl,rfl,_,rfl,?_⟩
   rw [yS,O1]
   exact fin
abbrev iW : Stmt := O5 43
theorem wM : D7 ["reader","close","more"] ["reader","close"] (B3 iW) := ⟨rfl,rfl,rfl,by decide +kernel,rfl,by decide +kernel,by decide +kernel⟩
def gA (R C : Addr) : Sp := fun args H Q E=>∃ rd dx wl ws t close,args = [.ref rd,.str (S close)] ∧ RD H R rd dx wl ws t ∧ close ≠ [] ∧ S6 close ∧ EO C H R rd dx wl ws (t + 1) (aL close (ws.drop t)) Q E
theorem AL1 (F : Fun K "takes_end" "takes_end" iW f fd) (c : RK K R) (TS : P2 P w K mg base K3 R 2 "takes" ["self","word"] (X2 R)) (MU : P2 P w K mg base (M0 P w) R 3 "must_take" ["self","word"] (bF R C)) : FnOk P w K mg base (M0 P w) 4 f fd ["reader","close"] (gA R C) := by
 refine Fun.ok1 F wM (fun vs H Q E h=>?_) (fun cdv A outer s H vs Q E hr h=>?_)
 ·obtain ⟨rd,dx,wl,ws,t,close,rfl,_⟩ := h
  rfl
 obtain ⟨rd,dx,wl,ws,t,close,rfl,h,hc,hsm,q⟩ := h
 have hr2 := hr.mono (show 2 ≤ 3 by decide)
 refine ⟨_,U2 (D3 (i := 2) wM.nd rfl (Or.inl rfl) (N7 TS c hr2 M8 (pv 0) (A9 B9 B0)))
  (B2 (G4 (N7 MU c hr (G0 (E' := E) fun _ _ _ h=>h) (pv 0) (A9 (pv 1) B0)))
  (B4 (D4 (pv 2)))),?_⟩
 have S0 := RS.start h
 refine ⟨fun σ' H'=>∃ (t' : Nat) (b : Bool),σ' = [some (.ref rd),some (.str (S close)),some (.bl b)] ∧ RS H H' R rd dx wl ws t' ∧ t ≤ t' ∧ aL close (ws.drop t) = if hd (ws.drop t') = close then some (b,(ws.drop t').tail) else none,?_,?_⟩
 ·refine ⟨_,rfl,rd,dx,_,rfl,h.ob,rfl,rd,dx,wl,ws,t,[46,46],by rw [pS]; rfl,h,?_⟩
  by_cases e : hd (ws.drop t) = [46,46]
  ·refine K7 e ⟨t + 1,true,rfl,S0.up (t + 1),by omega,?_⟩
   unfold aL
   rw [if_pos e,V6]
  ·refine E9 e ⟨t,false,rfl,S0,Nat.le_refl _,?_⟩
   unfold aL
   rw [if_neg e]
 ·rintro σ' H' ⟨t',b,rfl,s',h1,he⟩
  rw [he] at q
  refine ⟨_,rfl,rd,dx,_,rfl,s'.st.ob,rfl,_,rfl,rd,dx,wl,ws,t',close,rfl,s'.st,hsm,?_⟩
  by_cases e : hd (ws.drop t') = close
  ·rw [if_pos e] at q
   refine K7 e ⟨_,rfl,?_⟩
   exact q _ (t' + 1) (s'.up (t' + 1)).g (s'.up (t' + 1)).st V6 (by omega) (cQ (by rw [e]; exact hc))
  ·rw [if_neg e] at q
   exact E9 e (q _ (s'.up (t' + 1)).g)
abbrev dI : Stmt := O5 39
theorem AI0 : D7 ["reader","low"] ["reader","low"] (B3 dI) := ⟨rfl,rfl,rfl,by decide +kernel,rfl,by decide +kernel,by decide +kernel⟩
def kU (n : Int) (r : List Wd) : Tn × List Wd :=
 if hd r = [46,46] then (if O8 (hd r.tail) = true then (M2 (.int n) (.int (N3 (hd r.tail))),r.tail.tail) else (M2 (.int n) .non,r.tail)) else (M2 (.int n) (.int n),r)
def iH (K : PySem.W.Frag) (R : Addr) : Sp := fun args H Q _=>∃ rd dx wl ws t n,args = [.ref rd,.int n] ∧ RD H R rd dx wl ws t ∧ t ≤ ws.length ∧ ∀ v H' t',Grow rd H H' → RD H' R rd dx wl ws t' → ws.drop t' = (kU n (ws.drop t)).2 → t ≤ t' → t' ≤ ws.length → TV K H' (kU n (ws.drop t)).1 v → Q v H'
theorem iF {H : Hp} {a : Addr} {x y : Tn} {v u : V} (h : H a = some (.tup [.str (Str.ofString "span"),v,u])) (h1 : TV K H x v) (h2 : TV K H y u) : TV K H (M2 x y) (.ref a) := by
 rw [AZ7] at h
 exact TV.tup (SqT.of h) (TAll.cons TV.str (TAll.cons h1 (TAll.one h2)))
theorem AA3 (F : Fun K "span_tree" "span_tree" dI f fd) (c : RK K R) (TS : P2 P w K mg base K3 R 2 "takes" ["self","word"] (X2 R)) (TK : P2 P w K mg base K3 R 2 "take" ["self"] (Z5 R)) (AH : P2 P w K mg base K3 R 1 "ahead" ["self","steps"] (V4 R)) (NB : Cal P w K mg base 2 "is_number" ["word"] fZ) (m1 : mg "int" = none) : FnOk P w K mg base K3 3 f fd ["reader","low"] (iH K R) := by
 refine F.ok AI0 (fun vs H Q E h=>?_) (fun cdv A outer s H vs Q E hr h=>?_)
 ·obtain ⟨rd,dx,wl,ws,t,n,rfl,_⟩ := h
  rfl
 obtain ⟨rd,dx,wl,ws,t,n,rfl,h,ht,q⟩ := h
 have hr1 := hr.mono (show 1 ≤ 2 by decide)
 refine ⟨_,B2 (G3 (dS (O7 (N7 TS c hr M8 (pv 0) (A9 B9 B0)))) (B4 (D4 (M6 (A9 B9 (A9 (pv 1) (A9 (pv 1) B0)))))) E4)
  (B4 (D4 (M6 (A9 B9 (A9 (pv 1) (A9 (eZ (O7 (E3 NB hr rfl (A9 (N7 AH c hr1 M8 (pv 0) (A9 B7 B0)) B0)))
   (N9 iA rfl m1 mK (A9 (aY TK c hr M8 (pv 0)) B0)) N2) B0)))))),?_⟩
 have S0 := RS.start h
 refine ⟨_,rfl,rd,dx,_,rfl,h.ob,rfl,rd,dx,wl,ws,t,[46,46],by rw [pS]; rfl,h,?_⟩
 unfold kU at q
 by_cases e : hd (ws.drop t) = [46,46]
 ·refine K7 e ⟨_,rfl,F0 ?_⟩
  simp only [if_pos e] at q
  have s1 := S0.up (t + 1)
  have hl1 := cQ (ws := ws) (t := t) (by rw [e]; simp)
  refine ⟨_,rfl,_,rfl,rd,dx,_,rfl,s1.st.ob,rfl,rd,dx,wl,ws,t + 1,0,rfl,s1.st,_,rfl,?_,_,rfl,?_⟩
  ·rw [mL]; exact (h.ok.small (t + 1)).1
  rw [mL]
  rw [← V6] at q
  cases hb : O8 (hd (ws.drop (t + 1))) with
  | true =>
   simp only [hb,if_true] at q
   have hw := h.ok.tok _ (vG (eB hb))
   obtain ⟨i1,i2⟩ := nO (mP hw hb)
   refine E8 ⟨_,rfl,rd,dx,_,rfl,s1.st.ob,rfl,rd,dx,wl,ws,t + 1,rfl,s1.st,_,_,rfl,i1,by rw [O2]; omega,bQ,fun p hp=>?_⟩
   have s2 := (s1.up (t + 1 + 1)).same (B8 hp (.tup [.str (Str.ofString "span"),.int n,.int (N3 (hd (ws.drop (t + 1))))]))
   exact q _ _ (t + 1 + 1) s2.g s2.st V6 (by omega) (cQ (eB hb)) (iF B1 TV.int TV.int)
  | false =>
   simp only [hb,Bool.false_eq_true,if_false] at q
   refine F0 ⟨bQ,fun p hp=>?_⟩
   have s2 := s1.same (B8 hp (.tup [.str (Str.ofString "span"),.int n,.non]))
   exact q _ _ (t + 1) s2.g s2.st rfl (by omega) hl1 (iF B1 TV.int TV.non)
 ·refine E9 e ⟨_,rfl,E8 ?_⟩
  simp only [if_neg e] at q
  refine ⟨_,rfl,_,rfl,bQ,fun p hp=>?_⟩
  have s2 := S0.same (B8 hp (.tup [.str (Str.ofString "span"),.int n,.int n]))
  exact q _ _ t s2.g s2.st rfl (Nat.le_refl _) ht (iF B1 TV.int TV.int)
abbrev nA : Stmt := O5 35
theorem AY0 : D7 ["word","trees"] ["word","trees"] (B3 nA) := ⟨rfl,rfl,rfl,by decide +kernel,rfl,by decide +kernel,by decide +kernel⟩
def pL (K : PySem.W.Frag) : Sp := fun args H Q _=>∃ k l vs ts,args = [.str (S k),.ref l] ∧ H l = some (.lst vs) ∧ TAll K H ts vs ∧ ∀ v H',Same H H' → TV K H' (one k ts) v → Q v H'
theorem AR6 (F : Fun K "one_or_several" "one_or_several" nA f fd) (m1 : mg "len" = none) (m2 : mg "tuple" = none) : FnOk P w K mg base K3 1 f fd ["word","trees"] (pL K) := by
 refine F.ok AY0 (fun vs H Q E h=>?_) (fun cdv A outer s H vs Q E hr h=>?_)
 ·obtain ⟨k,l,us,ts,rfl,_⟩ := h
  rfl
 obtain ⟨k,l,us,ts,rfl,hl,ht,q⟩ := h
 refine ⟨_,B4 (D4 (eZ (E1 N4 (G1 K4 rfl m1 PySem.boot_len (A9 (pv 1) B0)) B7 (D9 _)) (G5 K5 (pv 1) B7 (fun _ _=>rfl))
  (M6 (A9 (pv 0) (A9 (N9 U1 rfl m2 bV (A9 (pv 1) B0)) B0))))),?_⟩
 refine ⟨_,rfl,l,_,rfl,.inl (SqL.of hl),rfl,_,rfl,?_⟩
 have hlen := ht.length
 by_cases e : us.length = 1
 ·rw [decide_eq_true (p := V.int (us.length : Int) = V.int 1) (by rw [e]; rfl)]
  obtain ⟨u,rfl⟩ : ∃ u,us = [u] := by
   match us,e with
   | [u],_=>exact ⟨u,rfl⟩
  obtain ⟨x,rfl⟩ : ∃ x,ts = [x] := by
   match ts,hlen with
   | [x],_=>exact ⟨x,rfl⟩
  simp only [TAll] at ht
  obtain ⟨y,r,e1,h1,e2⟩ := ht
  cases e1
  exact E8 ⟨_,rfl,l,_,_,u,rfl,rfl,SqL.of hl,rfl,q _ _ uT h1⟩
 ·rw [decide_eq_false (fun z=>e (by have := V.int.inj z; omega))]
  refine F0 ⟨_,rfl,_,rfl,l,_,rfl,.inl ⟨SqL.of hl,fun p hp=>⟨Q6,fun p2 hp2=>?_⟩⟩⟩
  have k1 := B8 hp (.tup us)
  have k2 := B8 hp2 (.tup [.str (S k),.ref p])
  refine q _ _ (k1.trans k2) ?_
  have e3 : one k ts = .tup [.str k,.tup ts] := by
   unfold one
   split
   ·rename_i t _; exact absurd hlen (by simpa using e)
   ·rfl
  rw [e3]
  exact TV.tup (SqT.of B1) (TAll.cons TV.str (TAll.one (TV.tup (SqT.of (k2 _ _ B1)) (ht.kp (Kp.same (k1.trans k2))))))
end
end Law
namespace Law
open PySem L2 L2.Sp
theorem lRb : (Str.ofString "]" : Str) = S [93] := by decide +kernel
theorem lRc : (Str.ofString "}" : Str) = S [125] := by decide +kernel
theorem lQ : (Str.ofString "?" : Str) = S [63] := by decide +kernel
theorem AS7 : (Str.ofString ":" : Str) = S [58] := by decide +kernel
theorem AZ9 : (Str.ofString "list" : Str) = S jG := by decide +kernel
theorem BE9 : (Str.ofString "record" : Str) = S nT := by decide +kernel
section
variable {P : Program} {w : World} {K : PySem.W.Frag} {mg : Str → Option Value} {base : Heap} {f : Addr} {fd : FuncData} {R C : Addr} {X : Bool → List Wd → R9 → Prop}
def pW (K : PySem.W.Frag) : Hp → Tn → V → Prop := fun H x v=>TV K H x v
def kW (K : PySem.W.Frag) (R C : Addr) (X : Bool → List Wd → R9 → Prop) : Sp := fun args H Q E=>∃ rd dx wl ws t free res,args = [.ref rd,.bl free] ∧ RD H R rd dx wl ws t ∧ X free (ws.drop t) res ∧ PO C (pW K) H R rd dx wl ws t res Q E
def sU {α : Type} (val : Hp → α → V → Prop) (R C : Addr) (Y : List Wd → Option (α × List Wd) → Prop) : Sp := fun args H Q E=>∃ rd dx wl ws t res,args = [.ref rd] ∧ RD H R rd dx wl ws t ∧ t ≤ ws.length ∧ Y (ws.drop t) res ∧ PO C val H R rd dx wl ws t res Q E
theorem fH {H H1 : Hp} {rd dx wl l : Addr} {ws : List Wd} {t : Nat} (s : RS H H1 R rd dx wl ws t) (hl : H1 l = none) : H l = none := by
 cases e : H l with
 | none=>rfl
 | some o =>
  by_cases e2 : l = rd
  ·rw [e2,s.st.ob] at hl; cases hl
  ·rw [s.g l o e2 e] at hl; cases hl
abbrev Z9 : Stmt := O5 40
theorem sV : D7 ["reader","items"] ["reader"] (B3 Z9) := ⟨rfl,rfl,rfl,by decide +kernel,rfl,by decide +kernel,by decide +kernel⟩
theorem AA5 {k : Nat} (F : Fun K "list_tree" "list_tree" Z9 f fd) (EX : K8 P w K mg base k "expression" ["reader","free"] (kW K R C X)) (HAS : K8 P w K mg base 4 "has_another" ["reader","close","count"] (lA R C)) (ENDT : K8 P w K mg base 4 "takes_end" ["reader","close"] (gA R C)) (m1 : mg "len" = none) (m2 : mg "tuple" = none) (hk : 4 ≤ k) :
  FnOk P w K mg base (M0 P w) (k + 1) f fd ["reader"] (sU (pW K) R C (mO X)) := by
 refine Fun.ok1 F sV (fun vs H Q E h=>?_) (fun cdv A outer s H vs Q E hr h=>?_)
 ·obtain ⟨rd,dx,wl,ws,t,res,rfl,_⟩ := h
  rfl
 obtain ⟨rd,dx,wl,ws,t,res,rfl,h,ht,hp,q⟩ := h
 have hr4 := hr.mono hk
 refine ⟨_,B2 (D3 (i := 1) sV.nd rfl (Or.inl rfl) (J0 B0))
  (B2 (R5 PassesOwn.leaving (O7 (J9 HAS hr4 rfl (G0 (E' := E) fun _ _ _ h=>h) (A9 (pv 0) (A9 B9 (A9 (G1 K4 rfl m1 PySem.boot_len (A9 (pv 1) B0)) B0)))))
   (B4 (G4 (O0 PySem.F.plainAttrs_list PySem.F.slot_list_append PySem.F.type_list_append J7 (pv 1) (A9 (J9 EX hr rfl (G0 (E' := E) fun _ _ _ h=>h) (A9 (pv 0) (A9 Z3 B0))) B0)))))
  (B4 (D4 (M6 (A9 B9 (A9 (N9 U1 rfl m2 bV (A9 (pv 1) B0)) (A9 (J9 ENDT hr4 rfl (G0 (E' := E) fun _ _ _ h=>h) (A9 (pv 0) (A9 B9 B0))) B0))))))),?_⟩
 obtain ⟨k0,ires,hi,rfl⟩ := hp
 have S0 := RS.start h
 have wl0 := h.ok.len
 refine ⟨Y0,fun l hl=>?_⟩
 have S1 := S0.put (o := .lst []) hl
 refine ⟨fun m σ H'=>∃ (ts : List Tn) (vs : List V) (t' : Nat),σ = [some (.ref rd),some (.ref l)] ∧ RS H H' R rd dx wl ws t' ∧ H' l = some (.lst vs) ∧ TAll K H' ts vs ∧ S8 X m ts (ws.drop t') ires ∧ ts.length ≤ t' ∧ t ≤ t' ∧ t' ≤ ws.length,⟨k0,[],[],t,rfl,S1,B1,TAll.nil,hi,Nat.zero_le _,Nat.le_refl _,ht⟩,?_⟩
 rintro m σ H' ⟨ts,us,t',rfl,s',hl',hts,hip,hlen,h1,h2⟩
 have nl : l ≠ rd := s'.none hl hl'
 have hul := hts.length
 refine ⟨_,rfl,_,rfl,l,_,rfl,.inl (SqL.of hl'),rd,dx,wl,ws,t',[93],ts.length,by rw [lRb,hul]; rfl,s'.st,h2,by simp,?_⟩
 generalize hdr : ws.drop t' = rr at hip ⊢
 cases hip with
 | @stop _ _ r1 hh =>
  rw [hh]
  intro H2 t2 g2 d2 e2 le2 lt2
  refine ⟨_,rfl,F0 ?_⟩
  have s2 := s'.more g2 d2
  have hl2 := g2 _ _ nl hl'
  have hts2 := hts.kp (Kp.grow g2 s'.st)
  refine ⟨_,rfl,l,_,rfl,.inl ⟨SqL.of hl2,fun p hp=>?_⟩⟩
  have kp := B8 hp (.tup us)
  have s3 := s2.same kp
  refine ⟨_,rfl,rd,dx,wl,ws,t2,[93],by rw [lRb]; rfl,s3.st,by simp,dB 93 (by decide),?_⟩
  rw [e2]
  dsimp only at q
  cases he : aL [93] r1 with
  | none =>
   rw [he] at q
   intro H4 g4
   exact q H4 (s3.g.trans g4)
  | some br =>
   obtain ⟨b,r2⟩ := br
   rw [he] at q
   intro H4 t4 g4 d4 e4 le4 lt4
   have s4 := s3.more g4 d4
   have np : p ≠ rd := fun e=>by rw [e,s2.st.ob] at hp; cases hp
   refine ⟨bQ,fun p2 hp2=>?_⟩
   have kp2 := B8 hp2 (.tup [.str (Str.ofString "list"),.ref p,.bl b])
   have s5 := s4.same kp2
   refine q _ _ t4 s5.g s5.st e4 (by omega) lt4 ?_
   have k5 : Kp K H2 _ := (Kp.same kp).trans ((Kp.grow g4 s3.st).trans (Kp.same kp2))
   have hp4 := kp2 _ _ (g4 p _ np B1)
   refine TV.tup (SqT.of (by rw [B1,AZ9])) (TAll.cons TV.str (TAll.cons (TV.tup (SqT.of hp4) (hts2.kp k5)) (TAll.one TV.bl)))
 | @on k' _ _ r1 x r2 _ hh hx hk2 =>
  rw [hh]
  intro H2 t2 g2 d2 e2 le2 lt2
  refine ⟨_,rfl,E8 ?_⟩
  have s2 := s'.more g2 d2
  have hl2 := g2 _ _ nl hl'
  have hts2 := hts.kp (Kp.grow g2 s'.st)
  refine ⟨fun σ' H''=>∃ (vs : List V) (t'' : Nat),σ' = [some (.ref rd),some (.ref l)] ∧ RS H H'' R rd dx wl ws t'' ∧ H'' l = some (.lst vs) ∧ TAll K H'' (ts ++ [x]) vs ∧ S8 X k' (ts ++ [x]) (ws.drop t'') ires ∧ (ts ++ [x]).length ≤ t'' ∧ t ≤ t'' ∧ t'' ≤ ws.length,fun σ' H'' hh=>?_,?_⟩
  ·obtain ⟨vs,t'',a⟩ := hh
   exact ⟨k',Nat.lt_succ_self _,ts ++ [x],vs,t'',a⟩
  refine ⟨_,rfl,.inl ⟨rfl,_,SqL.of hl2⟩,_,rfl,rd,dx,wl,ws,t2,false,_,rfl,s2.st,by rw [e2]; exact hx,?_⟩
  intro v H3 t3 g3 d3 e3 lt3 le3 hv
  have s3 := s2.more g3 d3
  have hl3 := g3 _ _ nl hl2
  have hts3 := hts2.kp (Kp.grow g3 s2.st)
  have kl : Kp K H3 (B6 H3 l (.lst (us ++ [v]))) := Kp.lst hl3
  exact ⟨l,_,_,rfl,rfl,hl3,fX (by omega),_,t3,rfl,s3.put hl,B1,(hts3.kp kl).append (TAll.one (TV.kp kl hv)),by rw [e3]; exact hk2,by rw [List.length_append,List.length_singleton]; omega,by omega,le3⟩
 | @bad _ _ hh =>
  rw [hh]
  intro H2 g2
  exact q H2 (s'.g.trans g2)
 | @worse _ _ r1 hh hx =>
  rw [hh]
  intro H2 t2 g2 d2 e2 le2 lt2
  refine ⟨_,rfl,E8 ?_⟩
  have s2 := s'.more g2 d2
  have hl2 := g2 _ _ nl hl'
  refine ⟨fun _ _=>False,fun _ _ z=>z.elim,?_⟩
  refine ⟨_,rfl,.inl ⟨rfl,_,SqL.of hl2⟩,_,rfl,rd,dx,wl,ws,t2,false,_,rfl,s2.st,by rw [e2]; exact hx,?_⟩
  intro H3 g3
  exact q H3 (s2.g.trans g3)
abbrev aA : Stmt := O5 44
theorem mU : D7 ["reader","name","must"] ["reader"] (B3 aA) := ⟨rfl,rfl,rfl,by decide +kernel,rfl,by decide +kernel,by decide +kernel⟩
def valF (K : PySem.W.Frag) : Hp → Wd × Tn × Bool → V → Prop := fun H x v=>∃ a u,v = .ref a ∧ SqT K H a [.str (S x.1),u,.bl x.2.2] ∧ TV K H x.2.1 u
theorem AA7 {k : Nat} (F : Fun K "field_of" "field_of" aA f fd) (c : RK K R) (EX : K8 P w K mg base k "expression" ["reader","free"] (kW K R C X)) (NAME : K8 P w K mg base 3 "name_of" ["reader"] (bE R C)) (TS : P2 P w K mg base K3 R 2 "takes" ["self","word"] (X2 R)) (MU : P2 P w K mg base (M0 P w) R 3 "must_take" ["self","word"] (bF R C)) (hk : 4 ≤ k) :
  FnOk P w K mg base (M0 P w) (k + 1) f fd ["reader"] (sU (valF K) R C (R7 X)) := by
 refine Fun.ok1 F mU (fun vs H Q E h=>?_) (fun cdv A outer s H vs Q E hr h=>?_)
 ·obtain ⟨rd,dx,wl,ws,t,res,rfl,_⟩ := h
  rfl
 obtain ⟨rd,dx,wl,ws,t,res,rfl,h,ht,hp,q⟩ := h
 have hr3 := hr.mono (show 3 ≤ k by omega)
 have hr2 := hr.mono (show 2 ≤ k by omega)
 refine ⟨_,B2 (D3 (i := 1) mU.nd rfl (Or.inl rfl) (J9 NAME hr3 rfl (G0 (E' := E) fun _ _ _ h=>h) (A9 (pv 0) B0)))
  (U2 (D3 (i := 2) mU.nd rfl (Or.inl rfl) (wU (N7 TS c hr2 M8 (pv 0) (A9 B9 B0))))
  (B2 (G4 (N7 MU c hr3 (G0 (E' := E) fun _ _ _ h=>h) (pv 0) (A9 B9 B0)))
  (B4 (D4 (M6 (A9 (pv 1) (A9 (J9 EX hr rfl (G0 (E' := E) fun _ _ _ h=>h) (A9 (pv 0) (A9 Z3 B0))) (A9 (pv 2) B0)))))))),?_⟩
 have S0 := RS.start h
 unfold R7 at hp
 refine ⟨_,rfl,rd,dx,wl,ws,t,rfl,h,fun H1 g1=>?_⟩
 have S1 := S0.step g1
 by_cases hb : E2 (hd (ws.drop t)) = true
 ·rw [if_pos hb] at hp ⊢
  rw [← V6,← V6,← V6] at hp
  refine ⟨fun σ' H'=>∃ (t' : Nat) (b : Bool),σ' = [some (.ref rd),some (.str (S (hd (ws.drop t)))),some (.bl b)] ∧ RS H H' R rd dx wl ws t' ∧ t < t' ∧ (if hd (ws.drop t') = [58] then ∃ xres,X false (ws.drop (t' + 1)) xres ∧ res = xres.map fun p=>((hd (ws.drop t),p.1,b),p.2) else res = none),?_,?_⟩
  ·refine ⟨_,rfl,rd,dx,_,rfl,S1.st.ob,rfl,rd,dx,wl,ws,t + 1,[63],by rw [lQ]; rfl,S1.st,?_⟩
   by_cases e : hd (ws.drop (t + 1)) = [63]
   ·rw [if_pos e] at hp
    exact K7 e ⟨_,rfl,t + 1 + 1,false,rfl,S1.up (t + 1 + 1),by omega,hp⟩
   ·rw [if_neg e] at hp
    exact E9 e ⟨_,rfl,t + 1,true,rfl,S1,by omega,hp⟩
  ·rintro σ' H' ⟨t',b,rfl,s',h1,hq⟩
   refine ⟨_,rfl,rd,dx,_,rfl,s'.st.ob,rfl,rd,dx,wl,ws,t',[58],by rw [AS7]; rfl,s'.st,dB 58 (by decide),?_⟩
   by_cases e : hd (ws.drop t') = [58]
   ·rw [if_pos e] at hq
    obtain ⟨xres,hx,rfl⟩ := hq
    have s2 := s'.up (t' + 1)
    refine K7 e ⟨_,rfl,_,rfl,rd,dx,wl,ws,t' + 1,false,xres,rfl,s2.st,hx,?_⟩
    cases xres with
    | none =>
     intro H3 g3
     exact q H3 (s2.g.trans g3)
    | some p =>
     obtain ⟨x,r⟩ := p
     intro v H3 t3 g3 d3 e3 lt3 le3 hv
     have s3 := s2.more g3 d3
     refine ⟨_,rfl,bQ,fun p hp=>?_⟩
     have kp := B8 hp (.tup [.str (S (hd (ws.drop t))),v,.bl b])
     have s4 := s3.same kp
     exact q _ _ t3 s4.g s4.st e3 (by omega) le3 ⟨p,v,rfl,SqT.of B1,TV.kp (Kp.same kp) hv⟩
   ·rw [if_neg e] at hq
    subst hq
    exact E9 e (q _ (s'.up (t' + 1)).g)
 ·rw [if_neg hb] at hp ⊢
  subst hp
  exact q _ S1.g
end
end Law
namespace Law
open PySem L2 L2.Sp
theorem AZ8 : (Str.ofString "!" : Str) = S [33] := by decide +kernel
theorem AS9 : (Str.ofString "&" : Str) = S [38] := by decide +kernel
theorem AS8 : (Str.ofString "|" : Str) = S [124] := by decide +kernel
theorem AZ1 : (Str.ofString "not" : Str) = S vF := by decide +kernel
theorem vD : (Str.ofString "and" : Str) = S Y2 := by decide +kernel
theorem BE8 : (Str.ofString "or" : Str) = S eG := by decide +kernel
theorem yU {a b : List Nat} (h : S a = S b) : a = b := AG2.mp (by rw [h])
theorem xU (x : Wd) (xs : List Wd) : eI (.str (S x)) (ST xs) = decide (x ∈ xs) := by
 have := rE (S x) (xs.map S)
 rw [List.map_map] at this
 rw [show ST xs = xs.map (V.str ∘ S) from rfl,this,Bool.eq_iff_iff,decide_eq_true_iff,decide_eq_true_iff,List.mem_map]
 constructor
 ·rintro ⟨a,ha,e⟩; rw [← yU e]; exact ha
 ·intro h; exact ⟨x,h,rfl⟩
theorem AM9 (xs : List Wd) : (ST xs).all aR = true := by
 rw [List.all_eq_true]
 intro v hv
 obtain ⟨a,_,rfl⟩ := List.mem_map.mp hv
 rfl
theorem AD0 {r : List Wd} : ∀ {j : Nat},j < O9 r → hd (r.drop j) = [33] := by
 induction r with
 | nil=>intro j h; exact absurd h (Nat.not_lt_zero _)
 | cons x r ih =>
  intro j h
  unfold O9 at h
  by_cases e : x = [33]
  ·rw [List.takeWhile_cons_of_pos (by simpa using e),List.length_cons] at h
   cases j with
   | zero=>exact e
   | succ j=>exact ih (j := j) (by unfold O9; omega)
  ·rw [List.takeWhile_cons_of_neg (by simpa using e)] at h
   exact absurd h (Nat.not_lt_zero _)
theorem AD2 {r : List Wd} : hd (r.drop (O9 r)) ≠ [33] := by
 induction r with
 | nil=>intro h; cases h
 | cons x r ih =>
  unfold O9
  by_cases e : x = [33]
  ·rw [List.takeWhile_cons_of_pos (by simpa using e),List.length_cons,List.drop_succ_cons]
   exact ih
  ·rw [List.takeWhile_cons_of_neg (by simpa using e)]
   exact e
theorem AD1 (r : List Wd) : O9 r ≤ r.length := (List.takeWhile_sublist _).length_le
section
variable {P : Program} {w : World} {K : PySem.W.Frag} {mg : Str → Option Value} {base : Heap} {f : Addr} {fd : FuncData} {R C : Addr} {X : Bool → List Wd → R9 → Prop}
abbrev cE : Stmt := O5 41
theorem gB : D7 ["reader","fields","names","field","name"] ["reader"] (B3 cE) := ⟨rfl,rfl,rfl,by decide +kernel,rfl,by decide +kernel,by decide +kernel⟩
theorem vJ {r r2 : List Wd} {x : Wd × Tn × Bool} (h : R7 X r (some (x,r2))) : x.1 = hd r := by
 unfold R7 at h
 split at h
 ·split at h
  ·split at h
   ·obtain ⟨xres,_,e⟩ := h
    cases xres with
    | none=>cases e
    | some p=>cases e; rfl
   ·cases h
  ·split at h
   ·obtain ⟨xres,_,e⟩ := h
    cases xres with
    | none=>cases e
    | some p=>cases e; rfl
   ·cases h
 ·cases h
theorem valF.tv {H : Hp} {x : Wd × Tn × Bool} {v : V} (h : valF K H x v) : TV K H (fO x) v := by
 obtain ⟨a,u,rfl,h1,h2⟩ := h
 exact TV.tup h1 (TAll.cons TV.str (TAll.cons h2 (TAll.one TV.bl)))
theorem AK1 {k : Nat} (F : Fun K "record_tree" "record_tree" cE f fd) (n : NT K mg C) (FI : K8 P w K mg base k "field_of" ["reader"] (sU (valF K) R C (R7 X))) (HAS : K8 P w K mg base 4 "has_another" ["reader","close","count"] (lA R C)) (ENDT : K8 P w K mg base 4 "takes_end" ["reader","close"] (gA R C)) (m1 : mg "len" = none) (m2 : mg "tuple" = none) (hk : 4 ≤ k) :
  FnOk P w K mg base (M0 P w) (k + 1) f fd ["reader"] (sU (pW K) R C (rW X)) := by
 refine Fun.ok1 F gB (fun vs H Q E h=>?_) (fun cdv A outer s H vs Q E hr h=>?_)
 ·obtain ⟨rd,dx,wl,ws,t,res,rfl,_⟩ := h
  rfl
 obtain ⟨rd,dx,wl,ws,t,res,rfl,h,ht,hp,q⟩ := h
 have hr4 := hr.mono hk
 refine ⟨_,B2 (D3 (i := 1) gB.nd rfl (Or.inl rfl) (J0 B0))
  (B2 (D3 (i := 2) gB.nd rfl (Or.inl rfl) zX)
  (B2 (R5 PassesOwn.leaving (O7 (J9 HAS hr4 rfl (G0 (E' := E) fun _ _ _ h=>h) (A9 (pv 0) (A9 B9 (A9 (G1 K4 rfl m1 PySem.boot_len (A9 (pv 1) B0)) B0)))))
   (B2 (D3 (i := 3) gB.nd rfl (Or.inl rfl) (J9 FI hr rfl (G0 (E' := E) fun _ _ _ h=>h) (A9 (pv 0) B0)))
   (B2 (D3 (i := 4) gB.nd rfl (Or.inl rfl) (G5 aG (pv 3) B7 (fun _ _=>rfl)))
   (B2 (G3 (wS (AQ6 (AF7 hr) (pv 4) (pv 2))) (B4 (R6 PySem.F.excBase_ValueError n.xc rfl n.mg (A9 (aZ (lL (pv 4) (W2 dU))) B0))) E4)
   (B2 (sY (AF7 hr) (pv 2) (pv 4) Z3 rfl)
   (B4 (G4 (O0 PySem.F.plainAttrs_list PySem.F.slot_list_append PySem.F.type_list_append J7 (pv 1) (A9 (pv 3) B0)))))))))
  (B4 (D4 (M6 (A9 B9 (A9 (N9 U1 rfl m2 bV (A9 (pv 1) B0)) (A9 (J9 ENDT hr4 rfl (G0 (E' := E) fun _ _ _ h=>h) (A9 (pv 0) (A9 B9 B0))) B0)))))))),?_⟩
 obtain ⟨k0,fres,hi,rfl⟩ := hp
 have S0 := RS.start h
 have wl0 := h.ok.len
 refine ⟨Y0,fun l hl=>fun dn oS=>?_⟩
 have S1 := S0.put (o := .lst []) hl
 have hdn0 : H dn = none := fH S1 oS
 have nld : l ≠ dn := fun e=>by rw [← e,B1] at oS; cases oS
 have S2 := S1.put (o := .dK []) hdn0
 refine ⟨fun m σ H'=>∃ (fs : List (Wd × Tn × Bool)) (vs : List V) (kvs : List (K1 × V)) (t' : Nat) (b3 b4 : Option V),σ = [some (.ref rd),some (.ref l),some (.ref dn),b3,b4] ∧ RS H H' R rd dx wl ws t' ∧ H' l = some (.lst vs) ∧ TAll K H' (fs.map fO) vs ∧
   (H' dn = some (.dK kvs) ∧ kvs.length ≤ fs.length ∧ ∀ u : Wd,(P3 kvs (.inr (S u))).isSome = true ↔ u ∈ fs.map (·.1)) ∧ P1 X m fs (ws.drop t') fres ∧ fs.length ≤ t' ∧ t ≤ t' ∧ t' ≤ ws.length,
  ⟨k0,[],[],[],t,none,none,rfl,S2,by rw [B5 nld]; exact B1,TAll.nil,⟨B1,Nat.le_refl _,fun u=>⟨fun z=>(by cases z),fun z=>(by cases z)⟩⟩,hi,Nat.zero_le _,Nat.le_refl _,ht⟩,?_⟩
 rintro m σ H' ⟨fs,us,kvs,t',b3,b4,rfl,s',hl',hts,⟨hdn',hkl,hkv⟩,hip,hlen,h1,h2⟩
 have nl : l ≠ rd := s'.none hl hl'
 have nd : dn ≠ rd := s'.none hdn0 hdn'
 have hul := hts.length
 rw [List.length_map] at hul
 refine ⟨_,rfl,_,rfl,l,_,rfl,.inl (SqL.of hl'),rd,dx,wl,ws,t',[125],fs.length,by rw [lRc,hul]; rfl,s'.st,h2,by simp,?_⟩
 generalize hdr : ws.drop t' = rr at hip ⊢
 have turn : ∀ {r1 : List Wd} {x : Wd × Tn × Bool} {r2 : List Wd} {H2 : Hp} {t2 : Nat},R7 X r1 (some (x,r2)) → ws.drop t2 = r1 → S6 x.1 := fun {r1 x r2 H2 t2} hx e2=>by
  rw [vJ hx,← e2]
  exact h.ok.small t2
 cases hip with
 | @stop _ _ r1 hh =>
  rw [hh]
  intro H2 t2 g2 d2 e2 le2 lt2
  refine ⟨_,rfl,F0 ?_⟩
  have s2 := s'.more g2 d2
  have hl2 := g2 _ _ nl hl'
  have hts2 := hts.kp (Kp.grow g2 s'.st)
  refine ⟨_,rfl,l,_,rfl,.inl ⟨SqL.of hl2,fun p hp=>?_⟩⟩
  have kp := B8 hp (.tup us)
  have s3 := s2.same kp
  refine ⟨_,rfl,rd,dx,wl,ws,t2,[125],by rw [lRc]; rfl,s3.st,by simp,dB 125 (by decide),?_⟩
  rw [e2]
  dsimp only at q
  cases he : aL [125] r1 with
  | none =>
   rw [he] at q
   intro H4 g4
   exact q H4 (s3.g.trans g4)
  | some br =>
   obtain ⟨b,r2⟩ := br
   rw [he] at q
   intro H4 t4 g4 d4 e4 le4 lt4
   have s4 := s3.more g4 d4
   have np : p ≠ rd := fun e=>by rw [e,s2.st.ob] at hp; cases hp
   refine ⟨bQ,fun p2 hp2=>?_⟩
   have kp2 := B8 hp2 (.tup [.str (Str.ofString "record"),.ref p,.bl b])
   have s5 := s4.same kp2
   refine q _ _ t4 s5.g s5.st e4 (by omega) lt4 ?_
   have k5 : Kp K H2 _ := (Kp.same kp).trans ((Kp.grow g4 s3.st).trans (Kp.same kp2))
   have hp4 := kp2 _ _ (g4 p _ np B1)
   refine TV.tup (SqT.of (by rw [B1,BE9])) (TAll.cons TV.str (TAll.cons (TV.tup (SqT.of hp4) (hts2.kp k5)) (TAll.one TV.bl)))
 | @on k' _ _ r1 x r2 _ hh hx hnx hk2 =>
  rw [hh]
  intro H2 t2 g2 d2 e2 le2 lt2
  refine ⟨_,rfl,E8 ?_⟩
  have s2 := s'.more g2 d2
  have hl2 := g2 _ _ nl hl'
  have hdn2 := g2 _ _ nd hdn'
  have hts2 := hts.kp (Kp.grow g2 s'.st)
  refine ⟨fun σ' H''=>∃ (vs : List V) (kvs : List (K1 × V)) (t'' : Nat) (b3 b4 : Option V),σ' = [some (.ref rd),some (.ref l),some (.ref dn),b3,b4] ∧ RS H H'' R rd dx wl ws t'' ∧ H'' l = some (.lst vs) ∧ TAll K H'' ((fs ++ [x]).map fO) vs ∧
   (H'' dn = some (.dK kvs) ∧ kvs.length ≤ (fs ++ [x]).length ∧ ∀ u : Wd,(P3 kvs (.inr (S u))).isSome = true ↔ u ∈ (fs ++ [x]).map (·.1)) ∧ P1 X k' (fs ++ [x]) (ws.drop t'') fres ∧ (fs ++ [x]).length ≤ t'' ∧ t ≤ t'' ∧ t'' ≤ ws.length,fun σ' H'' hh=>?_,?_⟩
  ·obtain ⟨vs,kvs,t'',b3,b4,a⟩ := hh
   exact ⟨k',Nat.lt_succ_self _,fs ++ [x],vs,kvs,t'',b3,b4,a⟩
  refine ⟨_,rfl,rd,dx,wl,ws,t2,_,rfl,s2.st,lt2,by rw [e2]; exact hx,?_⟩
  intro v H3 t3 g3 d3 e3 lt3 le3 hv
  have s3 := s2.more g3 d3
  have hl3 := g3 _ _ nl hl2
  have hdn3 := g3 _ _ nd hdn2
  have hts3 := hts2.kp (Kp.grow g3 s2.st)
  have hv' := hv
  obtain ⟨a,u,rfl,ha,hu⟩ := hv'
  refine ⟨_,rfl,a,_,_,.str (S x.1),rfl,rfl,ha,rfl,?_⟩
  have hno : (P3 kvs (.inr (S x.1))).isSome = false := Bool.eq_false_iff.mpr fun z=>hnx ((hkv x.1).mp z)
  refine ⟨_,rfl,_,rfl,dn,_,rfl,DGet.k (k := .inr (S x.1)) hdn3,_,rfl,?_⟩
  rw [hno]
  refine F0 ⟨_,rfl,_,rfl,dn,_,rfl,DPut.k (k := .inr (S x.1)) hdn3 (fX (by omega)),?_⟩
  have kd : Kp K H3 (B6 H3 dn (.dK (Q8 kvs (.inr (S x.1)) (.bl true)))) := Kp.dct hdn3
  have s4 := s3.put (o := .dK (Q8 kvs (.inr (S x.1)) (.bl true))) hdn0
  have hl4 : B6 H3 dn (.dK (Q8 kvs (.inr (S x.1)) (.bl true))) l = some (.lst us) := by rw [B5 nld]; exact hl3
  refine ⟨_,rfl,.inl ⟨rfl,_,SqL.of hl4⟩,_,rfl,l,_,_,rfl,rfl,hl4,fX (by omega),?_⟩
  have kl := Kp.lst (K := K) (o := .lst (us ++ [.ref a])) hl4
  refine ⟨_,_,t3,_,_,rfl,s4.put hl,B1,?_,⟨by rw [B5 (Ne.symm nld)]; exact B1,?_,fun u=>?_⟩,by rw [e3]; exact hk2,by rw [List.length_append,List.length_singleton]; omega,by omega,le3⟩
  ·rw [List.map_append]
   exact (hts3.kp (kd.trans kl)).append (TAll.one (TV.kp (kd.trans kl) hv.tv))
  ·have := Z4 kvs (.inr (S x.1)) (.bl true)
   rw [List.length_append,List.length_singleton]; omega
  ·rw [zC,List.map_append,List.mem_append]
   by_cases e : u = x.1
   ·subst e; simp
   ·rw [if_neg (fun z=>e (yU (Sum.inr.inj z))),hkv u]
    simp [e]
 | @bad _ _ hh =>
  rw [hh]
  intro H2 g2
  exact q H2 (s'.g.trans g2)
 | @worse _ _ r1 hh hx =>
  rw [hh]
  intro H2 t2 g2 d2 e2 le2 lt2
  refine ⟨_,rfl,E8 ?_⟩
  have s2 := s'.more g2 d2
  refine ⟨fun _ _=>False,fun _ _ z=>z.elim,?_⟩
  refine ⟨_,rfl,rd,dx,wl,ws,t2,_,rfl,s2.st,lt2,by rw [e2]; exact hx,?_⟩
  intro H3 g3
  exact q H3 (s2.g.trans g3)
 | @twice _ _ r1 x r2 hh hx hnx =>
  rw [hh]
  intro H2 t2 g2 d2 e2 le2 lt2
  refine ⟨_,rfl,E8 ?_⟩
  have s2 := s'.more g2 d2
  have hdn2 := g2 _ _ nd hdn'
  refine ⟨fun _ _=>False,fun _ _ z=>z.elim,?_⟩
  refine ⟨_,rfl,rd,dx,wl,ws,t2,_,rfl,s2.st,lt2,by rw [e2]; exact hx,?_⟩
  intro v H3 t3 g3 d3 e3 lt3 le3 hv
  have s3 := s2.more g3 d3
  have hdn3 := g3 _ _ nd hdn2
  obtain ⟨a,u,rfl,ha,hu⟩ := hv
  have hsm := turn (H2 := H2) hx e2
  refine ⟨_,rfl,a,_,_,.str (S x.1),rfl,rfl,ha,rfl,?_⟩
  refine ⟨_,rfl,_,rfl,dn,_,rfl,DGet.k (k := .inr (S x.1)) hdn3,_,rfl,?_⟩
  rw [(hkv x.1).mpr hnx]
  exact E8 ⟨_,rfl,_,rfl,by rw [O2]; exact hsm.1,hsm.2,fun r=>⟨S4,q _ s3.g⟩⟩
end
end Law
namespace Law
open PySem L2 L2.Sp
section
variable {P : Program} {w : World} {K : PySem.W.Frag} {mg : Str → Option Value} {base : Heap} {f : Addr} {fd : FuncData} {R C : Addr} {X : Bool → List Wd → R9 → Prop}
abbrev cF : Stmt := O5 36
theorem dF : D7 ["reader","free","times","tree","turn"] ["reader","free"] (B3 cF) := ⟨rfl,rfl,rfl,by decide +kernel,rfl,by decide +kernel,by decide +kernel⟩
theorem AK4 {k : Nat} (F : Fun K "negated" "negated" cF f fd) (c : RK K R) (SG : K8 P w K mg base k "single" ["reader","free"] (kW K R C (R4 X))) (TS : P2 P w K mg base K3 R 2 "takes" ["self","word"] (X2 R)) (m1 : mg "range" = none) (hk : 4 ≤ k) :
  FnOk P w K mg base (M0 P w) (k + 1) f fd ["reader","free"] (kW K R C (bW X)) := by
 refine Fun.ok1 F dF (fun vs H Q E h=>?_) (fun cdv A outer s H vs Q E hr h=>?_)
 ·obtain ⟨rd,dx,wl,ws,t,free,res,rfl,_⟩ := h
  rfl
 obtain ⟨rd,dx,wl,ws,t,free,res,rfl,h,hp,q⟩ := h
 have hr2 := hr.mono (show 2 ≤ k by omega)
 refine ⟨_,B2 (D3 (i := 2) dF.nd rfl (Or.inl rfl) B7)
  (B2 (R5 PassesOwn.leaving (O7 (N7 TS c hr2 M8 (pv 0) (A9 B9 B0))) (B4 (X9 (i := 2) dF.nd rfl (Or.inl rfl) B7 lX)))
  (B2 (D3 (i := 3) dF.nd rfl (Or.inl rfl) (J9 SG hr rfl (G0 (E' := E) fun _ _ _ h=>h) (A9 (pv 0) (A9 (bJ (pv 1) (aD (N8 N4 (pv 2) B7 (D9 _)))) B0))))
  (B2 (aB PassesOwn.leaving rfl (aC rfl m1 (A9 (pv 2) B0)) (M3 (i := 4) dF.nd rfl (Or.inl rfl)) (B4 (D3 (i := 3) dF.nd rfl (Or.inl rfl) (M6 (A9 B9 (A9 (pv 3) B0))))))
  (B4 (D4 (pv 3)))))),?_⟩
 obtain ⟨sres,hs,rfl⟩ := hp
 have S0 := RS.start h
 have wl0 := h.ok.len
 have hbl := AD1 (ws.drop t)
 rw [List.length_drop] at hbl
 generalize hb : O9 (ws.drop t) = n at hs q hbl
 refine ⟨fun m σ H'=>∃ (j : Nat),σ = [some (.ref rd),some (.bl free),some (.int (j : Int)),none,none] ∧ RS H H' R rd dx wl ws (t + j) ∧ j ≤ n ∧ m = n - j,⟨n,0,rfl,S0,Nat.zero_le _,rfl⟩,?_⟩
 rintro m σ H' ⟨j,rfl,s',hj,rfl⟩
 refine ⟨_,rfl,rd,dx,_,rfl,s'.st.ob,rfl,rd,dx,wl,ws,t + j,[33],by rw [AZ8]; rfl,s'.st,?_⟩
 by_cases e : j < n
 ·have e1 : hd (ws.drop (t + j)) = [33] := by rw [← List.drop_drop]; exact AD0 (by rw [hb]; exact e)
  refine K7 e1 ⟨_,rfl,E8 ?_⟩
  refine ⟨fun σ' H''=>σ' = [some (.ref rd),some (.bl free),some (.int ((j + 1 : Nat) : Int)),none,none] ∧ RS H H'' R rd dx wl ws (t + (j + 1)),fun σ' H'' hh=>⟨n - (j + 1),by omega,j + 1,hh.1,hh.2,e,rfl⟩,?_⟩
  exact ⟨_,rfl,_,_,rfl,rfl,rfl,s'.up (t + j + 1)⟩
 ·have e0 : j = n := by omega
  subst e0
  have e1 : hd (ws.drop (t + j)) ≠ [33] := by rw [← List.drop_drop,← hb]; exact AD2
  refine E9 e1 ⟨_,rfl,F0 ?_⟩
  have e2 : ws.drop (t + j) = (ws.drop t).drop j := by rw [List.drop_drop]
  have arg : ∀ {Q' : V → Hp → Prop},Q' (.bl (free && decide (j = 0))) H' → AE1 (uI 1) (wC rEq (uI 2) (tC (.int 0))) [some (.ref rd),some (.bl free),some (.int (j : Int)),none,none] H' Q' := fun {Q'} hq=>by
   refine ⟨_,rfl,free,rfl,?_⟩
   cases free with
   | false=>exact F0 hq
   | true =>
    refine E8 ⟨_,rfl,rfl,?_⟩
    have : decide (V.int (j : Int) = V.int 0) = decide (j = 0) := by
     rw [Bool.eq_iff_iff,decide_eq_true_iff,decide_eq_true_iff]
     constructor
     ·intro z; have := V.int.inj z; omega
     ·intro z; rw [z]; rfl
    rw [this]
    exact hq
  refine ⟨_,rfl,arg ?_⟩
  refine ⟨rd,dx,wl,ws,t + j,_,sres,rfl,s'.st,by rw [e2]; exact hs,?_⟩
  cases sres with
  | none =>
   intro H3 g3
   exact q H3 (s'.g.trans g3)
  | some p =>
   obtain ⟨x,r⟩ := p
   intro v H3 t3 g3 d3 e3 lt3 le3 hv
   have s3 := s'.more g3 d3
   refine ⟨_,rfl,(j : Int),rfl,by omega,by omega,?_⟩
   refine cS (fun i σ H4=>∃ (u : V) (b4 : Option V),σ = [some (.ref rd),some (.bl free),some (.int (j : Int)),some u,b4] ∧ RS H H4 R rd dx wl ws t3 ∧ TV K H4 (uY i x) u) ⟨v,none,rfl,s3,hv⟩ (fun i σ H4 hi hinv=>?_) (fun σ H4 hinv=>?_)
   ·obtain ⟨u,b4,rfl,s4,hu⟩ := hinv
    refine ⟨_,rfl,Q6,fun p hp=>?_⟩
    have kp := B8 hp (.tup [.str (Str.ofString "not"),u])
    refine ⟨.ref p,_,rfl,s4.same kp,?_⟩
    exact TV.tup (SqT.of (by rw [B1,AZ1])) (TAll.cons TV.str (TAll.one (TV.kp (Kp.same kp) hu)))
   ·obtain ⟨u,b4,rfl,s4,hu⟩ := hinv
    exact ⟨_,rfl,q _ _ t3 s4.g s4.st e3 (by omega) le3 hu⟩
abbrev cH : Stmt := O5 34
theorem gC : D7 ["reader","free","alternatives","parts"] ["reader","free"] (B3 cH) := ⟨rfl,rfl,rfl,by decide +kernel,rfl,by decide +kernel,by decide +kernel⟩
theorem in2 {r : Wd} : eI (.str (S r)) [.str (S [38]),.str (S [124])] = (decide (r = [38]) || decide (r = [124])) := by
 have := xU r [[38],[124]]
 rw [show ST [[38],[124]] = [.str (S [38]),.str (S [124])] from rfl] at this
 rw [this,Bool.eq_iff_iff,decide_eq_true_iff,Bool.or_eq_true,decide_eq_true_iff,decide_eq_true_iff]
 simp
theorem AL0 {k : Nat} (F : Fun K "expression" "expression" cH f fd) (c : RK K R) (NG : K8 P w K mg base k "negated" ["reader","free"] (kW K R C (bW X))) (AH : P2 P w K mg base K3 R 1 "ahead" ["self","steps"] (V4 R)) (TK : P2 P w K mg base K3 R 2 "take" ["self"] (Z5 R)) (ON : Cal P w K mg base 1 "one_or_several" ["word","trees"] (pL K)) (hk : 4 ≤ k) :
  FnOk P w K mg base (M0 P w) (k + 1) f fd ["reader","free"] (kW K R C (sE X)) := by
 refine Fun.ok1 F gC (fun vs H Q E h=>?_) (fun cdv A outer s H vs Q E hr h=>?_)
 ·obtain ⟨rd,dx,wl,ws,t,free,res,rfl,_⟩ := h
  rfl
 obtain ⟨rd,dx,wl,ws,t,free,res,rfl,h,hp,q⟩ := h
 have hr2 := hr.mono (show 2 ≤ k by omega)
 have hr1 := hr.mono (show 1 ≤ k by omega)
 refine ⟨_,B2 (D3 (i := 2) gC.nd rfl (Or.inl rfl) (J0 B0))
  (B2 (D3 (i := 3) gC.nd rfl (Or.inl rfl) (J0 (A9 (J9 NG hr rfl (G0 (E' := E) fun _ _ _ h=>h) (A9 (pv 0) (A9 (pv 1) B0))) B0)))
  (B2 (R5 PassesOwn.leaving (E1 gQ (N7 AH c hr1 M8 (pv 0) (A9 B7 B0)) (M6 (A9 B9 (A9 B9 B0))) rfl)
   (U2 (G3 (E1 N4 (aY TK c hr2 M8 (pv 0)) B9 (D9 _))
     (B2 (G4 (O0 PySem.F.plainAttrs_list PySem.F.slot_list_append PySem.F.type_list_append J7 (pv 2) (A9 (E3 ON hr1 rfl (A9 B9 (A9 (pv 3) B0))) B0)))
     (B4 (D3 (i := 3) gC.nd rfl (Or.inl rfl) (J0 B0)))) E4)
   (B4 (G4 (O0 PySem.F.plainAttrs_list PySem.F.slot_list_append PySem.F.type_list_append J7 (pv 3) (A9 (J9 NG hr rfl (G0 (E' := E) fun _ _ _ h=>h) (A9 (pv 0) (A9 (pv 1) B0))) B0))))))
  (B2 (G4 (O0 PySem.F.plainAttrs_list PySem.F.slot_list_append PySem.F.type_list_append J7 (pv 2) (A9 (E3 ON hr1 rfl (A9 B9 (A9 (pv 3) B0))) B0)))
  (B4 (D4 (E3 ON hr1 rfl (A9 B9 (A9 (pv 2) B0)))))))),?_⟩
 obtain ⟨nres,hn,hm⟩ := hp
 have S0 := RS.start h
 have wl0 := h.ok.len
 refine ⟨Y0,fun la hla=>?_⟩
 have S1 := S0.put (o := .lst []) hla
 refine ⟨_,rfl,_,rfl,rd,dx,wl,ws,t,free,nres,rfl,S1.st,hn,?_⟩
 cases nres with
 | none =>
  subst hm
  intro H2 g2
  exact q H2 (S1.g.trans g2)
 | some p =>
  obtain ⟨x0,r0⟩ := p
  obtain ⟨k0,hm⟩ := hm
  intro v0 H2 t2 g2 d2 e2 lt2 le2 hv0
  have S2 := S1.more g2 d2
  have nla : la ≠ rd := S1.none hla B1
  have hla2 := g2 _ _ nla B1
  refine ⟨S4,fun lp hlp=>?_⟩
  have hlp0 := fH S2 hlp
  have nap : la ≠ lp := fun e=>by rw [← e,hla2] at hlp; cases hlp
  have kp0 := B8 hlp (.lst [v0])
  refine ⟨fun m σ H'=>∃ (alts parts : List Tn) (us vs : List V) (lp : Addr) (t' : Nat),σ = [some (.ref rd),some (.bl free),some (.ref la),some (.ref lp)] ∧ H lp = none ∧ la ≠ lp ∧ RS H H' R rd dx wl ws t' ∧ H' la = some (.lst us) ∧ H' lp = some (.lst vs) ∧ TAll K H' alts us ∧ TAll K H' parts vs ∧ U6 X m free alts parts (ws.drop t') res ∧ alts.length + parts.length ≤ t' ∧ t < t' ∧ t' ≤ ws.length,
   ⟨k0,[],[x0],[],[v0],lp,t2,rfl,hlp0,nap,S2.same kp0,kp0 _ _ hla2,B1,TAll.nil,TAll.one (TV.kp (Kp.same kp0) hv0),by rw [e2]; exact hm,(by show 0 + 1 ≤ t2; omega),lt2,le2⟩,?_⟩
  rintro m σ H' ⟨alts,parts,us,vs,lp,t',rfl,hlp0,nap,s',ha,hb,hta,htp,hmm,hlen,h1,h2⟩
  have na : la ≠ rd := s'.none hla ha
  have nb : lp ≠ rd := s'.none hlp0 hb
  have hul := hta.length
  have hvl := htp.length
  refine ⟨_,rfl,rd,dx,_,rfl,s'.st.ob,rfl,rd,dx,wl,ws,t',0,rfl,s'.st,Q6,fun pt hpt=>?_⟩
  have kt := B8 hpt (.tup [.str (Str.ofString "&"),.str (Str.ofString "|")])
  refine ⟨pt,_,rfl,.inr (SqT.of B1),rfl,rfl,_,rfl,?_⟩
  rw [mL,AS9,AS8]
  show if eI (.str (S (hd (ws.drop t')))) [.str (S [38]),.str (S [124])] = true then _ else _
  rw [in2]
  rw [AS9,AS8] at kt
  have st := s'.same kt
  have ha1 := kt _ _ ha
  have hb1 := kt _ _ hb
  have hta1 := hta.kp (Kp.same kt)
  have htp1 := htp.kp (Kp.same kt)
  generalize B6 H' pt (.tup [.str (S [38]),.str (S [124])]) = H3 at kt st ha1 hb1 hta1 htp1 ⊢
  generalize hdr : ws.drop t' = rr at hmm ⊢
  cases hmm with
  | stop e38 e124 =>
   rw [decide_eq_false e38,decide_eq_false e124]
   refine F0 ?_
   refine ⟨_,rfl,.inl ⟨rfl,_,SqL.of ha1⟩,_,rfl,Y2,lp,vs,parts,by rw [vD]; rfl,hb1,htp1,fun v H4 g4 hv=>?_⟩
   have s4 := st.same g4
   have ha4 := g4 _ _ ha1
   have hta4 := hta1.kp (Kp.same g4)
   refine ⟨la,_,_,rfl,rfl,ha4,fX (by omega),?_⟩
   have kl := Kp.lst (K := K) (o := .lst (us ++ [v])) ha4
   have s5 := s4.put (o := .lst (us ++ [v])) hla
   refine ⟨_,rfl,eG,la,us ++ [v],alts ++ [one Y2 parts],by rw [BE8]; rfl,B1,(hta4.kp kl).append (TAll.one (TV.kp kl hv)),fun v' H6 g6 hv'=>?_⟩
   exact q _ _ t' (s5.same g6).g (s5.same g6).st hdr h1 h2 hv'
  | @and k' _ _ _ r x r1 _ hng hk2 =>
   obtain ⟨dd1,dd2⟩ := cT hdr
   refine E8 ?_
   refine ⟨fun σ' H''=>∃ (alts parts : List Tn) (us vs : List V) (lp : Addr) (t'' : Nat),σ' = [some (.ref rd),some (.bl free),some (.ref la),some (.ref lp)] ∧ H lp = none ∧ la ≠ lp ∧ RS H H'' R rd dx wl ws t'' ∧ H'' la = some (.lst us) ∧ H'' lp = some (.lst vs) ∧ TAll K H'' alts us ∧ TAll K H'' parts vs ∧ U6 X k' free alts parts (ws.drop t'') res ∧ alts.length + parts.length ≤ t'' ∧ t < t'' ∧ t'' ≤ ws.length,fun σ' H'' hh=>⟨k',Nat.lt_succ_self _,hh⟩,?_⟩
   refine ⟨fun σ' H''=>σ' = [some (.ref rd),some (.bl free),some (.ref la),some (.ref lp)] ∧ H'' = P9 H3 R rd dx wl (t' + 1),?_,?_⟩
   ·refine ⟨_,rfl,rd,dx,_,rfl,st.st.ob,rfl,rd,dx,wl,ws,t',rfl,st.st,rfl,_,rfl,?_⟩
    rw [O1,hdr]
    exact F0 ⟨rfl,rfl⟩
   rintro σ1 H1 ⟨rfl,rfl⟩
   have s4 := st.up (t' + 1)
   have ha4 : P9 H3 R rd dx wl (t' + 1) la = some (.lst us) := by unfold P9; rw [B5 na]; exact ha1
   have hb4 : P9 H3 R rd dx wl (t' + 1) lp = some (.lst vs) := by unfold P9; rw [B5 nb]; exact hb1
   have ku := fK (K := K) (t' := t' + 1) st.st
   refine ⟨_,rfl,.inl ⟨rfl,_,SqL.of hb4⟩,_,rfl,_,rfl,rd,dx,wl,ws,t' + 1,free,_,rfl,s4.st,by rw [dd1]; exact hng,?_⟩
   intro v H5 t5 g5 d5 e5 lt5 le5 hv
   have s5 := s4.more g5 d5
   have ha5 := g5 _ _ na ha4
   have hb5 := g5 _ _ nb hb4
   have k5 := ku.trans (Kp.grow g5 s4.st)
   have kl := Kp.lst (K := K) (o := .lst (vs ++ [v])) hb5
   refine ⟨lp,_,_,rfl,rfl,hb5,fX (by omega),alts,parts ++ [x],us,vs ++ [v],lp,t5,rfl,hlp0,nap,s5.put hlp0,by rw [B5 nap]; exact ha5,B1,hta1.kp (k5.trans kl),(htp1.kp (k5.trans kl)).append (TAll.one (TV.kp kl hv)),by rw [e5]; exact hk2,by rw [List.length_append,List.length_singleton]; omega,by omega,le5⟩
  | @or k' _ _ _ r x r1 _ hng hk2 =>
   obtain ⟨dd1,dd2⟩ := cT hdr
   refine E8 ?_
   refine ⟨fun σ' H''=>∃ (alts parts : List Tn) (us vs : List V) (lp : Addr) (t'' : Nat),σ' = [some (.ref rd),some (.bl free),some (.ref la),some (.ref lp)] ∧ H lp = none ∧ la ≠ lp ∧ RS H H'' R rd dx wl ws t'' ∧ H'' la = some (.lst us) ∧ H'' lp = some (.lst vs) ∧ TAll K H'' alts us ∧ TAll K H'' parts vs ∧ U6 X k' free alts parts (ws.drop t'') res ∧ alts.length + parts.length ≤ t'' ∧ t < t'' ∧ t'' ≤ ws.length,fun σ' H'' hh=>⟨k',Nat.lt_succ_self _,hh⟩,?_⟩
   refine ⟨fun σ' H''=>∃ (v : V) (lq : Addr),σ' = [some (.ref rd),some (.bl free),some (.ref la),some (.ref lq)] ∧ H lq = none ∧ la ≠ lq ∧ RS H H'' R rd dx wl ws (t' + 1) ∧ H'' la = some (.lst (us ++ [v])) ∧ H'' lq = some (.lst []) ∧ TAll K H'' (alts ++ [one Y2 parts]) (us ++ [v]),?_,?_⟩
   ·refine ⟨_,rfl,rd,dx,_,rfl,st.st.ob,rfl,rd,dx,wl,ws,t',rfl,st.st,rfl,_,rfl,?_⟩
    rw [O1,hdr]
    refine E8 ?_
    have s4 := st.up (t' + 1)
    have ha4 : P9 H3 R rd dx wl (t' + 1) la = some (.lst us) := by unfold P9; rw [B5 na]; exact ha1
    have hb4 : P9 H3 R rd dx wl (t' + 1) lp = some (.lst vs) := by unfold P9; rw [B5 nb]; exact hb1
    have ku := fK (K := K) (t' := t' + 1) st.st
    refine ⟨_,rfl,.inl ⟨rfl,_,SqL.of ha4⟩,_,rfl,Y2,lp,vs,parts,by rw [vD]; rfl,hb4,htp1.kp ku,fun v H5 g5 hv=>?_⟩
    have s5 := s4.same g5
    have ha5 := g5 _ _ ha4
    have kl := Kp.lst (K := K) (o := .lst (us ++ [v])) ha5
    have s6 := s5.put (o := .lst (us ++ [v])) hla
    refine ⟨la,_,_,rfl,rfl,ha5,fX (by omega),Y0,fun lq hlq=>?_⟩
    have kq := B8 hlq (.lst [])
    have hlq0 := fH s6 hlq
    refine ⟨v,lq,rfl,hlq0,fun e=>?_,s6.same kq,kq _ _ B1,B1,?_⟩
    ·rw [← e,B1] at hlq; cases hlq
    ·have kk := kl.trans (Kp.same kq)
     exact (hta1.kp ((ku.trans (Kp.same g5)).trans kk)).append (TAll.one (TV.kp kk hv))
   rintro σ1 H1 ⟨v1,lq,rfl,hlq0,naq,s4,ha4,hq4,hta4⟩
   have nq : lq ≠ rd := s4.none hlq0 hq4
   refine ⟨_,rfl,.inl ⟨rfl,_,SqL.of hq4⟩,_,rfl,_,rfl,rd,dx,wl,ws,t' + 1,free,_,rfl,s4.st,by rw [dd1]; exact hng,?_⟩
   intro v H5 t5 g5 d5 e5 lt5 le5 hv
   have s5 := s4.more g5 d5
   have ha5 := g5 _ _ na ha4
   have hq5 := g5 _ _ nq hq4
   have k5 := Kp.grow (K := K) g5 s4.st
   have kl := Kp.lst (K := K) (o := .lst ([] ++ [v])) hq5
   refine ⟨lq,_,_,rfl,rfl,hq5,fX (by show 0 ≤ 200000; omega),alts ++ [one Y2 parts],[x],us ++ [v1],[] ++ [v],lq,t5,rfl,hlq0,naq,s5.put hlq0,by rw [B5 naq]; exact ha5,B1,hta4.kp (k5.trans kl),TAll.one (TV.kp kl hv),by rw [e5]; exact hk2,by rw [List.length_append,List.length_singleton,List.length_singleton]; omega,by omega,le5⟩
  | @bad _ _ _ w1 r hw hng =>
   obtain ⟨dd1,dd2⟩ := cT hdr
   have hin : (decide (hd (w1 :: r) = [38]) || decide (hd (w1 :: r) = [124])) = true := by
    rcases hw with rfl | rfl <;> rfl
   rw [hin]
   refine E8 ?_
   refine ⟨fun _ _=>False,fun _ _ z=>z.elim,?_⟩
   refine ⟨fun σ' H''=>∃ (lq : Addr) (xs : List V),σ' = [some (.ref rd),some (.bl free),some (.ref la),some (.ref lq)] ∧ RS H H'' R rd dx wl ws (t' + 1) ∧ H'' lq = some (.lst xs),?_,?_⟩
   ·refine ⟨_,rfl,rd,dx,_,rfl,st.st.ob,rfl,rd,dx,wl,ws,t',rfl,st.st,rfl,_,rfl,?_⟩
    have s4 := st.up (t' + 1)
    have ha4 : P9 H3 R rd dx wl (t' + 1) la = some (.lst us) := by unfold P9; rw [B5 na]; exact ha1
    have hb4 : P9 H3 R rd dx wl (t' + 1) lp = some (.lst vs) := by unfold P9; rw [B5 nb]; exact hb1
    have ku := fK (K := K) (t' := t' + 1) st.st
    refine R0 (fun _=>?_) (fun _=>⟨lp,vs,rfl,s4,hb4⟩)
    refine ⟨_,rfl,.inl ⟨rfl,_,SqL.of ha4⟩,_,rfl,Y2,lp,vs,parts,by rw [vD]; rfl,hb4,htp1.kp ku,fun v H5 g5 hv=>?_⟩
    have s5 := s4.same g5
    have ha5 := g5 _ _ ha4
    have s6 := s5.put (o := .lst (us ++ [v])) hla
    refine ⟨la,_,_,rfl,rfl,ha5,fX (by omega),Y0,fun lq hlq=>?_⟩
    exact ⟨lq,[],rfl,s6.same (B8 hlq _),B1⟩
   rintro σ1 H1 ⟨lq,xs,rfl,s4,hq4⟩
   refine ⟨_,rfl,.inl ⟨rfl,_,SqL.of hq4⟩,_,rfl,_,rfl,rd,dx,wl,ws,t' + 1,free,_,rfl,s4.st,by rw [dd1]; exact hng,?_⟩
   intro H5 g5
   exact q H5 (s4.g.trans g5)
end
end Law
namespace Law
open PySem L2 L2.Sp
theorem lLp : (Str.ofString "(" : Str) = S [40] := by decide +kernel
theorem lRp : (Str.ofString ")" : Str) = S [41] := by decide +kernel
theorem lLb : (Str.ofString "[" : Str) = S [91] := by decide +kernel
theorem lLc : (Str.ofString "{" : Str) = S [123] := by decide +kernel
theorem lAt : (Str.ofString "@" : Str) = S [64] := by decide +kernel
theorem BF0 : (Str.ofString "\"" : Str) = S [34] := by decide +kernel
theorem AS6 : (Str.ofString "place" : Str) = S Y1 := by decide +kernel
theorem AZ6 : (Str.ofString "text" : Str) = S lT := by decide +kernel
theorem AZ5 : (Str.ofString "word" : Str) = S cP := by decide +kernel
theorem wF (u : List Nat) : Txt.slice (S u) none (some 1) = S (u.take 1) := by
 cases u with
 | nil=>decide +kernel
 | cons c r =>
  have e := beq_iff_eq.mp (PyProof.Rows.slice_closes_to (x := S (c :: r)) (j := 1) ⟨by decide,by show (1 : Int) ≤ ((c :: r).length : Int); rw [List.length_cons]; omega⟩)
  rw [e]
  rfl
theorem zG (u : List Nat) (h : 2 ≤ u.length) : Txt.slice (S u) (some 1) (some (-1)) = S (u.drop 1).dropLast := by
 have hl : (S u).length = u.length := O2 u
 have e0 := StrLaws.sliceText_neg_hi (S u) (some 1) (j := -1) (by decide) (by rw [hl]; omega)
 have e1 : Txt.slice (S u) (some 1) (some (-1)) = Txt.slice (S u) (some ((1 : Nat) : Int)) (some ((u.length - 1 : Nat) : Int)) := by
  show StrLaws.sliceText (S u) (some 1) (some (-1)) = StrLaws.sliceText (S u) _ _
  rw [e0,hl]
  congr 2
  omega
 rw [e1,X3 u (i := 1) (j := u.length - 1) (by omega) (by omega)]
 show S ((u.drop 1).take (u.length - 1 - 1)) = _
 rw [List.dropLast_eq_take,List.length_drop]
theorem AH0 {u : Wd} (h : T4 u) (e : u.take 1 = [34]) : Quo u := by
 rcases h with h | h | h | rfl | h
 ·obtain ⟨c,e1,hc⟩ := h.head
  cases u with
  | nil=>cases e1
  | cons a r=>cases e1; cases e; cases hc
 ·obtain ⟨c,e1,hc⟩ := h.head
  cases u with
  | nil=>cases e1
  | cons a r =>
   cases e1; cases e
   rcases hc with hc | hc <;> cases hc
 ·exact h
 ·cases e
 ·obtain ⟨c,hc,rfl⟩ := h
  cases e
  exact absurd rfl (Z7 34 hc).2.2.2.1
section
variable {P : Program} {w : World} {K : PySem.W.Frag} {mg : Str → Option Value} {base : Heap} {f : Addr} {fd : FuncData} {R C : Addr} {X : Bool → List Wd → R9 → Prop}
theorem PO.lift {α : Type} {val : Hp → α → V → Prop} {H H1 : Hp} {rd dx wl : Addr} {ws : List Wd} {t t1 : Nat} {res : Option (α × List Wd)} {Q : VK} {E : XK} (s : RS H H1 R rd dx wl ws t1) (ht : t ≤ t1) (q : PO C val H R rd dx wl ws t res Q E) : PO C val H1 R rd dx wl ws t1 res Q E := by
 cases res with
 | none=>exact fun H' g=>q H' (s.g.trans g)
 | some p=>exact fun v H' t' g d e lt le hv=>q v H' t' (s.g.trans g) d e (Nat.lt_of_le_of_lt ht lt) le hv
abbrev X4 : Stmt := O5 37
theorem kC : D7 ["reader","free","word","tree"] ["reader","free"] (B3 X4) := ⟨rfl,rfl,rfl,by decide +kernel,rfl,by decide +kernel,by decide +kernel⟩
theorem wZ {k : Nat} {gp : Addr} (F : Fun K "single" "single" X4 f fd) (c : RK K R) (n : NT K mg C) (EX : K8 P w K mg base k "expression" ["reader","free"] (kW K R C X)) (LT : K8 P w K mg base (k + 1) "list_tree" ["reader"] (sU (pW K) R C (mO X))) (RT : K8 P w K mg base (k + 2) "record_tree" ["reader"] (sU (pW K) R C (rW X)))
  (NS : K8 P w K mg base 4 "names_of" ["reader"] (cA K R C)) (NB : Cal P w K mg base 2 "is_number" ["word"] fZ) (SP : Cal P w K mg base 3 "span_tree" ["reader","low"] (iH K R)) (AH : P2 P w K mg base K3 R 1 "ahead" ["self","steps"] (V4 R)) (TK : P2 P w K mg base K3 R 2 "take" ["self"] (Z5 R))
  (MU : P2 P w K mg base (M0 P w) R 3 "must_take" ["self","word"] (bF R C)) (gP : mg "PLAIN_WORDS" = some (.ref gp)) (hK : ∀ H : Hp,SqT K H gp (ST U9)) (m1 : mg "int" = none) (hk : 4 ≤ k) :
  FnOk P w K mg base (M0 P w) (k + 3) f fd ["reader","free"] (kW K R C (R4 X)) := by
 refine Fun.ok1 F kC (fun vs H Q E h=>?_) (fun cdv A outer s H vs Q E hr h=>?_)
 ·obtain ⟨rd,dx,wl,ws,t,free,res,rfl,_⟩ := h
  rfl
 obtain ⟨rd,dx,wl,ws,t,free,res,rfl,h,hp,q⟩ := h
 have hr1 := hr.mono (show 1 ≤ k + 2 by omega)
 have hr2 := hr.mono (show 2 ≤ k + 2 by omega)
 have hr3 := hr.mono (show 3 ≤ k + 2 by omega)
 have hr4 := hr.mono (show 4 ≤ k + 2 by omega)
 have hrk := hr.mono (show k ≤ k + 2 by omega)
 have hrk1 := hr.mono (show k + 1 ≤ k + 2 by omega)
 refine ⟨_,B2 (D3 (i := 2) kC.nd rfl (Or.inl rfl) (aY TK c hr2 M8 (pv 0)))
  (B2 (G3 (E1 N4 (pv 2) B9 (D9 _)) (B2 (D3 (i := 3) kC.nd rfl (Or.inl rfl) (J9 EX hrk rfl (G0 (E' := E) fun _ _ _ h=>h) (A9 (pv 0) (A9 (pv 1) B0)))) (B2 (G4 (N7 MU c hr3 (G0 (E' := E) fun _ _ _ h=>h) (pv 0) (A9 B9 B0))) (B4 (D4 (pv 3))))) E4)
  (B2 (G3 (E1 N4 (pv 2) B9 (D9 _)) (B4 (D4 (J9 LT hrk1 rfl (G0 (E' := E) fun _ _ _ h=>h) (A9 (pv 0) B0)))) E4)
  (B2 (G3 (E1 N4 (pv 2) B9 (D9 _)) (B4 (D4 (J9 RT hr rfl (G0 (E' := E) fun _ _ _ h=>h) (A9 (pv 0) B0)))) E4)
  (U2 (G3 (PW.pt (lJ (E1 N4 (pv 2) B9 (D9 _)) (jA (O7 (pv 1))))) (B4 (D4 (M6 (A9 B9 (A9 (J9 NS hr4 rfl (G0 (E' := E) fun _ _ _ h=>h) (A9 (pv 0) B0)) B0))))) E4)
  (U2 (G3 (PW.pt (lJ (E1 N4 (pv 2) B9 (D9 _)) (jA (O7 (E3 NB hr2 rfl (A9 (N7 AH c hr1 M8 (pv 0) (A9 B7 B0)) B0)))))) (B4 (D4 (M6 (A9 B9 (A9 N2 (A9 (N9 iA rfl m1 mK (A9 (aY TK c hr2 M8 (pv 0)) B0)) B0)))))) E4)
  (B2 (G3 (O7 (E3 NB hr2 rfl (A9 (pv 2) B0))) (B4 (D4 (E3 SP hr3 rfl (A9 (pv 0) (A9 (N9 iA rfl m1 mK (A9 (pv 2) B0)) B0))))) E4)
  (B2 (G3 (E1 N4 (T0 Z6 (pv 2) nJ (N6 B7)) B9 (D9 _)) (B4 (D4 (M6 (A9 B9 (A9 (T0 Z6 (pv 2) (N6 B7) (N6 (AE8 vY B7))) B0))))) E4)
  (B2 (G3 (E1 gQ (pv 2) (Y9 (v := .ref gp) rfl gP rfl) rfl) (B4 (D4 (M6 (A9 B9 (A9 (pv 2) B0))))) E4)
  (B4 (R6 PySem.F.excBase_ValueError n.xc rfl n.mg (A9 (aZ (W2 (lL (pv 2) (W2 dU)))) B0))))))))))),?_⟩
 have S0 := RS.start h
 have S1 := S0.up (t + 1)
 have hsm := h.ok.small t
 refine ⟨_,rfl,rd,dx,_,rfl,h.ob,rfl,rd,dx,wl,ws,t,rfl,h,?_⟩
 have hmem : hd (ws.drop t) ≠ [] → T4 (hd (ws.drop t)) ∧ t + 1 ≤ ws.length := fun z=>⟨h.ok.tok _ (vG z),cQ z⟩
 unfold R4 at hp
 rw [← V6] at hp
 generalize hu : hd (ws.drop t) = u at hp hsm hmem ⊢
 refine ⟨_,rfl,rfl,_,rfl,?_⟩
 rw [lLp,O1]
 by_cases e1 : u = [40]
 ·rw [decide_eq_true e1]
  rw [if_pos e1] at hp
  obtain ⟨xres,hx,rfl⟩ := hp
  refine E8 ⟨_,rfl,_,rfl,rd,dx,wl,ws,t + 1,free,xres,rfl,S1.st,hx,?_⟩
  cases xres with
  | none=>exact fun H3 g3=>q H3 (S1.g.trans g3)
  | some p =>
   obtain ⟨x,r1⟩ := p
   intro v H3 t3 g3 d3 e3 lt3 le3 hv
   have s3 := S1.more g3 d3
   refine ⟨_,rfl,rd,dx,_,rfl,s3.st.ob,rfl,rd,dx,wl,ws,t3,[41],by rw [lRp]; rfl,s3.st,dB 41 (by decide),?_⟩
   dsimp only at q
   have s4 := s3.up (t3 + 1)
   by_cases e : hd (ws.drop t3) = [41]
   ·rw [if_pos (by rw [← e3]; exact e)] at q
    refine K7 e ⟨_,rfl,q _ _ (t3 + 1) s4.g s4.st (by rw [V6,e3]) (by omega) (cQ (by rw [e]; simp)) (TV.kp (fK s3.st) hv)⟩
   ·rw [if_neg (by rw [← e3]; exact e)] at q
    exact E9 e (q _ s4.g)
 rw [decide_eq_false e1]
 rw [if_neg e1] at hp
 refine F0 ⟨_,rfl,rfl,_,rfl,?_⟩
 rw [lLb,O1]
 by_cases e2 : u = [91]
 ·rw [decide_eq_true e2]
  rw [if_pos e2] at hp
  exact E8 ⟨_,rfl,rd,dx,wl,ws,t + 1,res,rfl,S1.st,(hmem (by rw [e2]; simp)).2,hp,PO.lift S1 (by omega) q⟩
 rw [decide_eq_false e2]
 rw [if_neg e2] at hp
 refine F0 ⟨_,rfl,rfl,_,rfl,?_⟩
 rw [lLc,O1]
 by_cases e3 : u = [123]
 ·rw [decide_eq_true e3]
  rw [if_pos e3] at hp
  exact E8 ⟨_,rfl,rd,dx,wl,ws,t + 1,res,rfl,S1.st,(hmem (by rw [e3]; simp)).2,hp,PO.lift S1 (by omega) q⟩
 rw [decide_eq_false e3]
 rw [if_neg e3] at hp
 refine F0 ?_
 have q1 := PO.lift S1 (by omega) q
 refine ⟨fun σ' H'=>¬ (u = [64] ∧ free = true) ∧ σ' = [some (.ref rd),some (.bl free),some (.str (S u)),none] ∧ H' = P9 H R rd dx wl (t + 1),?_,?_⟩
 ·refine ⟨_,rfl,rfl,_,rfl,?_⟩
  rw [lAt,O1]
  by_cases e4 : u = [64]
  ·rw [decide_eq_true e4]
   refine E8 ⟨_,rfl,_,rfl,?_⟩
   cases free with
   | false=>exact F0 ⟨fun z=>(by cases z.2),rfl,rfl⟩
   | true =>
    rw [if_pos ⟨e4,rfl⟩] at hp
    obtain ⟨nres,hn,rfl⟩ := hp
    refine E8 ⟨_,rfl,rd,dx,wl,ws,t + 1,nres,rfl,S1.st,hn,?_⟩
    cases nres with
    | none=>exact q1
    | some p =>
     obtain ⟨ns,r1⟩ := p
     intro v H3 t3 g3 d3 e3 lt3 le3 hv
     refine ⟨Q6,fun p hp=>?_⟩
     have kp := B8 hp (.tup [.str (Str.ofString "place"),v])
     have s3 := (S1.more g3 d3).same kp
     exact q _ _ t3 s3.g s3.st e3 (by omega) le3 (TV.tup (SqT.of (by rw [B1,AS6])) (TAll.cons TV.str (TAll.one (TV.kp (Kp.same kp) hv))))
  ·rw [decide_eq_false e4]
   exact F0 (F0 ⟨fun z=>e4 z.1,rfl,rfl⟩)
 rintro σ1 H1 ⟨e4,rfl,rfl⟩
 rw [if_neg e4] at hp
 refine ⟨fun σ' H'=>¬ (u = [46,46] ∧ O8 (hd (ws.drop (t + 1))) = true) ∧ σ' = [some (.ref rd),some (.bl free),some (.str (S u)),none] ∧ H' = P9 H R rd dx wl (t + 1),?_,?_⟩
 ·refine ⟨_,rfl,rfl,_,rfl,?_⟩
  rw [pS,O1]
  by_cases e5 : u = [46,46]
  ·rw [decide_eq_true e5]
   refine E8 ⟨_,rfl,rd,dx,_,rfl,S1.st.ob,rfl,rd,dx,wl,ws,t + 1,0,rfl,S1.st,_,rfl,?_,_,rfl,?_⟩
   ·rw [mL]; exact (h.ok.small (t + 1)).1
   rw [mL]
   cases hb : O8 (hd (ws.drop (t + 1))) with
   | false=>exact F0 ⟨fun z=>(by cases z.2),rfl,rfl⟩
   | true =>
    rw [if_pos ⟨e5,hb⟩] at hp
    subst hp
    have hw := h.ok.tok _ (vG (eB hb))
    obtain ⟨i1,i2⟩ := nO (mP hw hb)
    refine E8 ⟨_,rfl,rd,dx,_,rfl,S1.st.ob,rfl,rd,dx,wl,ws,t + 1,rfl,S1.st,_,_,rfl,i1,by rw [O2]; omega,bQ,fun p hp=>?_⟩
    have s2 := (S1.up (t + 1 + 1)).same (B8 hp (.tup [.str (Str.ofString "span"),.non,.int (N3 (hd (ws.drop (t + 1))))]))
    exact q _ _ (t + 1 + 1) s2.g s2.st V6 (by omega) (cQ (eB hb)) (iF B1 TV.non TV.int)
  ·rw [decide_eq_false e5]
   exact F0 (F0 ⟨fun z=>e5 z.1,rfl,rfl⟩)
 rintro σ2 H2 ⟨e5,rfl,rfl⟩
 rw [if_neg e5] at hp
 refine ⟨_,rfl,_,rfl,hsm.1,_,rfl,?_⟩
 cases hb : O8 u with
 | true =>
  rw [if_pos hb] at hp
  obtain ⟨hw,hl⟩ := hmem (eB hb)
  obtain ⟨i1,i2⟩ := nO (mP hw hb)
  refine E8 ⟨_,rfl,_,rfl,_,_,rfl,i1,by rw [O2]; omega,rd,dx,wl,ws,t + 1,N3 u,rfl,S1.st,hl,?_⟩
  have hres : res = some (kU (N3 u) (ws.drop (t + 1))) := by
   unfold kU
   split at hp
   ·split at hp
    ·rename_i a b; rw [if_pos a,if_pos b]; exact hp
    ·rename_i a b; rw [if_pos a,if_neg b]; exact hp
   ·rename_i a; rw [if_neg a]; exact hp
  subst hres
  intro v H3 t3 g3 d3 e3 lt3 le3 hv
  exact q v H3 t3 (S1.g.trans g3) d3 e3 (by omega) le3 hv
 | false =>
 rw [if_neg (by rw [hb]; decide)] at hp
 refine F0 ⟨_,rfl,_,rfl,_,rfl,Q1 hsm.1,rfl,_,rfl,?_⟩
 rw [wF,BF0,O1]
 by_cases e7 : u.take 1 = [34]
 ·rw [decide_eq_true e7]
  rw [if_pos e7] at hp
  subst hp
  have une : u ≠ [] := fun z=>by rw [z] at e7; cases e7
  obtain ⟨hw,hl⟩ := hmem une
  have hlen : 2 ≤ u.length := by
   obtain ⟨b,_,e⟩ := AH0 hw e7
   rw [e]; simp
  refine E8 ⟨_,rfl,_,rfl,_,rfl,_,rfl,_,rfl,Q1 hsm.1,?_⟩
  rw [show (- (1 : Int)) = -1 from rfl,zG u hlen]
  refine ⟨Q6,fun p hp=>?_⟩
  have kp := B8 hp (.tup [.str (Str.ofString "text"),.str (S (u.drop 1).dropLast)])
  have s3 := S1.same kp
  exact q _ _ (t + 1) s3.g s3.st rfl (by omega) hl (TV.tup (SqT.of (by rw [B1,AZ6])) (TAll.cons TV.str (TAll.one TV.str)))
 rw [decide_eq_false e7]
 rw [if_neg e7] at hp
 refine F0 ⟨_,rfl,gp,_,rfl,.inr (hK _),rfl,AM9 _,_,rfl,?_⟩
 show if eI (.str (S u)) (ST U9) = true then _ else _
 rw [xU]
 by_cases e8 : u ∈ U9
 ·rw [decide_eq_true e8]
  rw [if_pos e8] at hp
  subst hp
  have une : u ≠ [] := fun z=>by rw [z] at e8; revert e8; decide
  obtain ⟨hw,hl⟩ := hmem une
  refine E8 ⟨_,rfl,Q6,fun p hp=>?_⟩
  have kp := B8 hp (.tup [.str (Str.ofString "word"),.str (S u)])
  have s3 := S1.same kp
  exact q _ _ (t + 1) s3.g s3.st rfl (by omega) hl (TV.tup (SqT.of (by rw [B1,AZ5])) (TAll.cons TV.str (TAll.one TV.str)))
 ·rw [decide_eq_false e8]
  rw [if_neg e8] at hp
  subst hp
  exact F0 ⟨_,rfl,_,rfl,by rw [O2]; exact hsm.1,hsm.2,fun r=>⟨S4,q _ S1.g⟩⟩
end
end Law
namespace Law
open PySem L2 L2.Sp
structure Nm (K : PySem.W.Frag) (mg : Str → Option Value) (x : Str) (st : Stmt) (ps : List Str) : Prop where
 ex : ∃ (f : Addr) (fd : FuncData),Fun K x x st f fd ∧ mg x = some (.ref f) ∧ PySem.W.keepIn K (.ref f) = true ∧ Binds K fd ps []
section
variable {P : Program} {w : World} {K : PySem.W.Frag} {mg : Str → Option Value} {base : Heap} {f : Addr} {fd : FuncData} {R C : Addr}
theorem Nm.cal1 {x : Str} {st : Stmt} {ps : List Str} {k : Nat} {sp : Sp} (n : Nm K mg x st ps) (h : ∀ f fd,Fun K x x st f fd → FnOk P w K mg base (M0 P w) k f fd ps sp) : K8 P w K mg base k x ps sp := by
 obtain ⟨f,fd,F,a,b,c⟩ := n.ex
 exact ⟨f,fd,h f fd F,a,b,c⟩
structure Rdg (P : Program) (w : World) (K : PySem.W.Frag) (mg : Str → Option Value) (base : Heap) (R C : Addr) : Prop where
 c : RK K R
 n : NT K mg C
 nE : Nm K mg "expression" cH ["reader","free"]
 nN : Nm K mg "negated" cF ["reader","free"]
 nS : Nm K mg "single" X4 ["reader","free"]
 nL : Nm K mg "list_tree" Z9 ["reader"]
 nR : Nm K mg "record_tree" cE ["reader"]
 nF : Nm K mg "field_of" aA ["reader"]
 HAS : K8 P w K mg base 4 "has_another" ["reader","close","count"] (lA R C)
 ENDT : K8 P w K mg base 4 "takes_end" ["reader","close"] (gA R C)
 NAME : K8 P w K mg base 3 "name_of" ["reader"] (bE R C)
 NS : K8 P w K mg base 4 "names_of" ["reader"] (cA K R C)
 NB : Cal P w K mg base 2 "is_number" ["word"] fZ
 SP : Cal P w K mg base 3 "span_tree" ["reader","low"] (iH K R)
 ON : Cal P w K mg base 1 "one_or_several" ["word","trees"] (pL K)
 AH : P2 P w K mg base K3 R 1 "ahead" ["self","steps"] (V4 R)
 TK : P2 P w K mg base K3 R 2 "take" ["self"] (Z5 R)
 TS : P2 P w K mg base K3 R 2 "takes" ["self","word"] (X2 R)
 MU : P2 P w K mg base (M0 P w) R 3 "must_take" ["self","word"] (bF R C)
 gP : ∃ gp,mg "PLAIN_WORDS" = some (.ref gp) ∧ ∀ H : Hp,SqT K H gp (ST U9)
 m1 : mg "len" = none
 m2 : mg "tuple" = none
 m3 : mg "int" = none
 m4 : mg "range" = none
theorem qR (r : Rdg P w K mg base R C) : ∀ n,K8 P w K mg base (5 * n + 5) "expression" ["reader","free"] (kW K R C (P6 n))
 | 0=>r.nE.cal1 fun f fd F=>by
  refine Fun.ok1 F gC (fun vs H Q E h=>?_) (fun cdv A outer s H vs Q E hr h=>?_)
  ·obtain ⟨rd,dx,wl,ws,t,free,res,rfl,_⟩ := h
   rfl
  ·obtain ⟨rd,dx,wl,ws,t,free,res,rfl,_,hp,_⟩ := h
   exact hp.elim
 | n + 1=>by
  have EX := qR r n
  obtain ⟨gp,g1,g2⟩ := r.gP
  have hk : 4 ≤ 5 * n + 5 := by omega
  have LT := r.nL.cal1 (base := base) (P := P) (w := w) fun f fd F=>AA5 F EX r.HAS r.ENDT r.m1 r.m2 hk
  have FI := r.nF.cal1 (base := base) (P := P) (w := w) fun f fd F=>AA7 F r.c EX r.NAME r.TS r.MU hk
  have RT := r.nR.cal1 (base := base) (P := P) (w := w) fun f fd F=>AK1 F r.n FI r.HAS r.ENDT r.m1 r.m2 (by omega)
  have SG := r.nS.cal1 (base := base) (P := P) (w := w) fun f fd F=>wZ F r.c r.n EX LT RT r.NS r.NB r.SP r.AH r.TK r.MU g1 g2 r.m3 hk
  have NG := r.nN.cal1 (base := base) (P := P) (w := w) fun f fd F=>AK4 F r.c SG r.TS r.m4 (by omega)
  exact r.nE.cal1 (base := base) (P := P) (w := w) fun f fd F=>AL0 F r.c NG r.AH r.TK r.ON (by omega)
def kX (K : PySem.W.Frag) (C : Addr) (Y : List Wd → Option Tn → Prop) : Sp := fun args H Q E=>∃ v,args = [v] ∧ ((∃ d,DV K H d v ∧ gZ d "str" = false ∧ ∀ H',Same H H' → E (.ref C) none H') ∨ ∃ l,v = .str (S l) ∧ S6 l ∧
 ((E7 l = none ∧ ∀ H',Same H H' → E (.ref C) none H') ∨ ∃ ws res,E7 l = some ws ∧ WsOk ws ∧ Y ws res ∧ match res with
  | none=>∀ H',Same H H' → E (.ref C) none H'
  | some x=>∀ u H',Same H H' → TV K H' x u → Q u H'))
theorem X6 {H H' : Hp} {rd dx : Addr} {o o' : HO} (h1 : H rd = none) (h2 : H dx = none) (g : Grow rd (B6 (B6 H dx o) rd o') H') : Same H H' := fun b u hb=>by
 have n1 := C0 hb h1
 have n2 := C0 hb h2
 refine g b u n1 ?_
 rw [B5 n1,B5 n2]; exact hb
end
end Law
namespace Law
open PySem L2 L2.Sp
section
variable {X Y : Bool → List Wd → R9 → Prop} (k : ∀ f r res,X f r res → Y f r res)
include k
end
def uJ : List Wd := [[41],[93],[125],[44],[38],[124],[101,108,115,101]]
def vN : List Wd := [[41],[93],[125],[44],[101,108,115,101]]
def TS (r : List Wd) : Prop := hd r ≠ [46,46] ∧ hd r ≠ [46] ∧ O8 (hd r) = false
def ES (r : List Wd) : Prop := TS r ∧ hd r ≠ [38] ∧ hd r ≠ [124]
theorem ES.ts {r : List Wd} (h : ES r) : TS r := h.1
theorem TS.no {r : List Wd} (h : TS r) : hd r ≠ [46,46] ∧ hd r ≠ [46] ∧ O8 (hd r) = false := h
theorem ES.no {r : List Wd} (h : ES r) : hd r ≠ [38] ∧ hd r ≠ [124] := h.2
theorem zD : ∀ x ∈ uJ,x ≠ [46,46] ∧ x ≠ [46] ∧ O8 x = false := by decide
theorem AC4 : ∀ x ∈ vN,(x ≠ [46,46] ∧ x ≠ [46] ∧ O8 x = false) ∧ x ≠ [38] ∧ x ≠ [124] := by decide
theorem TS.of {u : Wd} {r : List Wd} (h : u ∈ uJ) : TS (u :: r) := zD u h
theorem ES.of {u : Wd} {r : List Wd} (h : u ∈ vN) : ES (u :: r) := AC4 u h
theorem ES.nil : ES [] := ⟨⟨by decide,by decide,rfl⟩,by decide,by decide⟩
def tails (s : Wd) (rows : List (List Wd)) : List Wd := rows.flatMap (s :: ·)
def M4 (s : Wd) : List (List Wd) → List Wd
 | []=>[]
 | r :: rs=>r ++ tails s rs
theorem O6 (s : Wd) (r : List Wd) (rs : List (List Wd)) : tails s (r :: rs) = s :: (r ++ tails s rs) := by simp [tails]
theorem TS.tails {s : Wd} {rows : List (List Wd)} {r : List Wd} (hs : s ∈ uJ) (h : TS r) : TS (tails s rows ++ r) := by
 cases rows with
 | nil=>exact h
 | cons x xs=>rw [O6]; exact TS.of hs
section
variable {X : Bool → List Wd → R9 → Prop} {free : Bool}
def NegAble (X : Bool → List Wd → R9 → Prop) (free : Bool) (x : Tn) (row : List Wd) : Prop := ∀ rest,TS rest → bW X free (row ++ rest) (some (x,rest))
def M5 (X : Bool → List Wd → R9 → Prop) (free : Bool) (x : Tn) (row : List Wd) : Prop := ∀ rest,ES rest → X free (row ++ rest) (some (x,rest))
inductive T8 {α β : Type} (F : α → β → Prop) : List α → List β → Prop
 | nil : T8 F [] []
 | cons {a b as bs} : F a b → T8 F as bs → T8 F (a :: as) (b :: bs)
theorem oB {alts : List Tn} {r : List Wd} {res : R9} (hr : TS r) : ∀ {ys : List Tn} {rows : List (List Wd)} {parts : List Tn} {k : Nat},T8 (NegAble X free) ys rows → U6 X k free alts (parts ++ ys) r res → ∃ k',U6 X k' free alts parts (tails [38] rows ++ r) res
 | _,_,parts,k,.nil,h=>⟨k,by simpa [tails] using h⟩
 | _,_,parts,k,@T8.cons _ _ _ y row ys rows a as,h=>by
  obtain ⟨k',h'⟩ := oB hr (parts := parts ++ [y]) as (by simpa using h)
  refine ⟨k' + 1,?_⟩
  rw [O6,List.cons_append,List.append_assoc]
  exact .and (a _ (TS.tails (by decide) hr)) h'
def eM (X : Bool → List Wd → R9 → Prop) (free : Bool) (x : Tn) (g : List Wd) : Prop := ∃ y ys row rows,one Y2 (y :: ys) = x ∧ NegAble X free y row ∧ T8 (NegAble X free) ys rows ∧ g = row ++ tails [38] rows
theorem wW {rest : List Wd} (hr : ES rest) : ∀ {xs : List Tn} {gs : List (List Wd)} {alts parts : List Tn},T8 (eM X free) xs gs → ∃ k,U6 X k free alts parts (tails [124] gs ++ rest) (some (one eG (alts ++ [one Y2 parts] ++ xs),rest))
 | _,_,alts,parts,.nil=>⟨0,by
  rw [List.append_nil]
  exact .stop hr.no.1 hr.no.2⟩
 | _,_,alts,parts,@T8.cons _ _ _ x g xs gs a as=>by
  obtain ⟨y,ys,row,rows,e,h1,h2,rfl⟩ := a
  obtain ⟨k,hk⟩ := wW hr (alts := alts ++ [one Y2 parts]) (parts := [y] ++ ys) as
  have hts : TS (tails [124] gs ++ rest) := TS.tails (by decide) hr.ts
  obtain ⟨k',hk'⟩ := oB hts (parts := [y]) h2 hk
  refine ⟨k' + 1,?_⟩
  have e2 : one Y2 ([y] ++ ys) = x := e
  rw [e2] at hk'
  rw [O6,List.cons_append,List.append_assoc,List.append_assoc]
  have := U6.or (alts := alts) (parts := parts) (h1 _ (TS.tails (s := [38]) (rows := rows) (by decide) hts)) hk'
  simpa using this
theorem yA {x : Tn} {g : List Wd} {xs : List Tn} {gs : List (List Wd)} (h : eM X free x g) (hs : T8 (eM X free) xs gs) : M5 (sE X) free (one eG (x :: xs)) (g ++ tails [124] gs) := fun rest hr=>by
 obtain ⟨y,ys,row,rows,e,h1,h2,rfl⟩ := h
 obtain ⟨k,hk⟩ := wW hr (alts := []) (parts := [y] ++ ys) hs
 have hts : TS (tails [124] gs ++ rest) := TS.tails (by decide) hr.ts
 obtain ⟨k',hk'⟩ := oB hts (parts := [y]) h2 hk
 have e2 : one Y2 ([y] ++ ys) = x := e
 rw [e2] at hk'
 refine ⟨some (y,tails [38] rows ++ (tails [124] gs ++ rest)),?_,k',hk'⟩
 have := h1 _ (TS.tails (s := [38]) (rows := rows) (by decide) hts)
 simpa using this
theorem AN0 {x : Tn} {g : List Wd} (h : eM X free x g) : M5 (sE X) free x g := fun rest hr=>by
 have := yA h .nil rest hr
 simpa [tails,one] using this
theorem NegAble.and {x : Tn} {row : List Wd} (h : NegAble X free x row) : eM X free x row := ⟨x,[],row,[],rfl,h,.nil,by simp [tails]⟩
theorem cY {u : Wd} {r : List Wd} {res : R9} (hu : u ≠ [33]) (h : R4 X free (u :: r) res) : bW X free (u :: r) res := by
 have e : O9 (u :: r) = 0 := by unfold O9; rw [List.takeWhile_cons_of_neg (by simpa using hu)]; rfl
 refine ⟨res,?_,?_⟩
 ·rw [e]; simpa using h
 ·rw [e]; cases res <;> rfl
theorem BE7 {x : Tn} {row : List Wd} (h : NegAble X false x row) : NegAble X free (.tup [.str vF,x]) ([33] :: row) := fun rest hr=>by
 obtain ⟨s,a,b⟩ := h rest hr
 have e : O9 ([33] :: (row ++ rest)) = O9 (row ++ rest) + 1 := by unfold O9; rw [List.takeWhile_cons_of_pos (by decide)]; rfl
 cases s with
 | none=>cases b
 | some p =>
  obtain ⟨y,r⟩ := p
  simp only [Option.map_some,Option.some.injEq,Prod.mk.injEq] at b
  obtain ⟨b1,b2⟩ := b
  subst b2 b1
  refine ⟨some (y,rest),?_,?_⟩
  ·show R4 X (free && decide (O9 ([33] :: (row ++ rest)) = 0)) (([33] :: (row ++ rest)).drop (O9 ([33] :: (row ++ rest)))) _
   rw [e]
   simpa using a
  ·show some (_,rest) = some (uY (O9 ([33] :: (row ++ rest))) y,rest)
   rw [e]; rfl
theorem wG {x : Tn} {row : List Wd} (h : M5 X free x row) : NegAble X free x ([40] :: (row ++ [[41]])) := fun rest hr=>by
 refine cY (by decide) ?_
 unfold R4
 refine K7 (show hd _ = [40] from rfl) ⟨some (x,[41] :: rest),?_,rfl⟩
 have := h ([41] :: rest) (ES.of (by decide))
 simpa using this
end
end Law
namespace Law
open PySem L2 L2.Sp
section
variable {X : Bool → List Wd → R9 → Prop} {free : Bool}
theorem zT : ∀ u ∈ U9,u ≠ [40] ∧ u ≠ [91] ∧ u ≠ [123] ∧ u ≠ [64] ∧ u ≠ [46,46] ∧ u ≠ [33] ∧ O8 u = false ∧ u.take 1 ≠ [34] := by decide
theorem bA {u : Wd} (h : O8 u = true) : u ≠ [40] ∧ u ≠ [91] ∧ u ≠ [123] ∧ u ≠ [64] ∧ u ≠ [46,46] ∧ u ≠ [33] ∧ u ≠ [93] ∧ u ≠ [125] ∧ u ≠ [44] := by
 refine ⟨?_,?_,?_,?_,?_,?_,?_,?_,?_⟩ <;> (rintro rfl; cases h)
theorem fI {u : Wd} (h : u ∈ U9) : NegAble X free (.tup [.str cP,.str u]) [u] := fun rest _=>by
 obtain ⟨h1,h2,h3,h4,h5,h6,h7,h8⟩ := zT u h
 refine cY h6 ?_
 unfold R4
 exact E9 h1 (E9 h2 (E9 h3 (E9 (fun z=>h4 z.1) (E9 (fun z=>h5 z.1) (E9 (show ¬ O8 u = true by rw [h7]; decide) (E9 h8 (K7 h rfl)))))))
theorem nQ {u : Wd} (h : O8 u = true) : NegAble X free (M2 (.int (N3 u)) (.int (N3 u))) [u] := fun rest hr=>by
 obtain ⟨h1,h2,h3,h4,h5,h6,_⟩ := bA h
 refine cY h6 ?_
 unfold R4
 exact E9 h1 (E9 h2 (E9 h3 (E9 (fun z=>h4 z.1) (E9 (fun z=>h5 z.1) (K7 h (E9 hr.no.1 rfl))))))
theorem AB3 {u : Wd} (h : O8 u = true) : NegAble X free (M2 (.int (N3 u)) .non) [u,[46,46]] := fun rest hr=>by
 obtain ⟨h1,h2,h3,h4,h5,h6,_⟩ := bA h
 refine cY h6 ?_
 unfold R4
 exact E9 h1 (E9 h2 (E9 h3 (E9 (fun z=>h4 z.1) (E9 (fun z=>h5 z.1) (K7 h (K7 rfl (E9 (show ¬ O8 (hd rest) = true by rw [hr.no.2.2]; decide) rfl)))))))
theorem AB1 {b : List Nat} : NegAble X free (.tup [.str lT,.str b]) [34 :: (b ++ [34])] := fun rest hr=>by
 have no : ∀ u : Wd,u.length ≤ 2 → u.head? ≠ some 34 → (34 :: (b ++ [34]) : Wd) ≠ u := fun u _ h2 e=>h2 (by rw [← e]; rfl)
 refine cY (no _ (by decide) (by decide)) ?_
 unfold R4
 refine E9 (no _ (by decide) (by decide)) (E9 (no _ (by decide) (by decide)) (E9 (no _ (by decide) (by decide)) (E9 (fun z=>no _ (by decide) (by decide) z.1) (E9 (fun z=>no _ (by decide) (by decide) z.1) (E9 (by show ¬ O8 (34 :: (b ++ [34])) = true; intro z; cases z) (K7 rfl ?_))))))
 show _ = some (Tn.tup [.str lT,.str (b ++ [34]).dropLast],rest)
 rw [List.dropLast_concat]
def Q3 (ns : List Wd) : List Wd := M4 [46] (ns.map ([·]))
theorem gU {rest : List Wd} (hr : hd rest ≠ [46]) : ∀ {ns : List Wd} {ns0 : List Wd},(∀ n ∈ ns,E2 n = true) → ∃ k,V2 k ns0 (tails [46] (ns.map ([·])) ++ rest) (some (ns0 ++ ns,rest))
 | [],ns0,_=>⟨0,by rw [List.append_nil]; exact .stop hr⟩
 | n :: ns,ns0,h=>by
  obtain ⟨k,hk⟩ := gU hr (ns := ns) (ns0 := ns0 ++ [n]) fun x hx=>h x (by simp [hx])
  refine ⟨k + 1,?_⟩
  rw [List.map_cons,O6]
  have := V2.on (ns := ns0) (h n (by simp)) hk
  simpa using this
theorem cL {ns : List Wd} (h0 : ns ≠ []) (h : ∀ n ∈ ns,E2 n = true) : NegAble X true (.tup [.str Y1,.tup (ns.map Tn.str)]) ([64] :: Q3 ns) := fun rest hr=>by
 refine cY (by decide) ?_
 unfold R4
 refine E9 (show ([64] : Wd) ≠ [40] by decide) (E9 (show ([64] : Wd) ≠ [91] by decide) (E9 (show ([64] : Wd) ≠ [123] by decide) (K7 ⟨rfl,rfl⟩ ⟨some (ns,rest),?_,rfl⟩)))
 obtain ⟨n,ns,rfl⟩ := List.exists_cons_of_ne_nil h0
 obtain ⟨k,hk⟩ := gU hr.no.2.1 (ns := ns) (ns0 := [n]) fun x hx=>h x (by simp [hx])
 unfold S5
 refine K7 (show E2 n = true from h n (by simp)) ⟨k,?_⟩
 exact hk
structure iC (row : List Wd) : Prop where
 ex : ∃ u r,row = u :: r ∧ u ≠ [93] ∧ u ≠ [125] ∧ (u = [46,46] → ∃ v r',r = v :: r' ∧ O8 v = true)
def N5 (m : Bool) : List (List Wd) := if m then [[[46,46]]] else []
def R8 (m : Bool) : List Wd := if m then [[46,46]] else []
theorem rK {c : Wd} (hc : c ≠ [46,46]) (m : Bool) (rest : List Wd) : aL c (R8 m ++ c :: rest) = some (m,rest) := by
 unfold aL
 cases m with
 | true=>rw [if_pos (show hd (R8 true ++ c :: rest) = [46,46] from rfl),if_pos (show hd (R8 true ++ c :: rest).tail = c from rfl)]; rfl
 | false=>rw [if_neg (show hd (R8 false ++ c :: rest) ≠ [46,46] from hc),if_pos (show hd (R8 false ++ c :: rest) = c from rfl)]; rfl
theorem tP {c : Wd} (hc : c = [93] ∨ c = [125]) {row rest : List Wd} (h : iC row) : O4 c 0 (row ++ rest) = some (true,row ++ rest) := by
 obtain ⟨u,r,rfl,h1,h2,h3⟩ := h.ex
 have hu : u ≠ c := by rcases hc with rfl | rfl <;> assumption
 unfold O4
 rw [if_neg (show hd (u :: r ++ rest) ≠ c from hu),if_neg (by decide)]
 congr 2
 by_cases e : u = [46,46]
 ·obtain ⟨v,r',rfl,hv⟩ := h3 e
  have : v ≠ c := by
   rcases hc with rfl | rfl
   ·exact (bA hv).2.2.2.2.2.2.1
   ·exact (bA hv).2.2.2.2.2.2.2.1
  show (!(decide (u = [46,46]) && decide (v = c))) = true
  rw [decide_eq_false this,Bool.and_false]; rfl
 ·show (!(decide (u = [46,46]) && _)) = true
  rw [decide_eq_false e,Bool.false_and]; rfl
theorem tQ {c : Wd} (hc : c = [93] ∨ c = [125]) {n : Nat} (hn : 0 < n) {row rest : List Wd} (h : iC row) : O4 c n ([44] :: (row ++ rest)) = some (true,row ++ rest) := by
 obtain ⟨u,r,rfl,h1,h2,h3⟩ := h.ex
 have h0 : ([44] : Wd) ≠ c := by rcases hc with rfl | rfl <;> decide
 unfold O4
 rw [if_neg (show hd ([44] :: (u :: r ++ rest)) ≠ c from h0),if_pos hn,if_pos (show hd ([44] :: (u :: r ++ rest)) = [44] from rfl)]
 congr 2
 by_cases e : u = [46,46]
 ·obtain ⟨v,r',rfl,hv⟩ := h3 e
  have : v ≠ c := by
   rcases hc with rfl | rfl
   ·exact (bA hv).2.2.2.2.2.2.1
   ·exact (bA hv).2.2.2.2.2.2.2.1
  show (!(decide (u = [46,46]) && decide (v = c))) = true
  rw [decide_eq_false this,Bool.and_false]; rfl
 ·show (!(decide (u = [46,46]) && _)) = true
  rw [decide_eq_false e,Bool.false_and]; rfl
theorem rG {c : Wd} (hc : c = [93] ∨ c = [125]) (m : Bool) (rest : List Wd) : O4 c 0 (R8 m ++ c :: rest) = some (false,R8 m ++ c :: rest) := by
 unfold O4
 cases m with
 | false=>rw [if_pos (show hd (R8 false ++ c :: rest) = c from rfl)]
 | true =>
  have h0 : ([46,46] : Wd) ≠ c := by rcases hc with rfl | rfl <;> decide
  rw [if_neg (show hd (R8 true ++ c :: rest) ≠ c from h0),if_neg (by decide)]
  congr 2
  show (!(decide (([46,46] : Wd) = [46,46]) && decide (c = c))) = false
  simp
theorem rF {c : Wd} (hc : c = [93] ∨ c = [125]) {n : Nat} (hn : 0 < n) (m : Bool) (rest : List Wd) : O4 c n (tails [44] (N5 m) ++ c :: rest) = some (false,R8 m ++ c :: rest) := by
 cases m with
 | false =>
  unfold O4
  rw [if_pos (show hd (tails [44] (N5 false) ++ c :: rest) = c from rfl)]
  rfl
 | true =>
  have h0 : ([44] : Wd) ≠ c := by rcases hc with rfl | rfl <;> decide
  show O4 c n ([44] :: [46,46] :: c :: rest) = some (false,[46,46] :: c :: rest)
  unfold O4
  rw [if_neg (show hd ([44] :: [46,46] :: c :: rest) ≠ c from h0),if_pos hn,if_pos (show hd ([44] :: [46,46] :: c :: rest) = [44] from rfl)]
  congr 2
  show (!(decide (([46,46] : Wd) = [46,46]) && decide (c = c))) = false
  simp
theorem fP {c : Wd} (hc : c ∈ vN) {rows : List (List Wd)} {rest : List Wd} : ES (tails [44] rows ++ c :: rest) := by
 cases rows with
 | nil=>exact ES.of hc
 | cons r rs=>rw [O6]; exact ES.of (by decide)
theorem lW {m : Bool} {rest : List Wd} : ∀ {ts : List Tn} {rows : List (List Wd)} {ts0 : List Tn},0 < ts0.length → T8 (M5 X false) ts rows → (∀ row ∈ rows,iC row) → ∃ k,S8 X k ts0 (tails [44] (rows ++ N5 m) ++ [93] :: rest) (some (ts0 ++ ts,R8 m ++ [93] :: rest))
 | _,_,ts0,hn,.nil,_=>⟨0,by
  rw [List.append_nil,List.nil_append]
  exact .stop (rF (.inl rfl) hn m rest)⟩
 | _,_,ts0,hn,@T8.cons _ _ _ t row ts rows a as,hh=>by
  obtain ⟨k,hk⟩ := lW (m := m) (rest := rest) (ts0 := ts0 ++ [t]) (by simp) as fun x hx=>hh x (by simp [hx])
  refine ⟨k + 1,?_⟩
  rw [List.cons_append,O6,List.cons_append,List.append_assoc]
  have := S8.on (tQ (.inl rfl) hn (hh row (by simp))) (a _ (fP (by decide))) hk
  simpa using this
theorem AB2 {ts : List Tn} {rows : List (List Wd)} {m : Bool} (h : T8 (M5 X false) ts rows) (hh : ∀ row ∈ rows,iC row) : NegAble X free (.tup [.str jG,.tup ts,.bl m]) ([91] :: (M4 [44] (rows ++ N5 m) ++ [[93]])) := fun rest hr=>by
 refine cY (by decide) ?_
 unfold R4
 refine E9 (show ([91] : Wd) ≠ [40] by decide) (K7 rfl ?_)
 show mO X (M4 [44] (rows ++ N5 m) ++ [[93]] ++ rest) _
 have e0 : M4 [44] (rows ++ N5 m) ++ [[93]] ++ rest = M4 [44] (rows ++ N5 m) ++ [93] :: rest := by simp
 rw [e0]
 have fin : ∀ k,S8 X k [] (M4 [44] (rows ++ N5 m) ++ [93] :: rest) (some (ts,R8 m ++ [93] :: rest)) → mO X (M4 [44] (rows ++ N5 m) ++ [93] :: rest) (some (.tup [.str jG,.tup ts,.bl m],rest)) := fun k hk=>⟨k,_,hk,by
  show _ = (aL [93] (R8 m ++ [93] :: rest)).map _
  rw [rK (by decide)]; rfl⟩
 cases h with
 | nil =>
  refine fin 0 ?_
  have e1 : M4 [44] ([] ++ N5 m) ++ [93] :: rest = R8 m ++ [93] :: rest := by cases m <;> rfl
  rw [e1]
  exact .stop (rG (.inl rfl) m rest)
 | @cons t row ts rows a as =>
  obtain ⟨k,hk⟩ := lW (m := m) (rest := rest) (ts0 := [t]) (by simp) as fun x hx=>hh x (by simp [hx])
  refine fin (k + 1) ?_
  rw [List.cons_append]
  show S8 X (k + 1) [] (row ++ tails [44] (rows ++ N5 m) ++ [93] :: rest) _
  rw [List.append_assoc]
  exact S8.on (tP (.inl rfl) (hh row (by simp))) (a _ (fP (by decide))) hk
def eJ (n : Wd) (must : Bool) (row : List Wd) : List Wd := [n] ++ (if must then [] else [[63]]) ++ [[58]] ++ row
theorem rH {n : Wd} {must : Bool} {t : Tn} {row : List Wd} (hn : E2 n = true) (h : M5 X false t row) {rest : List Wd} (hr : ES rest) : R7 X (eJ n must row ++ rest) (some ((n,t,must),rest)) := by
 unfold R7
 refine K7 (show E2 n = true from hn) ?_
 cases must with
 | true=>exact E9 (show ([58] : Wd) ≠ [63] by decide) (K7 rfl ⟨_,h rest hr,rfl⟩)
 | false=>exact K7 rfl (K7 rfl ⟨_,h rest hr,rfl⟩)
theorem mD {n : Wd} {must : Bool} {row : List Wd} (hn : E2 n = true) : iC (eJ n must row) := ⟨⟨n,_,rfl,(by rintro rfl; cases hn),(by rintro rfl; cases hn),(by rintro rfl; cases hn)⟩⟩
def AW6 (X : Bool → List Wd → R9 → Prop) (f : Wd × Tn × Bool) (row : List Wd) : Prop := ∃ r,row = eJ f.1 f.2.2 r ∧ E2 f.1 = true ∧ M5 X false f.2.1 r
theorem jT {m : Bool} {rest : List Wd} : ∀ {fs : List (Wd × Tn × Bool)} {rows : List (List Wd)} {fs0 : List (Wd × Tn × Bool)},0 < fs0.length → T8 (AW6 X) fs rows → ((fs0 ++ fs).map (·.1)).Nodup → ∃ k,P1 X k fs0 (tails [44] (rows ++ N5 m) ++ [125] :: rest) (some (fs0 ++ fs,R8 m ++ [125] :: rest))
 | _,_,fs0,hn,.nil,_=>⟨0,by
  rw [List.append_nil,List.nil_append]
  exact .stop (rF (.inr rfl) hn m rest)⟩
 | _,_,fs0,hn,@T8.cons _ _ _ f row fs rows a as,hh=>by
  obtain ⟨k,hk⟩ := jT (m := m) (rest := rest) (fs0 := fs0 ++ [f]) (by simp) as (by simpa using hh)
  refine ⟨k + 1,?_⟩
  obtain ⟨r,rfl,h1,h2⟩ := a
  rw [List.cons_append,O6,List.cons_append,List.append_assoc]
  have hnot : f.1 ∉ fs0.map (·.1) := by
   rw [List.map_append,List.map_cons,List.nodup_append] at hh
   intro z
   exact hh.2.2 f.1 z f.1 (by simp) rfl
  have := P1.on (tQ (.inr rfl) hn (mD h1)) (rH h1 h2 (fP (by decide))) hnot hk
  simpa using this
theorem AM0 {fs : List (Wd × Tn × Bool)} {rows : List (List Wd)} {m : Bool} (h : T8 (AW6 X) fs rows) (hh : (fs.map (·.1)).Nodup) : NegAble X free (.tup [.str nT,.tup (fs.map fO),.bl m]) ([123] :: (M4 [44] (rows ++ N5 m) ++ [[125]])) := fun rest hr=>by
 refine cY (by decide) ?_
 unfold R4
 refine E9 (show ([123] : Wd) ≠ [40] by decide) (E9 (show ([123] : Wd) ≠ [91] by decide) (K7 rfl ?_))
 show rW X (M4 [44] (rows ++ N5 m) ++ [[125]] ++ rest) _
 have e0 : M4 [44] (rows ++ N5 m) ++ [[125]] ++ rest = M4 [44] (rows ++ N5 m) ++ [125] :: rest := by simp
 rw [e0]
 have fin : ∀ k,P1 X k [] (M4 [44] (rows ++ N5 m) ++ [125] :: rest) (some (fs,R8 m ++ [125] :: rest)) → rW X (M4 [44] (rows ++ N5 m) ++ [125] :: rest) (some (.tup [.str nT,.tup (fs.map fO),.bl m],rest)) := fun k hk=>⟨k,_,hk,by
  show _ = (aL [125] (R8 m ++ [125] :: rest)).map _
  rw [rK (by decide)]; rfl⟩
 cases h with
 | nil =>
  refine fin 0 ?_
  have e1 : M4 [44] ([] ++ N5 m) ++ [125] :: rest = R8 m ++ [125] :: rest := by cases m <;> rfl
  rw [e1]
  exact .stop (rG (.inr rfl) m rest)
 | @cons f row fs rows a as =>
  obtain ⟨k,hk⟩ := jT (m := m) (rest := rest) (fs0 := [f]) (by simp) as (by simpa using hh)
  refine fin (k + 1) ?_
  obtain ⟨r,rfl,h1,h2⟩ := a
  rw [List.cons_append]
  show P1 X (k + 1) [] (eJ f.1 f.2.2 r ++ tails [44] (rows ++ N5 m) ++ [125] :: rest) _
  rw [List.append_assoc]
  exact P1.on (tP (.inr rfl) (mD h1)) (rH h1 h2 (fP (by decide))) (by simp) hk
end
end Law
namespace Law
open PySem L2 L2.Sp
def M7 (n : Int) : Wd := (Str.ofString (toString n)).cps.toList
theorem AV4 (n : Int) : S (M7 n) = Str.ofString (toString n) := rfl
def R3 (m : Nat) : Wd := (Nat.toDigits 10 m).map Char.toNat
theorem fE (m : Nat) : M7 (m : Int) = R3 m := PySem.W.KIN.signs_num m
theorem fD (m : Nat) : M7 (Int.negSucc m) = 45 :: R3 (m + 1) := by
 unfold M7
 rw [PyProof.Rows.signs_ofString]
 have e : toString (Int.negSucc m) = "-" ++ Nat.repr (m + 1) := rfl
 rw [e,String.toList_append,Nat.toList_repr,List.map_append]
 rfl
theorem pU (m : Nat) : ∀ c ∈ R3 m,K2 c = true := fun c hc=>by
 obtain ⟨ch,hch,e⟩ := List.mem_map.mp hc
 have r := PyProof.Rows.digit_range (Nat.isDigit_of_mem_toDigits (by decide) (by decide) hch)
 rw [← e]
 unfold K2
 simp only [Bool.and_eq_true,decide_eq_true_eq]
 exact r
theorem hU (m : Nat) : R3 m ≠ [] := fun e=>by
 have h := PyProof.Rows.tDigits_len_ge 10 m
 rw [List.map_eq_nil_iff.mp e] at h
 exact absurd h (by decide)
theorem rN (m : Nat) : (R3 m).head? ≠ some 48 ∨ R3 m = [48] := by
 induction m using Nat.strongRecOn with
 | _ m ih =>
  by_cases h : m < 10
  ·have : ∀ m,m < 10 → (R3 m).head? ≠ some 48 ∨ R3 m = [48] := by decide +kernel
   exact this m h
  ·have hm : m % 10 < 10 := Nat.mod_lt m (by decide)
   have t : Nat.toDigits 10 (m / 10) ++ Nat.toDigits 10 (m % 10) = Nat.toDigits 10 (10 * (m / 10) + m % 10) := Nat.toDigits_append_toDigits (by decide) (by omega) hm
   rw [Nat.div_add_mod] at t
   have e : R3 m = R3 (m / 10) ++ R3 (m % 10) := by unfold R3; rw [← t,List.map_append]
   have hne := hU (m / 10)
   refine .inl ?_
   rw [e]
   obtain ⟨c,r,er⟩ := List.exists_cons_of_ne_nil hne
   rcases ih (m / 10) (by omega) with hh | hh
   ·rw [er] at hh ⊢; exact hh
   ·exfalso
    have hv := PySem.W.KIN.val_back (m / 10)
    have hh' : (Nat.toDigits 10 (m / 10)).map Char.toNat = [48] := hh
    rw [hh'] at hv
    have : PySem.NumText.digitsVal [48] = 0 := rfl
    omega
theorem jJ {m k : Nat} (hk : 1 ≤ k) (h : m < 10 ^ k) : (R3 m).length ≤ k := by
 unfold R3
 rw [List.length_map]
 exact PyProof.Rows.digits10_le hk h
theorem qT {n : Int} (h : n.natAbs < 10 ^ 60) : Num (M7 n) := by
 cases n with
 | ofNat m =>
  have e : M7 (Int.ofNat m) = R3 m := fE m
  refine ⟨[],R3 m,e,.inl rfl,hU m,pU m,jJ (by decide) h,?_⟩
  rw [e]; exact rN m
 | negSucc m =>
  have e := fD m
  refine ⟨[45],R3 (m + 1),by rw [e]; rfl,.inr rfl,hU _,pU _,jJ (by decide) h,?_⟩
  rcases rN (m + 1) with hh | hh
  ·exact .inl hh
  ·exfalso
   have hv := PySem.W.KIN.val_back (m + 1)
   have hh' : (Nat.toDigits 10 (m + 1)).map Char.toNat = [48] := hh
   rw [hh'] at hv
   have : PySem.NumText.digitsVal [48] = 0 := rfl
   omega
theorem tT (m : Nat) : nV (R3 m) = m := PySem.W.KIN.val_back m
theorem qV (n : Int) : O8 (M7 n) = true := by
 cases n with
 | ofNat m =>
  have e : M7 (Int.ofNat m) = R3 m := fE m
  rw [e]
  obtain ⟨c,r,er⟩ := List.exists_cons_of_ne_nil (hU m)
  have := pU m c (by rw [er]; simp)
  rw [er]
  show (decide (c = 45) || K2 c) = true
  rw [this,Bool.or_true]
 | negSucc m=>rw [fD]; rfl
theorem xF (n : Int) : N3 (M7 n) = n := by
 cases n with
 | ofNat m =>
  have e : M7 (Int.ofNat m) = R3 m := fE m
  rw [e]
  obtain ⟨c,r,er⟩ := List.exists_cons_of_ne_nil (hU m)
  have hc := jI (pU m c (by rw [er]; simp))
  have e2 : N3 (R3 m) = (nV (R3 m) : Int) := by
   rw [er]
   unfold N3
   split
   ·rename_i heq; cases heq; omega
   ·rfl
  rw [e2,tT]; rfl
 | negSucc m =>
  rw [fD]
  show -((nV (R3 (m + 1)) : Nat) : Int) = _
  rw [tT]; rfl
def iB (i : Int) : Prop := i.natAbs < 10 ^ 53
theorem qU {i : Int} (h : iB i) : (M7 i).length ≤ 54 := by
 cases i with
 | ofNat m =>
  have e : M7 (Int.ofNat m) = R3 m := fE m
  rw [e]
  have := jJ (m := m) (k := 53) (by decide) h
  omega
 | negSucc m =>
  rw [fD,List.length_cons]
  have := jJ (m := m + 1) (k := 53) (by decide) h
  omega
end Law
namespace Law
open PySem L2 L2.Sp
section
variable {X Y : Bool → List Wd → R9 → Prop} {free : Bool}
theorem AM2 {n : Wd} (h : E2 n = true) : n ≠ [93] ∧ n ≠ [125] ∧ n ≠ [46,46] ∧ n ≠ [46] := by
 refine ⟨?_,?_,?_,?_⟩ <;> (rintro rfl; cases h)
end
end Law
namespace Law
open PySem L2 L2.Sp
def L9 : Wd := [101,108,115,101]
theorem BA0 : (Str.ofString "else" : Str) = S L9 := by decide +kernel
section
variable (X : Bool → List Wd → R9 → Prop)
inductive aS : Nat → List Tn → List Wd → Option (List Tn × List Wd) → Prop
 | stop {ts r} : hd r ≠ L9 → aS 0 ts r (some (ts,r))
 | on {k ts r t r1 res} : X true r (some (t,r1)) → aS k (ts ++ [t]) r1 res → aS (k + 1) ts (L9 :: r) res
 | bad {ts r} : X true r none → aS 1 ts (L9 :: r) none
def aO (ws : List Wd) (res : Option Tn) : Prop := ∃ nres,S5 ws nres ∧ match nres with
 | none=>res = none
 | some (ns,r)=>if hd r = [58] then ∃ xres,X true r.tail xres ∧ (match xres with
   | none=>res = none
   | some (t,r1)=>∃ k eres,aS X k [t] r1 eres ∧ res = match eres with
    | none=>none
    | some (ts,r2)=>if hd r2 = [] then some (.tup [.tup (ns.map Tn.str),.tup ts]) else none) else res = none
end
section
variable {P : Program} {w : World} {K : PySem.W.Frag} {mg : Str → Option Value} {base : Heap} {f : Addr} {fd : FuncData} {R C : Addr}
abbrev mX : Stmt := O5 33
theorem pP : D7 ["line","reader","path","trees"] ["line"] (B3 mX) := ⟨rfl,rfl,rfl,by decide +kernel,rfl,by decide +kernel,by decide +kernel⟩
theorem AR3 {N : Nat} {fi : Addr} {fdi : FuncData} (F : Fun K "read_row" "read_row" mX f fd) (r : Rdg P w K mg base R C) (M : Mk K R fi) (FI : FnOk P w K mg base (M0 P w) 6 fi fdi ["self","text"] (wE K R C)) (bi : Binds K fdi ["self","text"] []) (gR : mg "Reader" = some (.ref R)) :
  FnOk P w K mg base (M0 P w) (5 * N + 8) f fd ["line"] (kX K C (aO (P6 N))) := by
 refine Fun.ok1 F pP (fun vs H Q E h=>?_) (fun cdv A outer s H vs Q E hr h=>?_)
 ·obtain ⟨v,rfl,_⟩ := h
  rfl
 obtain ⟨v,rfl,h⟩ := h
 have hr7 := hr.mono (show 6 + 1 ≤ 5 * N + 7 by omega)
 have hrE := hr.mono (show 5 * N + 5 ≤ 5 * N + 7 by omega)
 have hr4 := hr.mono (show 4 ≤ 5 * N + 7 by omega)
 have hr3 := hr.mono (show 3 ≤ 5 * N + 7 by omega)
 have hr2 := hr.mono (show 2 ≤ 5 * N + 7 by omega)
 refine ⟨_,B2 (D3 (i := 1) pP.nd rfl (Or.inl rfl) (AJ2 M FI hr7 rfl gR bi .nil (G0 (E' := E) fun _ _ _ h=>h) (A9 (pv 0) B0)))
  (B2 (D3 (i := 2) pP.nd rfl (Or.inl rfl) (J9 r.NS hr4 rfl (G0 (E' := E) fun _ _ _ h=>h) (A9 (pv 1) B0)))
  (B2 (G4 (N7 r.MU r.c hr3 (G0 (E' := E) fun _ _ _ h=>h) (pv 1) (A9 B9 B0)))
  (B2 (D3 (i := 3) pP.nd rfl (Or.inl rfl) (J0 (A9 (J9 (qR r N) hrE rfl (G0 (E' := E) fun _ _ _ h=>h) (A9 (pv 1) (A9 Z3 B0))) B0)))
  (B2 (R5 PassesOwn.leaving (O7 (N7 r.TS r.c hr2 M8 (pv 1) (A9 B9 B0)))
   (B4 (G4 (O0 PySem.F.plainAttrs_list PySem.F.slot_list_append PySem.F.type_list_append J7 (pv 3) (A9 (J9 (qR r N) hrE rfl (G0 (E' := E) fun _ _ _ h=>h) (A9 (pv 1) (A9 Z3 B0))) B0)))))
  (B2 (G4 (N7 r.MU r.c hr3 (G0 (E' := E) fun _ _ _ h=>h) (pv 1) (A9 B9 B0)))
  (B4 (D4 (M6 (A9 (pv 2) (A9 (N9 U1 rfl r.m2 bV (A9 (pv 3) B0)) B0)))))))))),?_⟩
 refine ⟨_,rfl,fun rd dx h1 h2 n12=>⟨rd,dx,v,rfl,B1,?_⟩⟩
 rcases h with ⟨d,hd',hf,e⟩ | ⟨l,rfl,hs,h⟩
 ·refine .inl ⟨d,DV.mono (DKeep.same ?_) _ _ hd',hf,e _ ?_⟩
  ·exact X6 h1 h2 Grow.refl
  ·exact X6 h1 h2 Grow.refl
 refine .inr ⟨l,rfl,hs,fun ws hw H1 p hp g1 hl hrd=>?_,fun hw H1 g1=>?_⟩
 ·rcases h with ⟨hn,_⟩ | ⟨ws',res,hw',ok,hy,q⟩
  ·rw [hn] at hw; cases hw
  ·rw [hw] at hw'; cases hw'
   refine ⟨rfl,?_⟩
   obtain ⟨nres,hnm,hy⟩ := hy
   have D0 : RD H1 R rd dx p ws 0 := ⟨hrd,hl,ok⟩
   have S0 := RS.start D0
   have wl0 := ok.len
   have up : ∀ {H2 : Hp},Grow rd H1 H2 → Same H H2 := fun {H2} g2=>X6 h1 h2 (g1.trans g2)
   refine ⟨_,rfl,rd,dx,p,ws,0,nres,rfl,D0,hnm,?_⟩
   cases nres with
   | none =>
    subst hy
    exact fun H2 g2=>q H2 (up g2)
   | some nr =>
    obtain ⟨ns,r1⟩ := nr
    intro vp H2 t2 g2 d2 e2 lt2 le2 hvp
    have s2 := S0.more g2 d2
    dsimp only at hy
    refine ⟨_,rfl,rd,dx,_,rfl,d2.ob,rfl,rd,dx,p,ws,t2,[58],by rw [AS7]; rfl,d2,dB 58 (by decide),?_⟩
    by_cases ec : Law.hd (ws.drop t2) = [58]
    ·rw [if_pos (by rw [← e2]; exact ec)] at hy
     obtain ⟨xres,hx,hy⟩ := hy
     have s3 := s2.up (t2 + 1)
     have hvp3 := TV.kp (fK (t' := t2 + 1) d2) hvp
     refine K7 ec ⟨_,rfl,rd,dx,p,ws,t2 + 1,true,xres,rfl,s3.st,by rw [V6,e2]; exact hx,?_⟩
     cases xres with
     | none =>
      dsimp only at hy
      subst hy
      exact fun H4 g4=>q H4 (up (s3.g.trans g4))
     | some xr =>
      obtain ⟨x,r2⟩ := xr
      obtain ⟨k,eres,he,rfl⟩ := hy
      intro vx H4 t4 g4 d4 e4 lt4 le4 hvx
      have s4 := s3.more g4 d4
      have hvp4 := TV.kp (Kp.grow g4 s3.st) hvp3
      refine ⟨S4,fun lt hlt=>?_⟩
      have hlt0 := fH s4 hlt
      have kt := B8 hlt (.lst [vx])
      refine ⟨fun m σ H'=>∃ (ts : List Tn) (vs : List V) (t' : Nat),σ = [some (.str (S l)),some (.ref rd),some vp,some (.ref lt)] ∧ RS H1 H' R rd dx p ws t' ∧ H' lt = some (.lst vs) ∧ TAll K H' ts vs ∧ TV K H' (.tup (ns.map Tn.str)) vp ∧ aS (P6 N) m ts (ws.drop t') eres ∧ ts.length ≤ t' ∧ t' ≤ ws.length,
       ⟨k,[x],[vx],t4,rfl,s4.same kt,B1,TAll.one (TV.kp (Kp.same kt) hvx),TV.kp (Kp.same kt) hvp4,by rw [e4]; exact he,(by show 1 ≤ t4; omega),le4⟩,?_⟩
      rintro m σ H' ⟨ts,vs,t',rfl,s',hl',hts,hvp',hep,hlen,htl⟩
      have nl : lt ≠ rd := s'.none hlt0 hl'
      have hvl := hts.length
      refine ⟨_,rfl,rd,dx,_,rfl,s'.st.ob,rfl,rd,dx,p,ws,t',L9,by rw [BA0]; rfl,s'.st,?_⟩
      generalize hdr : ws.drop t' = rr at hep ⊢
      cases hep with
      | stop hh =>
       refine E9 hh ⟨_,rfl,F0 ?_⟩
       refine ⟨_,rfl,rd,dx,_,rfl,s'.st.ob,rfl,rd,dx,p,ws,t',[],by rw [rB]; rfl,s'.st,⟨by decide,fun c hc=>by cases hc⟩,?_⟩
       rw [hdr]
       dsimp only at q
       have s5 := s'.up (t' + 1)
       by_cases e5 : Law.hd rr = []
       ·rw [if_pos e5] at q
        have ku := fK (K := K) (t' := t' + 1) s'.st
        have hl5 : P9 H' R rd dx p (t' + 1) lt = some (.lst vs) := by unfold P9; rw [B5 nl]; exact hl'
        refine K7 e5 ⟨_,rfl,_,rfl,lt,_,rfl,.inl ⟨SqL.of hl5,fun p6 hp6=>⟨Q6,fun p7 hp7=>?_⟩⟩⟩
        have k6 := B8 hp6 (.tup vs)
        have k7 := B8 hp7 (.tup [vp,.ref p6])
        have k67 := Kp.same (K := K) (k6.trans k7)
        refine q _ _ (fun b o hb=>(k6.trans k7) _ _ (up s5.g b o hb)) ?_
        exact TV.tup (SqT.of B1) (TAll.cons (TV.kp k67 (TV.kp ku hvp')) (TAll.one (TV.tup (SqT.of (k7 _ _ B1)) (hts.kp (ku.trans k67)))))
       ·rw [if_neg e5] at q
        exact E9 e5 (q _ (up s5.g))
      | @on k' _ r3 t r4 _ hx2 hk2 =>
       obtain ⟨dd1,dd2⟩ := cT hdr
       refine K7 rfl ⟨_,rfl,E8 ?_⟩
       refine ⟨fun σ' H''=>∃ (vs : List V) (t'' : Nat),σ' = [some (.str (S l)),some (.ref rd),some vp,some (.ref lt)] ∧ RS H1 H'' R rd dx p ws t'' ∧ H'' lt = some (.lst vs) ∧ TAll K H'' (ts ++ [t]) vs ∧ TV K H'' (.tup (ns.map Tn.str)) vp ∧ aS (P6 N) k' (ts ++ [t]) (ws.drop t'') eres ∧ (ts ++ [t]).length ≤ t'' ∧ t'' ≤ ws.length,fun σ' H'' hh=>?_,?_⟩
       ·obtain ⟨vs,t'',a⟩ := hh
        exact ⟨k',Nat.lt_succ_self _,ts ++ [t],vs,t'',a⟩
       have s5 := s'.up (t' + 1)
       have ku := fK (K := K) (t' := t' + 1) s'.st
       have hl5 : P9 H' R rd dx p (t' + 1) lt = some (.lst vs) := by unfold P9; rw [B5 nl]; exact hl'
       refine ⟨_,rfl,.inl ⟨rfl,_,SqL.of hl5⟩,_,rfl,rd,dx,p,ws,t' + 1,true,_,rfl,s5.st,by rw [dd1]; exact hx2,?_⟩
       intro v6 H6 t6 g6 d6 e6 lt6 le6 hv6
       have s6 := s5.more g6 d6
       have hl6 := g6 _ _ nl hl5
       have k6 := ku.trans (Kp.grow (K := K) g6 s5.st)
       have kl := Kp.lst (K := K) (o := .lst (vs ++ [v6])) hl6
       exact ⟨lt,_,_,rfl,rfl,hl6,fX (by omega),_,t6,rfl,s6.put hlt0,B1,(hts.kp (k6.trans kl)).append (TAll.one (TV.kp kl hv6)),TV.kp (k6.trans kl) hvp',by rw [e6]; exact hk2,by rw [List.length_append,List.length_singleton]; omega,le6⟩
      | @bad _ r3 hx2 =>
       obtain ⟨dd1,dd2⟩ := cT hdr
       refine K7 rfl ⟨_,rfl,E8 ?_⟩
       have s5 := s'.up (t' + 1)
       have hl5 : P9 H' R rd dx p (t' + 1) lt = some (.lst vs) := by unfold P9; rw [B5 nl]; exact hl'
       refine ⟨fun _ _=>False,fun _ _ z=>z.elim,?_⟩
       refine ⟨_,rfl,.inl ⟨rfl,_,SqL.of hl5⟩,_,rfl,rd,dx,p,ws,t' + 1,true,_,rfl,s5.st,by rw [dd1]; exact hx2,?_⟩
       intro H6 g6
       exact q H6 (up (s5.g.trans g6))
    ·rw [if_neg (by rw [← e2]; exact ec)] at hy
     subst hy
     exact E9 ec (q _ (up (s2.up (t2 + 1)).g))
 ·rcases h with ⟨_,q⟩ | ⟨ws',res,hw',ok,hy,q⟩
  ·exact q _ (X6 h1 h2 (Grow.of g1))
  ·rw [hw] at hw'; cases hw'
end
end Law
namespace Law
open PySem L2 L2.Sp
def yX (u : Wd) : Prop := u ≠ [40] ∧ u ≠ [91] ∧ u ≠ [123] ∧ u ≠ [64] ∧ u ≠ [46,46] ∧ u ≠ [33] ∧ O8 u = false ∧ u.take 1 ≠ [34] ∧ u ∉ U9
instance (u : Wd) : Decidable (yX u) := by unfold yX; infer_instance
theorem AH7 {X : Bool → List Wd → R9 → Prop} {free : Bool} {r : List Wd} {res : R9} (h : yX (hd r)) : R4 X free r res ↔ res = none := by
 obtain ⟨h1,h2,h3,h4,h5,h6,h7,h8,h9⟩ := h
 unfold R4
 rw [if_neg h1,if_neg h2,if_neg h3,if_neg (fun z=>h4 z.1),if_neg (fun z=>h5 z.1),if_neg (by rw [h7]; decide),if_neg h8,if_neg h9]
theorem yQ {r : List Wd} (h : hd r ≠ [33]) : O9 r = 0 := by
 unfold O9
 cases r with
 | nil=>rfl
 | cons u r=>rw [List.takeWhile_cons_of_neg (by have h : u ≠ [33] := h; simpa using h)]; rfl
theorem nW {n : Nat} {free : Bool} {r : List Wd} (h : yX (hd r)) : P6 (n + 1) free r none := by
 refine ⟨none,⟨none,?_,rfl⟩,rfl⟩
 rw [yQ h.2.2.2.2.2.1,List.drop_zero]
 exact (AH7 h).mpr rfl
theorem oS {u v : Wd} {r : List Wd} (h : u ≠ v) : hd (u :: r) ≠ v := h
theorem bN {ns rest : List Wd} (h0 : ns ≠ []) (h : ∀ n ∈ ns,E2 n = true) (hr : hd rest ≠ [46]) : S5 (Q3 ns ++ rest) (some (ns,rest)) := by
 obtain ⟨n,ns,rfl⟩ := List.exists_cons_of_ne_nil h0
 obtain ⟨k,hk⟩ := gU hr (ns := ns) (ns0 := [n]) fun x hx=>h x (by simp [hx])
 unfold S5
 exact K7 (show E2 n = true from h n (by simp)) ⟨k,hk⟩
theorem oP {rest : List Wd} (hr : E2 (hd rest) = false) : ∀ {ns ns0 : List Wd},(∀ n ∈ ns,E2 n = true) → ∃ k,V2 k ns0 (tails [46] (ns.map ([·])) ++ ([46] :: rest)) none
 | [],ns0,_=>⟨1,.bad hr⟩
 | n :: ns,ns0,h=>by
  obtain ⟨k,hk⟩ := oP hr (ns := ns) (ns0 := ns0 ++ [n]) fun x hx=>h x (by simp [hx])
  refine ⟨k + 1,?_⟩
  rw [List.map_cons,O6]
  have := V2.on (ns := ns0) (h n (by simp)) hk
  simpa using this
theorem AB4 {ns rest : List Wd} (h0 : ns ≠ []) (h : ∀ n ∈ ns,E2 n = true) (hr : E2 (hd rest) = false) : S5 (Q3 ns ++ ([46] :: rest)) none := by
 obtain ⟨n,ns,rfl⟩ := List.exists_cons_of_ne_nil h0
 obtain ⟨k,hk⟩ := oP hr (ns := ns) (ns0 := [n]) fun x hx=>h x (by simp [hx])
 unfold S5
 exact K7 (show E2 n = true from h n (by simp)) ⟨k,hk⟩
theorem gW {r : List Wd} (h : E2 (hd r) = false) : S5 r none := by
 unfold S5
 exact E9 (by rw [h]; decide) rfl
def bG (ns : List Wd) (w : List Wd) (ws : List (List Wd)) : List Wd := Q3 ns ++ ([58] :: (w ++ tails L9 ws))
theorem kJ {r : List Wd} : ES (L9 :: r) := ES.of (by decide)
section
variable {X : Bool → List Wd → R9 → Prop}
theorem rL {rest : List Wd} (hr : ES rest) (hk : hd rest ≠ L9) : ∀ {ts ts0 : List Tn} {ws : List (List Wd)},T8 (M5 X true) ts ws → ∃ k,aS X k ts0 (tails L9 ws ++ rest) (some (ts0 ++ ts,rest))
 | _,ts0,_,.nil=>⟨0,by rw [List.append_nil]; exact .stop hk⟩
 | _,ts0,_,@T8.cons _ _ _ t w ts ws a as=>by
  obtain ⟨k,hk'⟩ := rL hr hk (ts0 := ts0 ++ [t]) as
  refine ⟨k + 1,?_⟩
  rw [O6,List.cons_append,List.append_assoc]
  have hes : ES (tails L9 ws ++ rest) := by
   cases ws with
   | nil=>exact hr
   | cons x xs=>rw [O6]; exact kJ
  have := aS.on (ts := ts0) (a _ hes) hk'
  simpa using this
theorem AP8 {ns : List Wd} {t : Tn} {w : List Wd} {ts : List Tn} {ws : List (List Wd)} (h0 : ns ≠ []) (h : ∀ n ∈ ns,E2 n = true) (ha : M5 X true t w) (hs : T8 (M5 X true) ts ws) :
  aO X (bG ns w ws) (some (.tup [.tup (ns.map Tn.str),.tup (t :: ts)])) := by
 refine ⟨some (ns,[58] :: (w ++ tails L9 ws)),bN h0 h (oS (by decide)),?_⟩
 refine K7 rfl ⟨some (t,tails L9 ws),?_,?_⟩
 ·have hes : ES (tails L9 ws) := by
   cases ws with
   | nil=>exact ES.nil
   | cons x xs=>rw [O6]; exact kJ
  exact ha _ hes
 ·obtain ⟨k,hk⟩ := rL ES.nil (show hd [] ≠ L9 by decide) (ts0 := [t]) hs
  rw [List.append_nil] at hk
  exact ⟨k,_,hk,rfl⟩
theorem lG {r : List Wd} (h : S5 r none) : aO X r none := ⟨none,h,rfl⟩
theorem wN {ns r : List Wd} (h0 : ns ≠ []) (h : ∀ n ∈ ns,E2 n = true) (h1 : hd r ≠ [46]) (h2 : hd r ≠ [58]) : aO X (Q3 ns ++ r) none := ⟨some (ns,r),bN h0 h h1,E9 h2 rfl⟩
theorem gG {ns r : List Wd} (h0 : ns ≠ []) (h : ∀ n ∈ ns,E2 n = true) (hx : X true r none) : aO X (Q3 ns ++ ([58] :: r)) none := ⟨some (ns,[58] :: r),bN h0 h (oS (by decide)),K7 rfl ⟨none,hx,rfl⟩⟩
theorem zL {ns w r : List Wd} {t : Tn} (h0 : ns ≠ []) (h : ∀ n ∈ ns,E2 n = true) (ha : M5 X true t w) (hx : X true r none) : aO X (Q3 ns ++ ([58] :: (w ++ (L9 :: r)))) none :=
 ⟨some (ns,[58] :: (w ++ (L9 :: r))),bN h0 h (oS (by decide)),K7 rfl ⟨some (t,L9 :: r),ha _ kJ,1,none,.bad hx,rfl⟩⟩
end
end Law
namespace Law
open PySem L2 L2.Sp
def pD (ws : List Str) : D := .tup (ws.map D.str)
mutual
inductive Tr : D → List (List Str) → Prop
 | leaf {w : Str} {r : List D} : w ≠ "place" → w ≠ "and" → w ≠ "or" → Tr (.tup (.str w :: r)) []
 | place {ws : List Str} : Tr (.tup [.str "place",pD ws]) [ws]
 | node {w : Str} {ds : List D} {ps : List (List Str)} : (w = "and" ∨ w = "or") → Trs ds ps → Tr (.tup [.str w,.tup ds]) ps
inductive Trs : List D → List (List Str) → Prop
 | nil : Trs [] []
 | cons {d : D} {ds : List D} {ps qs : List (List Str)} : Tr d ps → Trs ds qs → Trs (d :: ds) (ps ++ qs)
end
theorem Trs.append : ∀ {ds es : List D} {ps qs : List (List Str)},Trs ds ps → Trs es qs → Trs (ds ++ es) (ps ++ qs)
 | [],es,ps,qs,h,h'=>by cases h; exact h'
 | d :: ds,es,ps,qs,h,h'=>by
  cases h with
  | cons h1 h2=>rw [List.append_assoc]; exact .cons h1 (Trs.append h2 h')
theorem Trs.last : ∀ {ds : List D} {d : D} {ps : List (List Str)},Trs (ds ++ [d]) ps → ∃ p1 p2,ps = p1 ++ p2 ∧ Trs ds p1 ∧ Tr d p2
 | [],d,ps,h=>by
  cases h with
  | cons h1 h2=>cases h2; exact ⟨[],_,by simp,.nil,h1⟩
 | e :: ds,d,ps,h=>by
  cases h with
  | cons h1 h2 =>
   obtain ⟨p1,p2,e1,h3,h4⟩ := Trs.last h2
   subst e1
   exact ⟨_,p2,(List.append_assoc _ _ _).symm,.cons h1 h3,h4⟩
theorem tZ {α : Type} {f : α → Bool} {ps qs : List α} (h : ∀ p,p ∈ qs ↔ p ∈ ps) : qs.any f = ps.any f := by
 rw [Bool.eq_iff_iff,List.any_eq_true,List.any_eq_true]
 constructor
 ·rintro ⟨x,hx,hf⟩; exact ⟨x,(h x).mp hx,hf⟩
 ·rintro ⟨x,hx,hf⟩; exact ⟨x,(h x).mpr hx,hf⟩
def kM (ws us : List Str) : Bool := decide (us.take ws.length = ws)
def T2 (o p : List Str) : Bool := kM p o || kM o p
def T3 (o p : List Str) : Bool := decide (p.length < o.length) && kM p o
section
variable {P : Program} {w : World} {K : PySem.W.Frag} {mg : Str → Option Value} {base : Heap} {f : Addr} {fd : FuncData}
theorem oX {H : Hp} : ∀ {ws : List Str} {ys : List V},DAll K H (ws.map D.str) ys → ys = ws.map V.str
 | [],ys,h=>by simp only [List.map_nil,DAll] at h; exact h
 | w :: ws,ys,h=>by
  simp only [List.map_cons,DAll,DV] at h
  obtain ⟨y,r,rfl,⟨rfl,_⟩,h2⟩ := h
  rw [oX h2]; rfl
theorem tU {H : Hp} {ws : List Str} {v : V} (h : DV K H (pD ws) v) : ∃ a,v = .ref a ∧ SqT K H a (ws.map V.str) ∧ ws.length ≤ 100 := by
 simp only [pD,DV] at h
 obtain ⟨a,ys,rfl,hq,hall,hl⟩ := h
 rw [oX hall] at hq
 exact ⟨a,rfl,hq,by simpa using hl⟩
abbrev nI : Stmt := O5 13
theorem AY2 : D7 ["path","longer"] ["path","longer"] (B3 nI) := ⟨rfl,rfl,rfl,by decide +kernel,rfl,by decide +kernel,by decide +kernel⟩
def pN (K : PySem.W.Frag) : Sp := fun args H Q _=>∃ (a b : Addr) (ws us : List Str),args = [.ref a,.ref b] ∧ SqT K H a (ws.map V.str) ∧ SqT K H b (us.map V.str) ∧ ∀ H',Same H H' → Q (.bl (kM ws us)) H'
theorem AS2 (F : Fun K "begins" "begins" nI f fd) (m1 : mg "len" = none) : FnOk P w K mg base K3 1 f fd ["path","longer"] (pN K) := by
 refine F.ok AY2 (fun vs H Q E h=>?_) (fun cdv A outer s H vs Q E hr h=>?_)
 ·obtain ⟨a,b,ws,us,rfl,_⟩ := h
  rfl
 obtain ⟨a,b,ws,us,rfl,ha,hb,q⟩ := h
 refine ⟨_,B4 (D4 (N8 (AQ8 hr.units) (T0 AH5 (pv 1) nJ (N6 (G1 K4 rfl m1 PySem.boot_len (A9 (pv 0) B0)))) (pv 0) (D9 _))),?_⟩
 refine ⟨_,rfl,_,rfl,a,_,rfl,.inr ha,_,rfl,b,_,rfl,hb,fun p H1 g1 hp=>?_⟩
 rw [List.length_map,AU5] at hp
 exact ⟨_,rfl,p,a,us.take ws.length,ws,rfl,rfl,hp,g1.seqT ha,q _ g1⟩
abbrev aU : Stmt := O5 14
theorem eU : D7 ["trees","waiting","places","tree"] ["trees"] (B3 aU) := ⟨rfl,rfl,rfl,by decide +kernel,rfl,by decide +kernel,by decide +kernel⟩
def eT (K : PySem.W.Frag) : Sp := fun args H Q _=>∃ (a : Addr) (vs : List V) (ds : List D) (ps : List (List Str)),args = [.ref a] ∧ SqT K H a vs ∧ DAll K H ds vs ∧ Trs ds ps ∧ nL ds ≤ 900 ∧
 ∀ (H' : Hp) (l : Addr) (us : List V) (qs : List (List Str)),Same H H' → H' l = some (.lst us) → DAll K H (qs.map pD) us → (∀ p,p ∈ qs ↔ p ∈ ps) → qs.length ≤ 900 → Q (.ref l) H'
theorem rA {x : Str} : eI (.str x) [.str "and",.str "or"] = decide (x = "and" ∨ x = "or") := by
 have := rE x ["and","or"]
 have e : (["and","or"] : List Str).map V.str = [.str "and",.str "or"] := rfl
 rw [e] at this
 rw [this]
 congr 1
 simp
theorem xA (F : Fun K "places_of" "places_of" aU f fd) (m1 : mg "len" = none) (m2 : mg "list" = none) : FnOk P w K mg base K3 1 f fd ["trees"] (eT K) := by
 refine F.ok eU (fun vs H Q E h=>?_) (fun cdv A outer s H vs Q E hr h=>?_)
 ·obtain ⟨a,vs,ds,ps,rfl,_⟩ := h
  rfl
 obtain ⟨a,vs,ds0,ps0,rfl,hq,hall0,htr0,hn0,q⟩ := h
 refine ⟨_,B2 (D3 (i := 1) eU.nd rfl (Or.inl rfl) (N9 bU rfl m2 jK (A9 (pv 0) B0)))
  (B2 (D3 (i := 2) eU.nd rfl (Or.inl rfl) (J0 B0))
  (B2 (R5 PassesOwn.never (E1 jB (G1 K4 rfl m1 PySem.boot_len (A9 (pv 1) B0)) B7 (D9 _))
   (B2 (D3 (i := 3) eU.nd rfl (Or.inl rfl) (AQ5 PySem.F.plainAttrs_list PySem.F.slot_list_pop PySem.F.type_list_pop AS3 (pv 1)))
   (B4 (G3 (E1 N4 (G5 aG (pv 3) B7 (fun _ _=>rfl)) B9 (D9 _))
    (B4 (G4 (O0 PySem.F.plainAttrs_list PySem.F.slot_list_append PySem.F.type_list_append J7 (pv 2) (A9 (G5 aG (pv 3) B7 (fun _ _=>rfl)) B0))))
    (B4 (G3 (E1 gQ (G5 aG (pv 3) B7 (fun _ _=>rfl)) (M6 (A9 B9 (A9 B9 B0))) rfl)
     (B4 (G4 (O0 PySem.F.plainAttrs_list PySem.F.slot_list_extend PySem.F.type_list_extend AM3 (pv 1) (A9 (G5 aG (pv 3) B7 (fun _ _=>rfl)) B0)))) E4))))))
  (B4 (D4 (pv 2))))),?_⟩
 refine ⟨_,rfl,a,vs,rfl,.inr hq,fun l hl=>⟨Y0,fun l2 hl2=>?_⟩⟩
 have g1 := B8 hl (.lst vs)
 have g2 := B8 hl2 (.lst [])
 have n12 : l ≠ l2 := C0 B1 hl2
 have hl2' : H l2 = none := by
  cases e : H l2 with
  | none=>rfl
  | some o=>rw [g1 _ _ e] at hl2; cases hl2
 refine ⟨fun m σ H'=>∃ (ds : List D) (ws us : List V) (ps qs : List (List Str)) (z : Option V),m = nL ds ∧ σ = [some (.ref a),some (.ref l),some (.ref l2),z] ∧ Same H H' ∧ H' l = some (.lst ws) ∧ H' l2 = some (.lst us) ∧ DAll K H ds ws ∧ Trs ds ps ∧ DAll K H (qs.map pD) us ∧ (∀ p,(p ∈ qs ∨ p ∈ ps) ↔ p ∈ ps0) ∧ qs.length + nL ds ≤ 900,
  ⟨_,ds0,vs,[],ps0,[],none,rfl,rfl,fun b o h=>g2 _ _ (g1 _ _ h),g2 _ _ B1,B1,hall0,htr0,by simp only [List.map_nil,DAll],fun p=>by simp,by simpa using hn0⟩,?_⟩
 rintro m σ H' ⟨ds,ws,us,ps,qs,z,rfl,rfl,g,hlw,hlu,hall,htr,hqs,hmem,hn⟩
 have hlen := hall.length
 have hql := hqs.length
 rw [List.length_map] at hql
 have hln := lP ds
 refine ⟨_,rfl,l,ws,rfl,.inl (SqL.of hlw),_,_,rfl,rfl,_,rfl,?_⟩
 cases ds with
 | nil =>
  simp only [DAll] at hall
  subst hall
  cases htr
  exact F0 ⟨_,rfl,q H' l2 us qs g hlu hqs (fun p=>by have := hmem p; simpa using this) (by omega)⟩
 | cons d0 ds1 =>
  have e1 : decide (((ws.length : Nat) : Int) > 0) = true := decide_eq_true (by rw [hlen,List.length_cons]; omega)
  rw [e1]
  refine E8 ⟨fun σ' H''=>∃ m',m' < nL (d0 :: ds1) ∧ ∃ (ds : List D) (ws us : List V) (ps qs : List (List Str)) (z : Option V),m' = nL ds ∧ σ' = [some (.ref a),some (.ref l),some (.ref l2),z] ∧ Same H H'' ∧ H'' l = some (.lst ws) ∧ H'' l2 = some (.lst us) ∧ DAll K H ds ws ∧ Trs ds ps ∧ DAll K H (qs.map pD) us ∧ (∀ p,(p ∈ qs ∨ p ∈ ps) ↔ p ∈ ps0) ∧ qs.length + nL ds ≤ 900,fun _ _ h=>h,?_⟩
  obtain ⟨y,hy⟩ : ∃ y,ws[ws.length - 1]? = some y := ⟨_,List.getElem?_eq_getElem (by rw [hlen,List.length_cons]; omega)⟩
  obtain ⟨ds',dl,eds,h3,h4⟩ := DAll.last hall hy
  rw [eds] at htr
  obtain ⟨p1,p2,eps,ht1,ht2⟩ := htr.last
  subst eps
  have enl : nL (d0 :: ds1) = nL ds' + nD dl := by rw [eds,cO]; simp [nL]
  generalize hHb : B6 H' l (.lst ws.dropLast) = Hb
  have sp : Same H Hb := fun b o h=>by rw [← hHb,B5 (C0 h hl)]; exact g _ _ h
  have hbl : Hb l = some (.lst ws.dropLast) := by rw [← hHb]; exact B1
  have hbu : Hb l2 = some (.lst us) := by rw [← hHb,B5 (Ne.symm n12)]; exact hlu
  refine ⟨_,rfl,.inl ⟨rfl,_,SqL.of hlw⟩,l,ws,y,rfl,rfl,hlw,hy,?_⟩
  rw [hHb]
  have hpos := xL dl
  have h4' := h4
  cases ht2 with
  | leaf n1 n2 n3 =>
   rename_i wd r
   simp only [DV,DAll] at h4
   obtain ⟨c,ys,rfl,hc,⟨_,_,rfl,⟨rfl,_⟩,_⟩,_⟩ := h4
   refine ⟨_,rfl,c,_,_,_,rfl,rfl,sp.seqT hc,G2 (j := 0) rfl,rfl,_,rfl,?_⟩
   rw [kL,decide_eq_false n1]
   refine F0 ⟨_,rfl,c,_,_,_,rfl,rfl,sp.seqT hc,G2 (j := 0) rfl,Q6,fun t ht=>⟨t,_,rfl,.inr (SqT.of B1),rfl,rfl,_,rfl,?_⟩⟩
   rw [rA,decide_eq_false (by rintro (h | h); exact n2 h; exact n3 h)]
   have k := B8 ht (.tup [.str "and",.str "or"])
   refine F0 ⟨nL ds',by omega,ds',_,us,p1,qs,_,rfl,rfl,fun b o h=>k _ _ (sp _ _ h),k _ _ hbl,k _ _ hbu,h3,ht1,hqs,fun p=>by have := hmem p; simpa using this,by omega⟩
  | place =>
   rename_i wp
   simp only [DV,DAll] at h4
   obtain ⟨c,ys,rfl,hc,⟨_,_,rfl,⟨rfl,_⟩,y2,_,rfl,hy2,rfl⟩,_⟩ := h4
   refine ⟨_,rfl,c,_,_,_,rfl,rfl,sp.seqT hc,G2 (j := 0) rfl,rfl,_,rfl,?_⟩
   rw [kL,decide_eq_true rfl]
   have hp2 : 2 ≤ nD (.tup [.str "place",pD wp]) := by simp only [nD,nL]; omega
   refine E8 ⟨_,rfl,.inl ⟨rfl,_,SqL.of hbu⟩,_,rfl,c,_,_,_,rfl,rfl,sp.seqT hc,G2 (j := 1) rfl,l2,_,_,rfl,rfl,hbu,Q7 (by omega),?_⟩
   refine ⟨nL ds',by omega,ds',_,us ++ [y2],p1,qs ++ [wp],_,rfl,rfl,fun b o h=>by rw [B5 (C0 h hl2')]; exact sp _ _ h,by rw [B5 n12]; exact hbl,B1,h3,ht1,?_,fun p=>?_,by rw [List.length_append]; simp; omega⟩
   ·rw [List.map_append]
    exact DAll.snoc hqs hy2
   ·have := hmem p
    simp only [List.mem_append,List.mem_singleton] at this ⊢
    rw [← this]
    constructor
    ·rintro ((h | h) | h)
     ·exact .inl h
     ·exact .inr (.inr h)
     ·exact .inr (.inl h)
    ·rintro (h | h | h)
     ·exact .inl (.inl h)
     ·exact .inr h
     ·exact .inl (.inr h)
  | node hw hts =>
   rename_i wd es
   simp only [DV,DAll] at h4
   obtain ⟨c,ys,rfl,hc,⟨_,_,rfl,⟨rfl,_⟩,y2,_,rfl,⟨c2,zs,rfl,hc2,hes,hl100⟩,rfl⟩,_⟩ := h4
   have n1 : wd ≠ "place" := by rcases hw with rfl | rfl <;> decide +kernel
   refine ⟨_,rfl,c,_,_,_,rfl,rfl,sp.seqT hc,G2 (j := 0) rfl,rfl,_,rfl,?_⟩
   rw [kL,decide_eq_false n1]
   refine F0 ⟨_,rfl,c,_,_,_,rfl,rfl,sp.seqT hc,G2 (j := 0) rfl,Q6,fun t ht=>⟨t,_,rfl,.inr (SqT.of B1),rfl,rfl,_,rfl,?_⟩⟩
   rw [rA,decide_eq_true hw]
   have k := B8 ht (.tup [.str "and",.str "or"])
   have hbl2 := k _ _ hbl
   have e5 := hes.length
   have e6 := lP es
   have e7 : nD (.tup [.str wd,.tup es]) = 3 + nL es := by simp only [nD,nL]; omega
   have e8 := h3.length
   have e9 := lP ds'
   refine E8 ⟨_,rfl,.inl ⟨rfl,_,SqL.of hbl2⟩,_,rfl,c,_,_,_,rfl,rfl,k.seqT (sp.seqT hc),G2 (j := 1) rfl,l,c2,_,_,rfl,rfl,hbl2,k.seqT (sp.seqT hc2),zF (by omega),?_⟩
   refine ⟨nL (ds' ++ es),by rw [cO]; omega,ds' ++ es,_,us,p1 ++ p2,qs,_,rfl,rfl,fun b o h=>by rw [B5 (C0 h hl)]; exact k _ _ (sp _ _ h),B1,by rw [B5 (Ne.symm n12)]; exact k _ _ hbu,DAll.append h3 hes,ht1.append hts,hqs,hmem,by rw [cO]; omega⟩
end
end Law
namespace Law
open PySem L2 L2.Sp
theorem oY {X : Cx} {scope : Scope} {N' : List Str} {C : Addr} {fp : List Addr} {s : Shared} {H : Hp} : S9 (Q2 X scope N' C fp s H) (.builtin "len") (fun xs H Q=>∃ p ys,xs = [.ref p] ∧ (SqL X.K H p ys ∨ SqT X.K H p ys) ∧ Q (.int ys.length) H) := K4
def kD (rp : List Str) (ds : List D) : D := .tup [pD rp,.tup ds]
section
variable {P : Program} {w : World} {K : PySem.W.Frag} {mg : Str → Option Value} {base : Heap} {f : Addr} {fd : FuncData}
theorem mE {H : Hp} {rp : List Str} {ds : List D} {v : V} (h : DV K H (kD rp ds) v) : ∃ a b c vs,v = .ref a ∧ SqT K H a [.ref b,.ref c] ∧ SqT K H b (rp.map V.str) ∧ SqT K H c vs ∧ DAll K H ds vs := by
 simp only [kD,DV,DAll] at h
 obtain ⟨a,ys,rfl,hq,⟨y1,_,rfl,h1,y2,_,rfl,⟨c,vs,rfl,hc,hall,_⟩,rfl⟩,_⟩ := h
 obtain ⟨b,rfl,hb,_⟩ := tU h1
 exact ⟨a,b,c,vs,rfl,hq,hb,hc,hall⟩
def mS (K : PySem.W.Frag) (fB : List Str → List Str → Bool) : Sp := fun args H Q _=>∃ (v1 v2 : V) (rp op : List Str) (ds es : List D) (ps : List (List Str)),args = [v1,v2] ∧ DV K H (kD rp ds) v1 ∧ DV K H (kD op es) v2 ∧ Trs ds ps ∧ nL ds ≤ 900 ∧ ∀ H',Same H H' → Q (.bl (ps.any (fB op))) H'
theorem AF2 : (["place","other"] : List Str).Nodup := by decide +kernel
abbrev dM : Stmt := O5 11
theorem AI1 : D7 ["row","other"] ["row","other"] (B3 dM) := ⟨rfl,rfl,rfl,by decide +kernel,rfl,by decide +kernel,by decide +kernel⟩
theorem uA {α : Type} {H : Hp} {qs : List (List Str)} {us : List V} {i : Nat} {x : V} (h : DAll K H (qs.map pD) us) (hx : us[i]? = some x) : ∃ q a,qs[i]? = some q ∧ x = .ref a ∧ SqT K H a (q.map V.str) := by
 obtain ⟨d,h1,h2⟩ := h.get hx
 rw [List.getElem?_map] at h1
 cases e : qs[i]? with
 | none=>rw [e] at h1; cases h1
 | some q =>
  rw [e] at h1
  cases h1
  obtain ⟨a,rfl,ha,_⟩ := tU h2
  exact ⟨q,a,rfl,rfl,ha⟩
theorem AA6 (F : Fun K "leans" "leans" dM f fd) (B : Cal P w K mg base 1 "begins" ["path","longer"] (pN K)) (C : Cal P w K mg base 1 "places_of" ["trees"] (eT K)) (m1 : mg "any" = none) : FnOk P w K mg base K3 2 f fd ["row","other"] (mS K T2) := by
 refine F.ok AI1 (fun vs H Q E h=>?_) (fun cdv A outer s H vs Q E hr h=>?_)
 ·obtain ⟨v1,v2,rp,op,ds,es,ps,rfl,_⟩ := h
  rfl
 obtain ⟨v1,v2,rp,op,ds,es,ps,rfl,h1,h2,htr,hn,q⟩ := h
 obtain ⟨a,b,c,vs,rfl,hq,hb,hc,hall⟩ := mE h1
 obtain ⟨a',b',c',vs',rfl,hq',hb',hc',_⟩ := mE h2
 refine ⟨_,B4 (D4 (G1 (fR rfl) rfl m1 yN (A9 (dW (N' := ["place","other"]) (fr := [none,some 1]) (own := [0]) ⟨rfl,rfl,rfl,rfl,rfl,rfl,rfl⟩ rfl (X5 (E3 C hr rfl (A9 (G5 aG (pv 0) B7 (fun _ _=>rfl)) B0)))
   (fun _ _ _ _=>M3 (i := 0) AF2 rfl (Or.inl rfl)) (Z0 0) (fun _ _ _ _=>Y7)
   (fun _ _ _ _=>AE9 (E3 B hr rfl (A9 (pv 0) (A9 (G5 jH (pv 1) B7 (fun _ _=>rfl)) B0))) (aD (E3 B hr rfl (A9 (G5 jH (pv 1) B7 (fun _ _=>rfl)) (A9 (pv 0) B0)))))) B0))),?_⟩
 refine ⟨_,rfl,a,_,_,_,rfl,rfl,hq,G2 (j := 1) rfl,c,vs,ds,ps,rfl,hc,hall,htr,hn,fun H1 l us qs g1 hl hqs hmem hlen=>?_⟩
 have hlu := hqs.length
 rw [List.length_map] at hlu
 refine ⟨l,rfl,⟨_,SqL.of hl⟩,fun l2 hl2=>?_⟩
 refine cZ (xs := us) (qs.map (T2 op)) hl2 (SqL.of hl) (by simp [hlu]) (by simp; omega) (fun i x bb ys H' N hx hbb g fin=>?_) (fun H' g hL=>?_)
 ·obtain ⟨qq,aq,eq,rfl,haq⟩ := uA (α := Nat) hqs hx
  rw [List.getElem?_map,eq] at hbb
  cases hbb
  have gg : Same H H' := fun b o h=>g _ _ (g1 _ _ h)
  dsimp only [X0,R1]
  refine jW ⟨_,rfl,_,rfl,a',_,_,_,rfl,rfl,gg.seqT hq',G2 (j := 0) rfl,aq,b',qq,op,rfl,gg.seqT haq,gg.seqT hb',fun H2 g2=>⟨_,rfl,?_⟩⟩
  cases e : kM qq op with
  | true =>
   have e2 : T2 op qq = true := by unfold T2; rw [e]; rfl
   rw [e2] at fin
   exact E8 (fin _ g2)
  | false =>
   have e2 : T2 op qq = kM op qq := by unfold T2; rw [e]; rfl
   rw [e2] at fin
   have gh : Same H H2 := fun b o h=>g2 _ _ (gg _ _ h)
   exact F0 ⟨_,rfl,a',_,_,_,rfl,rfl,gh.seqT hq',G2 (j := 0) rfl,_,rfl,b',aq,op,qq,rfl,gh.seqT hb',gh.seqT haq,fun H3 g3=>fin _ (fun b o h=>g3 _ _ (g2 _ _ h))⟩
 ·refine ⟨l2,_,rfl,hL,?_⟩
  have e : (qs.map (T2 op)).any id = ps.any (T2 op) := by rw [List.any_map]; exact tZ hmem
  rw [e]
  exact q _ (fun b o h=>g _ _ (g1 _ _ h))
abbrev iU : Stmt := O5 12
theorem AP4 : D7 ["row","other"] ["row","other"] (B3 iU) := ⟨rfl,rfl,rfl,by decide +kernel,rfl,by decide +kernel,by decide +kernel⟩
theorem AU3 {a b : Nat} : decide ((a : Int) < (b : Int)) = decide (a < b) := by rw [Bool.eq_iff_iff,decide_eq_true_iff,decide_eq_true_iff]; omega
theorem AK8 (F : Fun K "leans_into" "leans_into" iU f fd) (B : Cal P w K mg base 1 "begins" ["path","longer"] (pN K)) (C : Cal P w K mg base 1 "places_of" ["trees"] (eT K)) (m1 : mg "any" = none) (m2 : mg "len" = none) : FnOk P w K mg base K3 2 f fd ["row","other"] (mS K T3) := by
 refine F.ok AP4 (fun vs H Q E h=>?_) (fun cdv A outer s H vs Q E hr h=>?_)
 ·obtain ⟨v1,v2,rp,op,ds,es,ps,rfl,_⟩ := h
  rfl
 obtain ⟨v1,v2,rp,op,ds,es,ps,rfl,h1,h2,htr,hn,q⟩ := h
 obtain ⟨a,b,c,vs,rfl,hq,hb,hc,hall⟩ := mE h1
 obtain ⟨a',b',c',vs',rfl,hq',hb',hc',_⟩ := mE h2
 refine ⟨_,B4 (D4 (G1 (fR rfl) rfl m1 yN (A9 (dW (N' := ["place","other"]) (fr := [none,some 1]) (own := [0]) ⟨rfl,rfl,rfl,rfl,rfl,rfl,rfl⟩ rfl (X5 (E3 C hr rfl (A9 (G5 aG (pv 0) B7 (fun _ _=>rfl)) B0)))
   (fun _ _ _ _=>M3 (i := 0) AF2 rfl (Or.inl rfl)) (Z0 0) (fun _ _ _ _=>Y7)
   (fun _ _ _ _=>bJ (N8 fC (G1 oY rfl m2 PySem.boot_len (A9 (pv 0) B0)) (G1 oY rfl m2 PySem.boot_len (A9 (G5 jH (pv 1) B7 (fun _ _=>rfl)) B0)) (D9 _)) (aD (E3 B hr rfl (A9 (pv 0) (A9 (G5 jH (pv 1) B7 (fun _ _=>rfl)) B0)))))) B0))),?_⟩
 refine ⟨_,rfl,a,_,_,_,rfl,rfl,hq,G2 (j := 1) rfl,c,vs,ds,ps,rfl,hc,hall,htr,hn,fun H1 l us qs g1 hl hqs hmem hlen=>?_⟩
 have hlu := hqs.length
 rw [List.length_map] at hlu
 refine ⟨l,rfl,⟨_,SqL.of hl⟩,fun l2 hl2=>?_⟩
 refine cZ (xs := us) (qs.map (T3 op)) hl2 (SqL.of hl) (by simp [hlu]) (by simp; omega) (fun i x bb ys H' N hx hbb g fin=>?_) (fun H' g hL=>?_)
 ·obtain ⟨qq,aq,eq,rfl,haq⟩ := uA (α := Nat) hqs hx
  rw [List.getElem?_map,eq] at hbb
  cases hbb
  have gg : Same H H' := fun b o h=>g _ _ (g1 _ _ h)
  dsimp only [X0,R1]
  refine jW ⟨_,rfl,aq,_,rfl,.inr (gg.seqT haq),_,rfl,a',_,_,_,rfl,rfl,gg.seqT hq',G2 (j := 0) rfl,b',_,rfl,.inr (gg.seqT hb'),_,_,rfl,rfl,_,rfl,?_⟩
  rw [List.length_map,List.length_map,AU3]
  cases e : decide (qq.length < op.length) with
  | true =>
   have e2 : T3 op qq = kM qq op := by unfold T3; rw [e]; rfl
   rw [e2] at fin
   exact E8 ⟨_,rfl,_,rfl,a',_,_,_,rfl,rfl,gg.seqT hq',G2 (j := 0) rfl,aq,b',qq,op,rfl,gg.seqT haq,gg.seqT hb',fin⟩
  | false =>
   have e2 : T3 op qq = false := by unfold T3; rw [e]; rfl
   rw [e2] at fin
   exact F0 (fin _ uT)
 ·refine ⟨l2,_,rfl,hL,?_⟩
  have e : (qs.map (T3 op)).any id = ps.any (T3 op) := by rw [List.any_map]; exact tZ hmem
  rw [e]
  exact q _ (fun b o h=>g _ _ (g1 _ _ h))
end
end Law
namespace Law
open PySem L2 L2.Sp
inductive Rch (E : Nat → Nat → Prop) : Nat → Nat → Prop
 | refl (a : Nat) : Rch E a a
 | snoc {a b c : Nat} : Rch E a b → E b c → Rch E a c
theorem Rch.trans {E : Nat → Nat → Prop} {a b c : Nat} (h : Rch E a b) (h' : Rch E b c) : Rch E a c := by
 induction h' with
 | refl=>exact h
 | snoc _ e ih=>exact .snoc ih e
def rP (E : Nat → Nat → Prop) : List Nat → Prop
 | []=>True
 | [_]=>True
 | x :: y :: r=>E x y ∧ rP E (y :: r)
theorem rO {E : Nat → Nat → Prop} {u v : Nat} (he : E u v) : ∀ {p : List Nat},rP E p → p.getLast? = some u → rP E (p ++ [v])
 | [],_,h=>by simp at h
 | [x],_,h=>by
  simp at h
  subst h
  exact ⟨he,trivial⟩
 | x :: y :: r,hc,h=>by
  have h : (y :: r).getLast? = some u := by simpa [List.getLast?_cons_cons] using h
  exact ⟨hc.1,rO he hc.2 h⟩
theorem fG : ∀ (n : Nat) (l : List Nat),l.Nodup → (∀ x ∈ l,x < n) → l.length ≤ n
 | 0,l,_,h=>by
  cases l with
  | nil=>exact Nat.le_refl _
  | cons x r=>exact absurd (h x List.mem_cons_self) (by omega)
 | n + 1,l,hd,h=>by
  by_cases hn : n ∈ l
  ·have h1 := fG n (l.erase n) (hd.erase n) fun x hx=>by
    have h2 := (List.Nodup.mem_erase_iff hd).mp hx
    have := h x h2.2
    omega
   rw [List.length_erase_of_mem hn] at h1
   omega
  ·have := fG n l hd fun x hx=>by
    have := h x hx
    have : x ≠ n := fun e=>hn (e ▸ hx)
    omega
   omega
abbrev Y5 := List (Nat × List Nat)
structure Ent (n : Nat) (E : Nat → Nat → Prop) (a : Nat) (ent : Y5) : Prop where
 nd : (ent.map (·.1)).Nodup
 lt : ∀ e ∈ ent,e.1 < n
 way : ∀ e ∈ ent,rP E e.2 ∧ e.2.Nodup ∧ e.2.head? = some a ∧ e.2.getLast? = some e.1 ∧ ∀ x ∈ e.2,x ∈ ent.map (·.1)
 pre : ∀ e ∈ ent,e.2.dropLast = [] ∨ ∃ u,(u,e.2.dropLast) ∈ ent
theorem Ent.start {n : Nat} {E : Nat → Nat → Prop} {a : Nat} (h : a < n) : Ent n E a [(a,[a])] :=
 ⟨by simp,fun e he=>by simp at he; rw [he]; exact h,fun e he=>by
  simp at he
  rw [he]
  exact ⟨trivial,by simp,rfl,rfl,by simp⟩,fun e he=>by
  simp at he
  rw [he]
  exact .inl rfl⟩
theorem Ent.add {n : Nat} {E : Nat → Nat → Prop} {a u v : Nat} {p : List Nat} {ent : Y5} (h : Ent n E a ent) (hu : (u,p) ∈ ent) (hv : v ∉ ent.map (·.1)) (he : E u v) (hl : v < n) : Ent n E a (ent ++ [(v,p ++ [v])]) := by
 obtain ⟨c1,c2,c3,c4,c5⟩ := h.way _ hu
 have hp : p ≠ [] := fun z=>by rw [z] at c3; cases c3
 refine ⟨?_,fun e hm=>?_,fun e hm=>?_,fun e hm=>?_⟩
 ·rw [List.map_append,List.nodup_append]
  refine ⟨h.nd,by simp,fun x hx y hy=>?_⟩
  rw [List.mem_singleton.mp hy]
  intro z
  have z : x = v := z
  exact hv (z ▸ hx)
 ·rcases List.mem_append.mp hm with hm | hm
  ·exact h.lt e hm
  ·rw [List.mem_singleton.mp hm]; exact hl
 ·rcases List.mem_append.mp hm with hm | hm
  ·obtain ⟨d1,d2,d3,d4,d5⟩ := h.way e hm
   exact ⟨d1,d2,d3,d4,fun x hx=>by rw [List.map_append]; exact List.mem_append_left _ (d5 x hx)⟩
  ·rw [List.mem_singleton.mp hm]
   refine ⟨rO he c1 c4,?_,?_,by simp,fun x hx=>?_⟩
   ·rw [List.nodup_append]
    refine ⟨c2,by simp,fun x hx y hy=>?_⟩
    rw [List.mem_singleton.mp hy]
    intro z
    exact hv (z ▸ c5 x hx)
   ·show (p ++ [v]).head? = some a
    cases p with
    | nil=>exact absurd rfl hp
    | cons x r=>exact c3
   ·rw [List.map_append]
    rcases List.mem_append.mp hx with hx | hx
    ·exact List.mem_append_left _ (c5 x hx)
    ·rw [List.mem_singleton.mp hx]; simp
 ·rcases List.mem_append.mp hm with hm | hm
  ·rcases h.pre e hm with z | ⟨w,z⟩
   ·exact .inl z
   ·exact .inr ⟨w,List.mem_append_left _ z⟩
  ·rw [List.mem_singleton.mp hm]
   refine .inr ⟨u,List.mem_append_left _ ?_⟩
   show (u,(p ++ [v]).dropLast) ∈ ent
   rw [List.dropLast_concat]
   exact hu
def cX (p : List Nat) : V := match p.dropLast.getLast? with
 | none=>.non
 | some u=>.int (u : Int)
def U4 (ent : Y5) : List (K1 × V) := ent.map fun e=>(Sum.inl (e.1 : Int),cX e.2)
theorem sP {ent : Y5} {v : Nat} {p : List Nat} (hd : (ent.map (·.1)).Nodup) (h : (v,p) ∈ ent) : P3 (U4 ent) (Sum.inl (v : Int)) = some (cX p) := by
 induction ent with
 | nil=>cases h
 | cons e r ih =>
  rw [List.map_cons,List.nodup_cons] at hd
  show P3 ((Sum.inl (e.1 : Int),cX e.2) :: U4 r) _ = _
  rcases List.mem_cons.mp h with z | z
  ·subst z
   rw [Q5 rfl]
  ·have hne : e.1 ≠ v := fun q=>hd.1 (by rw [q]; exact List.mem_map.mpr ⟨_,z,rfl⟩)
   rw [P7 (fun q=>by
    have q : (Sum.inl (e.1 : Int) : K1) = Sum.inl (v : Int) := q
    injection q with q
    exact hne (by omega))]
   exact ih hd.2 z
theorem vX {ent : Y5} {v : Nat} (h : v ∉ ent.map (·.1)) : P3 (U4 ent) (Sum.inl (v : Int)) = none := by
 induction ent with
 | nil=>rfl
 | cons e r ih =>
  rw [List.map_cons,List.mem_cons,not_or] at h
  show P3 ((Sum.inl (e.1 : Int),cX e.2) :: U4 r) _ = _
  rw [P7 (fun q=>by
   have q : (Sum.inl (e.1 : Int) : K1) = Sum.inl (v : Int) := q
   injection q with q
   exact h.1 (by omega))]
  exact ih h.2
theorem AI7 {ent : Y5} {v : Nat} {p : List Nat} (h : v ∉ ent.map (·.1)) : Q8 (U4 ent) (Sum.inl (v : Int)) (cX p) = U4 (ent ++ [(v,p)]) := by
 rw [zP _ (vX h)]
 unfold U4
 rw [List.map_append]
 rfl
theorem zZ {p : List Nat} {u v : Nat} (h : p.getLast? = some u) : cX (p ++ [v]) = .int (u : Int) := by
 unfold cX
 rw [List.dropLast_concat,h]
def G6 (p : List Nat) : List V := p.map fun n : Nat=>V.int (n : Int)
section
variable {P : Program} {w : World} {K : PySem.W.Frag} {mg : Str → Option Value} {base : Heap} {f : Addr} {fd : FuncData}
theorem xV {n : Nat} (h : n + 64 < cLine) : n + 1 < cLine := by omega
abbrev mV : Stmt := O5 17
theorem pO : D7 ["came_from","last","way","here"] ["came_from","last"] (B3 mV) := ⟨rfl,rfl,rfl,by decide +kernel,rfl,by decide +kernel,by decide +kernel⟩
def uM : Sp := fun args H Q _=>∃ (d : Addr) (n a v : Nat) (E : Nat → Nat → Prop) (ent : Y5) (p : List Nat),args = [.ref d,.int (v : Int)] ∧ H d = some (.dK (U4 ent)) ∧ Ent n E a ent ∧ n ≤ 100 ∧ (v,p) ∈ ent ∧ ∀ (H' : Hp) (l : Addr),Same H H' → H l = none → H' l = some (.lst (G6 p)) → Q (.ref l) H'
theorem AR1 (F : Fun K "way_to" "way_to" mV f fd) (m1 : mg "list" = none) (m2 : mg "reversed" = none) : FnOk P w K mg base K3 1 f fd ["came_from","last"] uM := by
 refine F.ok pO (fun vs H Q E h=>?_) (fun cdv A outer s H vs Q E hr h=>?_)
 ·obtain ⟨d,n,a,v,E,ent,p,rfl,_⟩ := h
  rfl
 obtain ⟨d,n,a,v,Ed,ent,p,rfl,hd,he,hn,hv,q⟩ := h
 refine ⟨_,B2 (D3 (i := 2) pO.nd rfl (Or.inl rfl) (J0 B0))
  (B2 (D3 (i := 3) pO.nd rfl (Or.inl rfl) (pv 1))
  (B2 (R5 PassesOwn.never (E1 dZ (pv 3) N2 (D9 _))
   (B2 (G4 (O0 PySem.F.plainAttrs_list PySem.F.slot_list_append PySem.F.type_list_append J7 (pv 2) (A9 (pv 3) B0)))
   (B4 (D3 (i := 3) pO.nd rfl (Or.inl rfl) (AJ4 (xV hr.units) (pv 0) (pv 3) (fun _ _=>rfl))))))
  (B4 (D4 (uV rfl rfl m1 rfl m2 (pv 2)))))),?_⟩
 refine ⟨Y0,fun l hl=>⟨_,rfl,?_⟩⟩
 have g0 := B8 hl (.lst [])
 have hpl : p.length ≤ 100 := by
  have := fG n p (he.way _ hv).2.1 fun x hx=>by
   obtain ⟨e,hm,ee⟩ := List.mem_map.mp ((he.way _ hv).2.2.2.2 x hx)
   rw [← ee]; exact he.lt e hm
  omega
 refine ⟨fun m σ H'=>∃ (q ws : List Nat) (x : V),m = q.length ∧ σ = [some (.ref d),some (.int (v : Int)),some (.ref l),some x] ∧ Same H H' ∧ H' l = some (.lst (G6 ws)) ∧ p = q ++ ws.reverse ∧ ((q = [] ∧ x = .non) ∨ ∃ u,(u,q) ∈ ent ∧ x = .int (u : Int)),
  ⟨_,p,[],.int (v : Int),rfl,rfl,g0,B1,by simp,.inr ⟨v,hv,rfl⟩⟩,?_⟩
 rintro m σ H' ⟨qq,ws,x,rfl,rfl,g,hws,ep,hx⟩
 refine ⟨_,rfl,rfl,_,rfl,?_⟩
 rcases hx with ⟨hq0,rfl⟩ | ⟨u,hu,rfl⟩
 ·subst hq0
  refine F0 ⟨_,rfl,l,_,rfl,hws,fun l2 hl2=>?_⟩
  have g2 := B8 hl2 (.lst (G6 ws).reverse)
  refine q _ l2 (fun b o h=>g2 _ _ (g _ _ h)) ?_ ?_
  ·cases e : H l2 with
   | none=>rfl
   | some o=>rw [g _ _ e] at hl2; cases hl2
  ·rw [B1,ep]
   simp [G6]
 ·have hlen : ws.length < 1000 := by
   have := congrArg List.length ep
   rw [List.length_append,List.length_reverse] at this
   omega
  obtain ⟨c1,c2,c3,c4,c5⟩ := he.way _ hu
  have hqn : qq ≠ [] := fun z=>by rw [z] at c3; cases c3
  have eq : qq = qq.dropLast ++ [u] := by
   have h1 : qq.getLast hqn = u := by
    have h2 := List.getLast?_eq_some_getLast hqn
    rw [h2] at c4
    exact Option.some.inj c4
   conv=>lhs; rw [← List.dropLast_concat_getLast hqn]
   rw [h1]
  refine E8 ⟨fun σ' H''=>∃ m',m' < qq.length ∧ ∃ (q ws : List Nat) (x : V),m' = q.length ∧ σ' = [some (.ref d),some (.int (v : Int)),some (.ref l),some x] ∧ Same H H'' ∧ H'' l = some (.lst (G6 ws)) ∧ p = q ++ ws.reverse ∧ ((q = [] ∧ x = .non) ∨ ∃ u,(u,q) ∈ ent ∧ x = .int (u : Int)),fun _ _ h=>h,?_⟩
  refine ⟨_,rfl,.inl ⟨rfl,_,SqL.of hws⟩,_,rfl,l,_,_,rfl,rfl,hws,by rw [G6,List.length_map]; exact Q7 (by omega),?_⟩
  have hd' : B6 H' l (.lst (G6 ws ++ [.int (u : Int)])) d = some (.dK (U4 ent)) := by rw [B5 (C0 hd hl)]; exact g _ _ hd
  refine ⟨_,rfl,_,rfl,d,cX qq,rfl,by rw [← sP he.nd hu]; exact DGet.k (k := Sum.inl (u : Int)) hd',qq.dropLast.length,?_,qq.dropLast,ws ++ [u],cX qq,rfl,rfl,fun b o h=>by rw [B5 (C0 h hl)]; exact g _ _ h,?_,?_,?_⟩
  ·rw [List.length_dropLast]
   have : 0 < qq.length := List.length_pos_iff.mpr hqn
   omega
  ·rw [B1]; simp [G6]
  ·rw [List.reverse_append]
   show p = qq.dropLast ++ (u :: ws.reverse)
   rw [ep]
   conv=>lhs; rw [eq]
   simp
  ·unfold cX
   rcases he.pre _ hu with z | ⟨w',z⟩
   ·have z : qq.dropLast = [] := z
    exact .inl ⟨z,by rw [z]; rfl⟩
   ·refine .inr ⟨w',z,?_⟩
    have := (he.way _ z).2.2.2.1
    have this : qq.dropLast.getLast? = some w' := this
    rw [this]
end
end Law
namespace Law
open PySem L2 L2.Sp
def Ed (n : Nat) (G : Nat → Nat → Bool) (i j : Nat) : Prop := i < n ∧ j < n ∧ G i j = true
def bM (n : Nat) (G : Nat → Nat → Bool) (i : Nat) : List Nat := (List.range n).filter (G i)
theorem jC {n : Nat} {G : Nat → Nat → Bool} {i j : Nat} (hi : i < n) : j ∈ bM n G i ↔ Ed n G i j := by
 unfold bM Ed
 rw [List.mem_filter,List.mem_range]
 exact ⟨fun h=>⟨hi,h.1,h.2⟩,fun h=>⟨h.2.1,h.2.2⟩⟩
structure Srch (n : Nat) (G : Nat → Nat → Bool) (a b : Nat) (ent : Y5) (W : List Nat) (ok : Nat → Prop) : Prop where
 en : Ent n (Ed n G) a ent
 sub : ∀ x ∈ W,x ∈ ent.map (·.1)
 first : a ∈ ent.map (·.1)
 done : ∀ v ∈ ent.map (·.1),v ∉ W → ok v → v ≠ b ∧ ∀ j,Ed n G v j → j ∈ ent.map (·.1)
theorem Srch.no {n : Nat} {G : Nat → Nat → Bool} {a b : Nat} {ent : Y5} (h : Srch n G a b ent [] fun _=>True) : ¬ Rch (Ed n G) a b := by
 have all : ∀ v,Rch (Ed n G) a v → v ∈ ent.map (·.1) := fun v hv=>by
  induction hv with
  | refl=>exact h.first
  | snoc _ e ih=>exact (h.done _ ih (by simp) trivial).2 _ e
 intro hr
 exact (h.done b (all b hr) (by simp) trivial).1 rfl
theorem rD {n : Nat} {E : Nat → Nat → Prop} {a : Nat} {ent : Y5} (h : Ent n E a ent) : ent.length ≤ n := by
 have := fG n (ent.map (·.1)) h.nd fun x hx=>by
  obtain ⟨e,he,ee⟩ := List.mem_map.mp hx
  rw [← ee]; exact h.lt e he
 rwa [List.length_map] at this
theorem yC {ent : Y5} {x : Nat} (h : x ∈ ent.map (·.1)) : ∃ p,(x,p) ∈ ent := by
 obtain ⟨⟨y,p⟩,h1,h2⟩ := List.mem_map.mp h
 have h2 : y = x := h2
 rw [← h2]; exact ⟨p,h1⟩
section
variable {P : Program} {w : World} {K : PySem.W.Frag} {mg : Str → Option Value} {base : Heap} {f : Addr} {fd : FuncData}
def NxV (H : Hp) (ln : Addr) (n : Nat) (G : Nat → Nat → Bool) : Prop := ∃ vs,H ln = some (.lst vs) ∧ vs.length = n ∧ ∀ i,i < n → ∃ li,vs[i]? = some (.ref li) ∧ H li = some (.lst (G6 (bM n G i)))
theorem NxV.same {H H' : Hp} {ln : Addr} {n : Nat} {G : Nat → Nat → Bool} (g : Same H H') (h : NxV H ln n G) : NxV H' ln n G := by
 obtain ⟨vs,h1,h2,h3⟩ := h
 exact ⟨vs,g _ _ h1,h2,fun i hi=>by
  obtain ⟨li,h4,h5⟩ := h3 i hi
  exact ⟨li,h4,g _ _ h5⟩⟩
abbrev dJ : Stmt := O5 16
theorem dD : D7 ["nexts","first","last","came_from","waiting","here","number"] ["nexts","first","last"] (B3 dJ) := ⟨rfl,rfl,rfl,by decide +kernel,rfl,by decide +kernel,by decide +kernel⟩
def mR : Sp := fun args H Q _=>∃ (ln : Addr) (n a b : Nat) (G : Nat → Nat → Bool),args = [.ref ln,.int (a : Int),.int (b : Int)] ∧ NxV H ln n G ∧ a < n ∧ b < n ∧ n ≤ 60 ∧
 (∀ (H' : Hp) (l : Addr) (p : List Nat),Same H H' → H l = none → H' l = some (.lst (G6 p)) → rP (Ed n G) p → p.Nodup → p.head? = some a → p.getLast? = some b → (∀ x ∈ p,x < n) → Q (.ref l) H') ∧
 ∀ H',Same H H' → ¬ Rch (Ed n G) a b → Q .non H'
theorem BF6 (k : Nat) : seqIndex? 0 (k + 1) = some 0 := by
 unfold seqIndex?
 simp
theorem dec_int {a b : Nat} : decide (V.int (a : Int) = V.int (b : Int)) = decide (a = b) := by
 rw [Bool.eq_iff_iff,decide_eq_true_iff,decide_eq_true_iff]
 exact ⟨fun h=>by injection h with h; omega,fun h=>by rw [h]⟩
theorem AA4 (F : Fun K "shortest_way" "shortest_way" dJ f fd) (Wy : Cal P w K mg base 1 "way_to" ["came_from","last"] uM) (m1 : mg "len" = none) : FnOk P w K mg base K3 2 f fd ["nexts","first","last"] mR := by
 refine F.ok dD (fun vs H Q E h=>?_) (fun cdv A outer s H vs Q E hr h=>?_)
 ·obtain ⟨ln,n,a,b,G,rfl,_⟩ := h
  rfl
 obtain ⟨ln,n,a,b,G,rfl,hnx,ha,hb,hn60,q1,q2⟩ := h
 refine ⟨_,B2 (D3 (i := 3) dD.nd rfl (Or.inl rfl) (AJ3 (zS (pv 1) N2 AJ0) rfl rfl (by simp) (by decide)))
  (B2 (D3 (i := 4) dD.nd rfl (Or.inl rfl) (J0 (A9 (pv 1) B0)))
  (B2 (R5 PassesOwn.never (E1 jB (G1 K4 rfl m1 PySem.boot_len (A9 (pv 4) B0)) B7 (D9 _))
   (B2 (D3 (i := 5) dD.nd rfl (Or.inl rfl) (O0 PySem.F.plainAttrs_list PySem.F.slot_list_pop PySem.F.type_list_pop fJ (pv 4) (A9 B7 B0)))
   (B2 (G3 (E1 N4 (pv 5) (pv 2) (D9 _)) (B4 (D4 (E3 Wy hr rfl (A9 (pv 3) (A9 (pv 2) B0))))) E4)
   (B4 (aB PassesOwn.never rfl (X5 (G5 K5 (pv 0) (pv 5) (fun _ _=>rfl))) (M3 (i := 6) dD.nd rfl (Or.inl rfl))
    (B4 (G3 (wS (wV (xV hr.units) (pv 6) (pv 3)))
     (B2 (sY (xV hr.units) (pv 3) (pv 6) (pv 5) rfl)
     (B4 (G4 (O0 PySem.F.plainAttrs_list PySem.F.slot_list_append PySem.F.type_list_append J7 (pv 4) (A9 (pv 6) B0))))) E4)))))))
  (B4 (D4 N2)))),?_⟩
 intro d hd
 refine ⟨_,rfl,B1,[(Sum.inl (a : Int),.non)],rfl,by show 1 ≤ 15; decide,?_⟩
 have hdd0 : B6 (B6 H d (.dK [])) d (.dK (aF [] [(Sum.inl (a : Int),.non)])) d = some (.dK (U4 [(a,[a])])) := B1
 have g1 : Same H (B6 (B6 H d (.dK [])) d (.dK (aF [] [(Sum.inl (a : Int),.non)]))) := fun b o h=>by rw [B5 (C0 h hd),B5 (C0 h hd)]; exact h
 generalize B6 (B6 H d (.dK [])) d (.dK (aF [] [(Sum.inl (a : Int),.non)])) = H1 at hdd0 g1
 refine ⟨_,rfl,S4,fun lw hlw=>?_⟩
 have g2 := B8 hlw (.lst [.int (a : Int)])
 have hlwH : H lw = none := by
  cases e : H lw with
  | none=>rfl
  | some o=>rw [g1 _ _ e] at hlw; cases hlw
 have ndw : d ≠ lw := C0 hdd0 hlw
 refine ⟨fun m σ H'=>∃ (ent : Y5) (W : List Nat) (z1 z2 : Option V),m = 2 * (n - ent.length) + W.length ∧ σ = [some (.ref ln),some (.int (a : Int)),some (.int (b : Int)),some (.ref d),some (.ref lw),z1,z2] ∧ Same H H' ∧ H' d = some (.dK (U4 ent)) ∧ H' lw = some (.lst (G6 W)) ∧ Srch n G a b ent W (fun _=>True) ∧ 2 * (n - ent.length) + W.length ≤ 2 * n,
  ⟨_,[(a,[a])],[a],none,none,rfl,rfl,fun b o h=>g2 _ _ (g1 _ _ h),g2 _ _ hdd0,B1,⟨Ent.start ha,by simp,by simp,fun v hv hn _=>by simp at hv hn; exact absurd hv hn⟩,by simp; omega⟩,?_⟩
 rintro m σ H' ⟨ent,W,z1,z2,rfl,rfl,g,hdd,hW,hs,hbd⟩
 refine ⟨_,rfl,lw,_,rfl,.inl (SqL.of hW),_,_,rfl,rfl,_,rfl,?_⟩
 cases W with
 | nil=>exact F0 (q2 H' g hs.no)
 | cons x W' =>
  have e1 : decide ((((G6 (x :: W')).length : Nat) : Int) > 0) = true := decide_eq_true (by simp [G6])
  rw [e1]
  have hxk := hs.sub x List.mem_cons_self
  obtain ⟨px,hpx⟩ := yC hxk
  have hxn := hs.en.lt _ hpx
  have hxn : x < n := hxn
  have hel := rD hs.en
  refine E8 ⟨fun σ' H''=>∃ m',m' < 2 * (n - ent.length) + (x :: W').length ∧ ∃ (ent : Y5) (W : List Nat) (z1 z2 : Option V),m' = 2 * (n - ent.length) + W.length ∧ σ' = [some (.ref ln),some (.int (a : Int)),some (.int (b : Int)),some (.ref d),some (.ref lw),z1,z2] ∧ Same H H'' ∧ H'' d = some (.dK (U4 ent)) ∧ H'' lw = some (.lst (G6 W)) ∧ Srch n G a b ent W (fun _=>True) ∧ 2 * (n - ent.length) + W.length ≤ 2 * n,fun _ _ h=>h,?_⟩
  refine ⟨_,rfl,.inl ⟨rfl,_,SqL.of hW⟩,lw,_,0,0,.int (x : Int),rfl,rfl,hW,by decide,by decide,by rw [show (G6 (x :: W')).length = W'.length + 1 by simp [G6]]; exact BF6 _,rfl,?_⟩
  have eW : (G6 (x :: W')).eraseIdx 0 = G6 W' := rfl
  rw [eW]
  have gb : Same H (B6 H' lw (.lst (G6 W'))) := fun b o h=>by rw [B5 (C0 h hlwH)]; exact g _ _ h
  have hdb : B6 H' lw (.lst (G6 W')) d = some (.dK (U4 ent)) := by rw [B5 ndw]; exact hdd
  have hwb : B6 H' lw (.lst (G6 W')) lw = some (.lst (G6 W')) := B1
  generalize B6 H' lw (.lst (G6 W')) = Hb at gb hdb hwb
  refine ⟨_,rfl,_,rfl,rfl,_,rfl,?_⟩
  rw [dec_int]
  refine R0 (fun hxb=>?_) (fun hxb=>?_)
  ·have hxb : x = b := of_decide_eq_true hxb
   obtain ⟨c1,c2,c3,c4,c5⟩ := hs.en.way _ hpx
   refine ⟨_,rfl,_,rfl,d,n,a,b,Ed n G,ent,px,rfl,hdb,hs.en,by omega,by rw [← hxb]; exact hpx,fun H2 l g2 hl hp=>?_⟩
   refine q1 H2 l px (fun b o h=>g2 _ _ (gb _ _ h)) ?_ hp c1 c2 c3 (by rw [← hxb]; exact c4) fun y hy=>?_
   ·cases e : H l with
    | none=>rfl
    | some o=>rw [gb _ _ e] at hl; cases hl
   ·obtain ⟨e,he,ee⟩ := List.mem_map.mp (c5 y hy)
    rw [← ee]; exact hs.en.lt e he
  ·have hxb : x ≠ b := fun z=>hxb (decide_eq_true z)
   obtain ⟨vs,hvs,hvl,hrow⟩ := hnx
   obtain ⟨li,hli,hlil⟩ := hrow x hxn
   refine ⟨_,rfl,_,rfl,ln,_,_,_,rfl,rfl,SqL.of (gb _ _ hvs),G2 hli,li,rfl,⟨_,SqL.of (gb _ _ hlil)⟩,?_⟩
   refine kK (xs := G6 (bM n G x)) (fun j σ H'=>∃ (ent' : Y5) (W : List Nat) (z2 : Option V),σ = [some (.ref ln),some (.int (a : Int)),some (.int (b : Int)),some (.ref d),some (.ref lw),some (.int (x : Int)),z2] ∧ Same H H' ∧ H' d = some (.dK (U4 ent')) ∧ H' lw = some (.lst (G6 W)) ∧ Srch n G a b ent' W (fun v=>v ≠ x) ∧ (x,px) ∈ ent' ∧ (∀ y ∈ (bM n G x).take j,y ∈ ent'.map (·.1)) ∧ 2 * (n - ent'.length) + W.length ≤ 2 * (n - ent.length) + W'.length)
    ⟨ent,W',z2,rfl,gb,hdb,hwb,⟨hs.en,fun y hy=>hs.sub y (List.mem_cons_of_mem _ hy),hs.first,fun v hv hnw hvx=>hs.done v hv (by simp only [List.mem_cons,not_or]; exact ⟨hvx,hnw⟩) trivial⟩,hpx,(fun y hy=>by simp at hy),Nat.le_refl _⟩
    (fun j σ H' _ ⟨_,_,_,_,g,_⟩=>SqL.of (g _ _ hlil)) (fun j y σ H' hy hinv=>?_) (fun σ H' hinv=>?_)
   ·obtain ⟨ent',W,z2,rfl,g',hd',hw',hs',hx',htk,hms⟩ := hinv
    unfold G6 at hy
    rw [List.getElem?_map] at hy
    cases ej : (bM n G x)[j]? with
    | none=>rw [ej] at hy; cases hy
    | some v =>
     rw [ej] at hy
     cases hy
     have hv : Ed n G x v := (jC hxn).mp (List.mem_of_getElem? ej)
     have hel' := rD hs'.en
     refine ⟨_,rfl,_,rfl,d,_,rfl,DGet.k (k := Sum.inl (v : Int)) hd',_,rfl,?_⟩
     by_cases hin : v ∈ ent'.map (·.1)
     ·obtain ⟨pv',hpv⟩ := yC hin
      rw [sP hs'.en.nd hpv]
      refine F0 ⟨ent',W,_,rfl,g',hd',hw',hs',hx',fun y hy=>?_,hms⟩
      rw [bZ ej] at hy
      rcases List.mem_append.mp hy with z | z
      ·exact htk y z
      ·rw [List.mem_singleton.mp z]; exact hin
     ·rw [vX hin]
      have hlen : ent'.length < n := by
       have := rD (hs'.en.add hx' hin hv hv.2.1)
       rw [List.length_append] at this
       simp at this
       omega
      refine E8 ⟨_,rfl,_,rfl,_,rfl,d,_,rfl,DPut.k (k := Sum.inl (v : Int)) hd' (by rw [U4,List.length_map]; exact Q7 (by omega)),?_⟩
      have hpar : Q8 (U4 ent') (Sum.inl (v : Int)) (V.int (x : Int)) = U4 (ent' ++ [(v,px ++ [v])]) := by
       rw [← zZ (v := v) (hs'.en.way _ hx').2.2.2.1]
       exact AI7 hin
      rw [hpar]
      have hw2 : B6 H' d (.dK (U4 (ent' ++ [(v,px ++ [v])]))) lw = some (.lst (G6 W)) := by rw [B5 (Ne.symm ndw)]; exact hw'
      have hWl : W.length ≤ 2 * n := by
       rw [List.length_cons] at hbd
       omega
      refine ⟨_,rfl,.inl ⟨rfl,_,SqL.of hw2⟩,_,rfl,lw,_,_,rfl,rfl,hw2,by rw [G6,List.length_map]; exact Q7 (by omega),ent' ++ [(v,px ++ [v])],W ++ [v],_,rfl,fun b o h=>by rw [B5 (C0 h hlwH),B5 (C0 h hd)]; exact g' _ _ h,by rw [B5 ndw]; exact B1,by rw [B1]; simp [G6],⟨hs'.en.add hx' hin hv hv.2.1,fun y hy=>?_,?_,fun y hy hnw hyx=>?_⟩,List.mem_append_left _ hx',fun y hy=>?_,?_⟩
      ·rw [List.map_append]
       rcases List.mem_append.mp hy with z | z
       ·exact List.mem_append_left _ (hs'.sub y z)
       ·rw [List.mem_singleton.mp z]; simp
      ·rw [List.map_append]; exact List.mem_append_left _ hs'.first
      ·rw [List.map_append] at hy ⊢
       rw [List.mem_append,not_or] at hnw
       rcases List.mem_append.mp hy with z | z
       ·obtain ⟨d1,d2⟩ := hs'.done y z hnw.1 hyx
        exact ⟨d1,fun j hj=>List.mem_append_left _ (d2 j hj)⟩
       ·have z : y = v := by simpa using z
        exact absurd z (by simpa using hnw.2)
      ·rw [bZ ej] at hy
       rw [List.map_append]
       rcases List.mem_append.mp hy with z | z
       ·exact List.mem_append_left _ (htk y z)
       ·rw [List.mem_singleton.mp z]; simp
      ·rw [List.length_append,List.length_append]
       simp
       omega
   ·obtain ⟨ent',W,z2,rfl,g',hd',hw',hs',hx',htk,hms⟩ := hinv
    refine ⟨2 * (n - ent'.length) + W.length,by rw [List.length_cons]; omega,ent',W,_,_,rfl,rfl,g',hd',hw',⟨hs'.en,hs'.sub,hs'.first,fun v hv hnw _=>?_⟩,by rw [List.length_cons] at hbd; omega⟩
    by_cases hvx : v = x
    ·subst hvx
     refine ⟨hxb,fun j hj=>htk j ?_⟩
     rw [show (G6 (bM n G v)).length = (bM n G v).length by simp [G6],List.take_length]
     exact (jC hxn).mpr hj
    ·exact hs'.done v hv hnw hvx
end
end Law
namespace Law
open PySem L2 L2.Sp
abbrev RG := List Str × List D × List (List Str)
def aK (fB : List Str → List Str → Bool) (rs : List RG) (i j : Nat) : Bool := match rs[i]?,rs[j]? with
 | some r,some o=>r.2.2.any (fB o.1)
 | _,_=>false
theorem sX {fB : List Str → List Str → Bool} {rs : List RG} {i j : Nat} {r o : RG} (h1 : rs[i]? = some r) (h2 : rs[j]? = some o) : aK fB rs i j = r.2.2.any (fB o.1) := by unfold aK; rw [h1,h2]
theorem jS (n : Nat) (p : Nat → Bool) : (List.range (n + 1)).filter p = (List.range n).filter p ++ (if p n = true then [n] else []) := by
 rw [List.range_succ,List.filter_append]
 congr 1
 by_cases h : p n = true
 ·simp [h]
 ·simp [h]
section
variable {P : Program} {w : World} {K : PySem.W.Frag} {mg : Str → Option Value} {base : Heap} {f : Addr} {fd : FuncData}
theorem up {H H' : Hp} {d : D} {v : V} (g : Same H H') (h : DV K H d v) : DV K H' d v := DV.mono (DKeep.same g) _ _ h
def yW (K : PySem.W.Frag) (H : Hp) (v : V) (r : RG) : Prop := DV K H (kD r.1 r.2.1) v ∧ Trs r.2.1 r.2.2 ∧ nL r.2.1 ≤ 900
theorem zV {X : Cx} {scope : Scope} {N' : List Str} {C : Addr} {fp : List Addr} {s : Shared} {H : Hp} {elts : List Expr} {x1 : Nat} {tpos : Pos} {a : Expr} {ta : TA} {p pos : Pos} (hg : Gl (M9 X scope N' C fp s H) "enumerate") (hm : X.mg "enumerate" = none) (ha : PA (M9 X scope N' C fp s H) [a] ta) (hs : starEach [a] (M9 X scope N' C fp s H).env = [(false,eval a (M9 X scope N' C fp s H).env)] := by rfl) :
  PI (M9 X scope N' C fp s H) (.Tuple elts x1 tpos) (.Call (.Name "enumerate" p) [a] [] pos) (AF6 X.K ta) := tE (X := M9 X scope N' C fp s H) hg hm ha hs
abbrev iO : Stmt := O5 15
theorem dE : D7 ["rows","nexts","last","row","first","way"] ["rows"] (B3 iO) := ⟨rfl,rfl,rfl,by decide +kernel,rfl,by decide +kernel,by decide +kernel⟩
theorem AY9 : (["row","rows"] : List Str).Nodup := by decide +kernel
theorem xI : (["number","other","row"] : List Str).Nodup := by decide +kernel
structure sC (n : Nat) (G I : Nat → Nat → Bool) (p : List Nat) : Prop where
 ch : rP (Ed n G) p
 nd : p.Nodup
 lt : ∀ x ∈ p,x < n
 cl : ∃ a b,p.head? = some a ∧ p.getLast? = some b ∧ Ed n G b a ∧ I b a = true
def rY (n : Nat) (G I : Nat → Nat → Bool) : Prop := ∀ i j,Ed n G i j → I i j = true → ¬ Rch (Ed n G) j i
def kZ (K : PySem.W.Frag) : Sp := fun args H Q _=>∃ (lr : Addr) (vs : List V) (rs : List RG),args = [.ref lr] ∧ H lr = some (.lst vs) ∧ Paired (yW K H) vs rs ∧ rs.length ≤ 20 ∧
 (∀ (H' : Hp) (l : Addr) (p : List Nat),Same H H' → H l = none → H' l = some (.lst (G6 p)) → sC rs.length (aK T2 rs) (aK T3 rs) p → Q (.ref l) H') ∧
 ∀ H',Same H H' → rY rs.length (aK T2 rs) (aK T3 rs) → Q .non H'
theorem AK0 (F : Fun K "ring" "ring" iO f fd) (Ln : Cal P w K mg base 2 "leans" ["row","other"] (mS K T2)) (Li : Cal P w K mg base 2 "leans_into" ["row","other"] (mS K T3)) (Sh : Cal P w K mg base 2 "shortest_way" ["nexts","first","last"] mR) (m1 : mg "enumerate" = none) :
  FnOk P w K mg base K3 3 f fd ["rows"] (kZ K) := by
 refine F.ok dE (fun vs H Q E h=>?_) (fun cdv A outer s H vs Q E hr h=>?_)
 ·obtain ⟨lr,vs,rs,rfl,_⟩ := h
  rfl
 obtain ⟨lr,vs,rs,rfl,hlr,hrs,h20,q1,q2⟩ := h
 have hvl := hrs.length
 refine ⟨_,B2 (zR (i := 1) (N' := ["row","rows"]) (fr := [none,some 0]) (own := [0]) ⟨rfl,rfl,rfl,rfl,rfl,rfl,rfl⟩ rfl dE.nd rfl rfl
   (X5 (pv 0)) (fun _ _ _ _=>M3 (i := 0) AY9 rfl (Or.inr rfl)) (Z0 0) (fun _ _ _ _=>Y7)
   (fun _ _ _ _=>dW (N' := ["number","other","row"]) (fr := [none,none,some 0]) (own := [0,1]) ⟨rfl,rfl,rfl,rfl,rfl,rfl,rfl⟩ rfl
    (zV rfl m1 (A9 (pv 1) B0)) (fun _ _ _ _=>qM (n := 2) rfl (Y8 (M3 (i := 0) xI rfl (Or.inl rfl)) (Y8 (M3 (i := 1) xI rfl (Or.inl rfl)) nK))) (tI (qP 0 1))
    (fun _ _ _ _=>AI8 (O7 (E3 Ln hr rfl (A9 (pv 2) (A9 (pv 1) B0))))) (fun _ _ _ _=>pv 0)))
  (B2 (aB PassesOwn.never rfl (tE rfl m1 (A9 (pv 0) B0)) (qM (n := 2) rfl (Y8 (M3 (i := 2) dE.nd rfl (Or.inl rfl)) (Y8 (M3 (i := 3) dE.nd rfl (Or.inl rfl)) nK)))
   (B4 (aB PassesOwn.never rfl (X5 (G5 K5 (pv 1) (pv 2) (fun _ _=>rfl))) (M3 (i := 4) dE.nd rfl (Or.inl rfl))
    (B4 (G3 (O7 (E3 Li hr rfl (A9 (pv 3) (A9 (G5 K5 (pv 0) (pv 4) (fun _ _=>rfl)) B0))))
     (B2 (D3 (i := 5) dE.nd rfl (Or.inl rfl) (E3 Sh hr rfl (A9 (pv 1) (A9 (pv 4) (A9 (pv 2) B0)))))
     (B4 (G3 (E1 dZ (pv 5) N2 (D9 _)) (B4 (D4 (pv 5))) E4))) E4)))))
  (B4 (D4 N2))),?_⟩
 generalize hn : rs.length = n at *
 generalize hG : aK T2 rs = G at *
 generalize hI : aK T3 rs = Ib at *
 refine ⟨_,rfl,lr,rfl,⟨_,SqL.of hlr⟩,fun l1 hl1=>?_⟩
 refine hV (xs := vs) (fun i zs H'=>Same H H' ∧ H' l1 = some (.lst zs) ∧ zs.length = i ∧ ∀ k,k < i → ∃ li,zs[k]? = some (.ref li) ∧ li ≠ l1 ∧ H' li = some (.lst (G6 (bM n G k))))
  ⟨B8 hl1 _,B1,rfl,fun k hk=>absurd hk (Nat.not_lt_zero _)⟩ (fun i zs H' _ ⟨g,_⟩=>SqL.of (g _ _ hlr)) (fun i x zs H' hx hinv=>?_) (fun zs H1 hinv=>?_)
 ·obtain ⟨g,hl,hzl,hrow⟩ := hinv
  have hi := (List.getElem?_eq_some_iff.mp hx).1
  obtain ⟨r,hr1,hrv,htr,h900⟩ := bK hrs hx
  dsimp only [X0,R1]
  refine jW ⟨_,rfl,lr,rfl,⟨_,SqL.of (g _ _ hlr)⟩,fun l2 hl2=>?_⟩
  refine yH (xs := vs) (fun j zs2 H2=>Same H' H2 ∧ H2 l2 = some (.lst zs2) ∧ zs2 = G6 ((List.range j).filter (G i))) ⟨B8 hl2 _,B1,rfl⟩ (fun j zs2 H2 ⟨g2,_⟩=>SqL.of (g2 _ _ (g _ _ hlr))) (fun j y zs2 H2 T hy hinv2 hT=>?_) (fun zs2 H2 hinv2=>?_)
  ·obtain ⟨g2,hl2',ez⟩ := hinv2
   obtain ⟨o,ho1,hov,_,_⟩ := bK hrs hy
   have hj := (List.getElem?_eq_some_iff.mp hy).1
   have kT := B8 hT (.tup [.int (j : Int),y])
   have gg : Same H _ := fun b o h=>kT _ _ (g2 _ _ (g b o h))
   refine ⟨T,_,rfl,SqT.of B1,rfl,_,_,rfl,_,_,rfl,rfl,?_⟩
   refine ⟨_,rfl,_,rfl,x,y,r.1,o.1,r.2.1,o.2.1,r.2.2,rfl,up gg hrv,up gg hov,htr,h900,fun H5 g5=>⟨_,rfl,?_⟩⟩
   have eb : r.2.2.any (T2 o.1) = G i j := by rw [← hG]; exact (sX hr1 ho1).symm
   rw [eb]
   have hl5 := g5 _ _ (kT _ _ hl2')
   have gz : Same H' H5 := fun b o h=>g5 _ _ (kT _ _ (g2 _ _ h))
   have hzz : zs2.length ≤ j := by rw [ez,G6,List.length_map]; exact Nat.le_trans (List.length_filter_le _ _) (by simp)
   refine R0 (fun hb=>?_) (fun hb=>?_)
   ·refine ⟨_,rfl,hl5,Q7 (by omega),fun b o h=>by rw [B5 (C0 h hl2)]; exact gz _ _ h,B1,?_⟩
    rw [jS,if_pos hb,ez]
    simp [G6]
   ·refine ⟨gz,hl5,?_⟩
    rw [jS,if_neg hb,ez]
    simp [G6]
  ·obtain ⟨g2,hl2',ez⟩ := hinv2
   have hnn : vs.length = n := by omega
   rw [hnn] at ez
   have hlz := g2 _ _ hl
   have n21 : l2 ≠ l1 := fun e=>by rw [e,hl] at hl2; cases hl2
   refine ⟨hlz,Q7 (by omega),fun b o h=>by rw [B5 (C0 h hl1)]; exact g2 _ _ (g _ _ h),B1,by rw [List.length_append,hzl]; rfl,fun k hk=>?_⟩
   by_cases hki : k < i
   ·obtain ⟨li,h1,h2,h3⟩ := hrow k hki
    exact ⟨li,by rw [List.getElem?_append_left (by omega)]; exact h1,h2,by rw [B5 h2]; exact g2 _ _ h3⟩
   ·have : k = i := by omega
    subst this
    exact ⟨l2,by rw [List.getElem?_append_right (by omega),hzl]; simp,n21,by rw [B5 n21,hl2',ez]; rfl⟩
 ·obtain ⟨g1,hl,hzl,hrow⟩ := hinv
  have hnn : vs.length = n := by omega
  have hnx : NxV H1 l1 n G := ⟨zs,hl,by omega,fun i hi=>by
   obtain ⟨li,h1,_,h3⟩ := hrow i (by omega)
   exact ⟨li,h1,h3⟩⟩
  refine ⟨_,rfl,lr,rfl,⟨_,SqL.of (g1 _ _ hlr)⟩,?_⟩
  refine AC2 (xs := vs) (fun i σ H'=>Same H1 H' ∧ (∃ b2 b3 b4 b5 : Option V,σ = [some (.ref lr),some (.ref l1),b2,b3,b4,b5]) ∧ ∀ k,k < i → ∀ j,Ed n G k j → Ib k j = true → ¬ Rch (Ed n G) j k)
   ⟨uT,⟨none,none,none,none,rfl⟩,fun k hk=>absurd hk (Nat.not_lt_zero _)⟩ (fun i σ H' ⟨g,_⟩=>SqL.of (g _ _ (g1 _ _ hlr))) (fun i x σ H' T hx hinv hT=>?_) (fun σ H' hinv=>?_)
  ·obtain ⟨g,⟨b2,b3,b4,b5,rfl⟩,hno⟩ := hinv
   have hi := (List.getElem?_eq_some_iff.mp hx).1
   have hin : i < n := by omega
   obtain ⟨r,hr1,hrv,htr,h900⟩ := bK hrs hx
   have kT := B8 hT (.tup [.int (i : Int),x])
   have gT : Same H1 _ := fun b o h=>kT _ _ (g b o h)
   obtain ⟨zs',hz1,hz2,hz3⟩ := hnx
   obtain ⟨li,hli1,hli2⟩ := hz3 i hin
   refine ⟨T,_,rfl,SqT.of B1,rfl,_,_,rfl,_,_,rfl,rfl,?_⟩
   refine ⟨_,rfl,_,rfl,l1,_,_,_,rfl,rfl,SqL.of (gT _ _ hz1),G2 hli1,li,rfl,⟨_,SqL.of (gT _ _ hli2)⟩,?_⟩
   refine kK (xs := G6 (bM n G i)) (fun j σ H'=>Same H1 H' ∧ (∃ b4 b5 : Option V,σ = [some (.ref lr),some (.ref l1),some (.int (i : Int)),some x,b4,b5]) ∧ ∀ y ∈ (bM n G i).take j,Ib i y = true → ¬ Rch (Ed n G) y i)
    ⟨gT,⟨_,_,rfl⟩,fun y hy=>by simp at hy⟩ (fun j σ H' _ ⟨g,_⟩=>SqL.of (g _ _ hli2)) (fun j y σ Hy hy hinv2=>?_) (fun σ Hy hinv2=>?_)
   ·obtain ⟨gy,⟨b4,b5,rfl⟩,hno2⟩ := hinv2
    unfold G6 at hy
    rw [List.getElem?_map] at hy
    cases ej : (bM n G i)[j]? with
    | none=>rw [ej] at hy; cases hy
    | some v =>
     rw [ej] at hy
     cases hy
     have hv : Ed n G i v := (jC hin).mp (List.mem_of_getElem? ej)
     have hvn : v < vs.length := by rw [hnn]; exact hv.2.1
     have hxv := List.getElem?_eq_getElem hvn
     obtain ⟨o,ho1,hov,_,_⟩ := bK hrs hxv
     have gg : Same H Hy := fun b o h=>gy _ _ (g1 _ _ h)
     refine ⟨_,rfl,_,rfl,_,rfl,lr,_,_,_,rfl,rfl,SqL.of (gg _ _ hlr),G2 hxv,x,vs[v],r.1,o.1,r.2.1,o.2.1,r.2.2,rfl,up gg hrv,up gg hov,htr,h900,fun H5 g5=>⟨_,rfl,?_⟩⟩
     have eb : r.2.2.any (T3 o.1) = Ib i v := by rw [← hI]; exact (sX hr1 ho1).symm
     rw [eb]
     have g15 : Same H1 H5 := fun b o h=>g5 _ _ (gy _ _ h)
     have last : ∀ {H6 : Hp},Same H1 H6 → ∀ b4 b5 : Option V,(Ib i v = true → ¬ Rch (Ed n G) v i) → Same H1 H6 ∧ (∃ c4 c5 : Option V,[some (.ref lr),some (.ref l1),some (.int (i : Int)),some x,b4,b5] = [some (.ref lr),some (.ref l1),some (.int (i : Int)),some x,c4,c5]) ∧ ∀ y ∈ (bM n G i).take (j + 1),Ib i y = true → ¬ Rch (Ed n G) y i := fun {H6} g6 b4 b5 hh=>by
      refine ⟨g6,⟨b4,b5,rfl⟩,fun y hy=>?_⟩
      rw [bZ ej] at hy
      rcases List.mem_append.mp hy with z | z
      ·exact hno2 y z
      ·rw [List.mem_singleton.mp z]; exact hh
     refine R0 (fun hb=>?_) (fun hb=>last g15 _ _ fun h=>absurd h hb)
     refine ⟨_,rfl,_,rfl,_,rfl,l1,n,v,i,G,rfl,NxV.same g15 ⟨zs',hz1,hz2,hz3⟩,hv.2.1,hin,by omega,fun H6 lw p g6 hlw hp c1 c2 c3 c4 c5=>?_,fun H6 g6 hnr=>?_⟩
     ·refine ⟨_,rfl,rfl,_,rfl,E8 ⟨_,rfl,?_⟩⟩
      refine q1 H6 lw p (fun b o h=>g6 _ _ (g15 _ _ (g1 _ _ h))) ?_ hp ⟨c1,c2,c5,v,i,c3,c4,hv,hb⟩
      cases e : H lw with
      | none=>rfl
      | some o=>rw [g15 _ _ (g1 _ _ e)] at hlw; cases hlw
     ·exact ⟨_,rfl,rfl,_,rfl,F0 (last (fun b o h=>g6 _ _ (g15 _ _ h)) _ _ fun _=>hnr)⟩
   ·obtain ⟨gy,⟨b4,b5,rfl⟩,hno2⟩ := hinv2
    refine ⟨gy,⟨_,_,_,_,rfl⟩,fun k hk j hj hij=>?_⟩
    by_cases hki : k < i
    ·exact hno k hki j hj hij
    ·have : k = i := by omega
     subst this
     refine hno2 j ?_ hij
     rw [show (G6 (bM n G k)).length = (bM n G k).length by simp [G6],List.take_length]
     exact (jC hin).mpr hj
  ·obtain ⟨g,⟨b2,b3,b4,b5,rfl⟩,hno⟩ := hinv
   exact q2 H' (fun b o h=>g _ _ (g1 _ _ h)) fun i j hij hI'=>hno i (by rw [hnn]; exact hij.1) j hij hI'
end
end Law
namespace Law
open PySem L2 L2.Sp
def K9 : List (Nat × Wd) → List Nat
 | []=>[]
 | (g,p) :: r=>List.replicate g 32 ++ p ++ K9 r
inductive T5 : Wd → List (Nat × Wd) → Prop
 | nil {w} : T5 w []
 | cons {w g p r} : T4 p → g ≤ 2 → p.length ≤ 100 → (∀ c ∈ p,c < 128) → (g = 0 → Fol w p) → T5 p r → T5 w ((g,p) :: r)
theorem Line.add {line last p : List Nat} {due : List (List Nat)} {g : Nat} (h : Line line due last) (hp : T4 p) (hf : g = 0 → Fol last p) : Line (line ++ (List.replicate g 32 ++ p)) (due ++ [p]) p := by
 by_cases e : g = 0
 ·subst e
  exact h.zero hp (hf rfl)
 ·have := h.gap (g := g) (by omega) hp
  rw [List.append_assoc] at this
  exact this
theorem oV {ps : List (Nat × Wd)} {w : Wd} (h : T5 w ps) : ∀ {line due},Line line due w → ∃ w',Line (line ++ K9 ps) (due ++ ps.map (·.2)) w' := by
 induction h with
 | nil=>intro line due hl; exact ⟨_,by simpa [K9] using hl⟩
 | cons hp _ _ _ hf _ ih =>
  intro line due hl
  obtain ⟨w',h⟩ := ih (hl.add hp hf)
  exact ⟨w',by simpa [K9] using h⟩
theorem lZ {ps : List (Nat × Wd)} (h : T5 [] ps) (e : Nat) : E7 (K9 ps ++ List.replicate e 32) = some (ps.map (·.2)) := by
 obtain ⟨w',hl⟩ := oV h Line.nil
 simp only [List.nil_append] at hl
 cases e with
 | zero=>rw [List.replicate_zero,List.append_nil]; exact hl.ends
 | succ e =>
  have e1 := hl.all (s := List.replicate (e + 1) 32) (by rw [List.replicate_succ]; exact Fol.sp)
  have e2 := oC (e + 1) []
  rw [List.append_nil,fU] at e2
  rw [e1,e2]; simp
theorem AF8 {w : Wd} {c : Nat} {r : List Nat} (h : P4 c = false ∧ K2 c = false) (hw : w ≠ [46] ∨ c ≠ 46) : Fol w (c :: r) := fun d hd=>by
 cases hd
 exact ⟨fun _=>h.1,fun _=>h.2,fun e=>hw.elim (fun z=>absurd e z) id⟩
theorem BA7 {c : Nat} {p : Wd} (h : P4 c = false ∧ K2 c = false ∧ c ≠ 45) (hp : c ≠ 46 ∨ p.head? ≠ some 46) : Fol [c] p := fun d hd=>by
 refine ⟨fun z=>?_,fun z=>?_,fun z=>?_⟩
 ·have := z.2 c (by simp)
  rw [h.1] at this; cases this
 ·obtain ⟨c',e,hc⟩ := z.head
  cases e
  rcases hc with hc | hc
  ·exact absurd hc h.2.2
  ·rw [h.2.1] at hc; cases hc
 ·cases z
  rcases hp with z | z
  ·exact absurd rfl z
  ·intro e
   subst e
   exact z hd
theorem K0 {p : Wd} : Fol [] p := fun d hd=>by
 refine ⟨fun h=>absurd rfl h.1,fun h=>?_,fun h=>by cases h⟩
 obtain ⟨c,e,_⟩ := h.head
 cases e
theorem AX0 {c : Nat} (h : c ∈ T9) : T4 [c] := .inr (.inr (.inr (.inr ⟨c,h,rfl⟩)))
theorem AD8 {n : Wd} (h : E2 n = true) : T4 n := by
 unfold E2 at h
 rw [Bool.and_eq_true,decide_eq_true_iff,List.all_eq_true] at h
 exact .inl ⟨h.1,h.2⟩
theorem AX1 : T4 [46,46] := .inr (.inr (.inr (.inl rfl)))
theorem xK {n : Wd} (h : E2 n = true) : n ≠ [46] ∧ n.head? ≠ some 46 := by
 refine ⟨fun e=>(by rw [e] at h; cases h),fun e=>?_⟩
 cases n with
 | nil=>cases e
 | cons a r =>
  cases e
  unfold E2 at h
  rw [Bool.and_eq_true,List.all_eq_true] at h
  have := h.2 46 (by simp)
  cases this
def BT : Nat → Tn → Prop
 | _,.non=>True
 | _,.bl _=>True
 | _,.int _=>True
 | _,.str w=>w.length ≤ 1000
 | 0,.tup _=>False
 | n + 1,.tup ts=>ts.length ≤ 100 ∧ ∀ t ∈ ts,BT n t
mutual
def T1 : Tn → D
 | .non=>.non
 | .bl b=>.bl b
 | .int i=>.int i
 | .str w=>.str (S w)
 | .tup ts=>.tup (O3 ts)
def O3 : List Tn → List D
 | []=>[]
 | t :: ts=>T1 t :: O3 ts
end
theorem pZ : ∀ ts : List Tn,(O3 ts).length = ts.length
 | []=>rfl
 | t :: ts=>by simp only [O3,List.length_cons,pZ ts]
section
variable {K : PySem.W.Frag} {H : Hp}
mutual
theorem TV.dv : ∀ (n : Nat) (t : Tn) (v : V),BT n t → TV K H t v → DV K H (T1 t) v
 | n,.non,v,_,h=>by simp only [TV] at h; simp only [T1,DV]; exact h
 | n,.bl b,v,_,h=>by simp only [TV] at h; simp only [T1,DV]; exact h
 | n,.int i,v,_,h=>by simp only [TV] at h; simp only [T1,DV]; exact h
 | n,.str w,v,hb,h=>by
  simp only [TV] at h; simp only [T1,DV]
  refine ⟨h,?_⟩
  rw [O2]
  cases n <;> simpa [BT] using hb
 | 0,.tup ts,v,hb,h=>by simp [BT] at hb
 | n + 1,.tup ts,v,hb,h=>by
  simp only [BT] at hb
  simp only [TV] at h; simp only [T1,DV]
  obtain ⟨a,ys,e,h1,h2⟩ := h
  exact ⟨a,ys,e,h1,TAll.dv n ts ys hb.2 h2,by rw [pZ]; exact hb.1⟩
theorem TAll.dv : ∀ (n : Nat) (ts : List Tn) (vs : List V),(∀ t ∈ ts,BT n t) → TAll K H ts vs → DAll K H (O3 ts) vs
 | n,[],vs,_,h=>by simp only [TAll] at h; simp only [O3,DAll]; exact h
 | n,t :: ts,vs,hb,h=>by
  simp only [TAll] at h; simp only [O3,DAll]
  obtain ⟨y,r,e,h1,h2⟩ := h
  exact ⟨y,r,e,TV.dv n t y (hb t (by simp)) h1,TAll.dv n ts r (fun x hx=>hb x (by simp [hx])) h2⟩
end
end
structure Gd (l : List Nat) (t : Tn) (r : RG) : Prop where
 sm : S6 l
 rd : ∃ ws,E7 l = some ws ∧ WsOk ws ∧ aO (P6 6) ws (some t)
 bt : BT 10 t
 d : T1 t = kD r.1 r.2.1
 tr : Trs r.2.1 r.2.2
 nl : nL r.2.1 ≤ 900
def Bd (l : List Nat) : Prop := S6 l ∧ (E7 l = none ∨ ∃ ws,E7 l = some ws ∧ WsOk ws ∧ aO (P6 6) ws none)
end Law
namespace Law
open PySem L2 L2.Sp
theorem tR {w : Wd} {ps : List (Nat × Wd)} (h : T5 w ps) : (K9 ps).length ≤ 102 * ps.length ∧ (∀ c ∈ K9 ps,c < 128) ∧ ∀ p ∈ ps,T4 p.2 ∧ p.2.length ≤ 100 ∧ ∀ c ∈ p.2,c < 128 := by
 induction h with
 | nil=>exact ⟨by simp [K9],fun c hc=>(by cases hc),fun p hp=>(by cases hp)⟩
 | cons ht hg hl ha _ _ ih =>
  refine ⟨?_,fun c hc=>?_,fun p hp=>?_⟩
  ·simp only [K9,List.length_append,List.length_replicate,List.length_cons]
   have := ih.1
   omega
  ·simp only [K9,List.mem_append,List.mem_replicate] at hc
   rcases hc with (⟨_,rfl⟩ | hc) | hc
   ·decide
   ·exact ha c hc
   ·exact ih.2.1 c hc
  ·rcases List.mem_cons.mp hp with rfl | hp
   ·exact ⟨ht,hl,ha⟩
   ·exact ih.2.2 p hp
theorem oU {ps : List (Nat × Wd)} {w : Wd} (h : T5 w ps) (hn : ps.length ≤ 40) {e : Nat} (he : e ≤ 2) : S6 (K9 ps ++ List.replicate e 32) := by
 obtain ⟨h1,h2,_⟩ := tR h
 refine ⟨by rw [List.length_append,List.length_replicate]; omega,fun c hc=>?_⟩
 rcases List.mem_append.mp hc with z | z
 ·have := h2 c z; omega
 ·rw [(List.mem_replicate.mp z).2]; decide
theorem xZ {ps : List (Nat × Wd)} {w : Wd} (h : T5 w ps) (hn : ps.length ≤ 40) : WsOk (ps.map (·.2)) := by
 obtain ⟨_,_,h3⟩ := tR h
 refine ⟨by rw [List.length_map]; omega,fun u hu=>?_,fun u hu=>?_⟩
 ·obtain ⟨p,hp,rfl⟩ := List.mem_map.mp hu
  exact (h3 p hp).1
 ·obtain ⟨p,hp,rfl⟩ := List.mem_map.mp hu
  obtain ⟨_,a,b⟩ := h3 p hp
  exact ⟨by omega,fun c hc=>by have := b c hc; omega⟩
theorem fV : ∀ ns : List Wd,O3 (ns.map Tn.str) = (ns.map S).map D.str
 | []=>rfl
 | n :: ns=>by simp only [List.map_cons,O3,T1,fV ns]
theorem aQ {ps : List (Nat × Wd)} {e : Nat} {l : List Nat} {ns : List Wd} {t : Tn} {w : List Wd} {ts : List Tn} {ws : List (List Wd)} {qs : List (List Str)} (h : T5 [] ps) (hp : ps.length ≤ 40) (he : e ≤ 2) (el : l = K9 ps ++ List.replicate e 32) (hw : ps.map (·.2) = bG ns w ws)
  (hn0 : ns ≠ []) (hn : ∀ n ∈ ns,E2 n = true ∧ n.length ≤ 100) (hnl : ns.length ≤ 10) (ha : M5 (P6 6) true t w) (hs : T8 (M5 (P6 6) true) ts ws) (hts : (t :: ts).length ≤ 10) (hb : ∀ x ∈ t :: ts,BT 8 x) (tr : Trs (O3 (t :: ts)) qs) (nl : nL (O3 (t :: ts)) ≤ 900) :
  Gd l (.tup [.tup (ns.map Tn.str),.tup (t :: ts)]) (ns.map S,O3 (t :: ts),qs) := by
 subst el
 refine ⟨oU h hp he,⟨_,lZ h e,xZ h hp,by rw [hw]; exact AP8 hn0 (fun n hm=>(hn n hm).1) ha hs⟩,?_,?_,tr,nl⟩
 ·refine ⟨by show 2 ≤ 100; decide,fun x hx=>?_⟩
  simp at hx
  rcases hx with rfl | rfl
  ·refine ⟨by rw [List.length_map]; omega,fun y hy=>?_⟩
   obtain ⟨n,hn',rfl⟩ := List.mem_map.mp hy
   show n.length ≤ 1000
   have := (hn n hn').2
   omega
  ·exact ⟨by omega,hb⟩
 ·simp only [T1,O3,kD,pD,fV]
theorem vM (i : Int) {f : Bool} {m : Nat} : NegAble (P6 m) f (M2 (.int i) (.int i)) [M7 i] := by
 have := nQ (X := P6 m) (free := f) (qV i)
 rwa [xF] at this
theorem AU2 (i : Int) {f : Bool} {m : Nat} : NegAble (P6 m) f (M2 (.int i) .non) [M7 i,[46,46]] := by
 have := AB3 (X := P6 m) (free := f) (qV i)
 rwa [xF] at this
theorem W9 {x : Tn} {g : List Wd} {f : Bool} {m : Nat} (h : NegAble (P6 m) f x g) : M5 (P6 (m + 1)) f x g := AN0 h.and
theorem AC3 {x y : Tn} {g g' : List Wd} {f : Bool} {m : Nat} (h : NegAble (P6 m) f x g) (h' : NegAble (P6 m) f y g') : M5 (P6 (m + 1)) f (.tup [.str eG,.tup [x,y]]) (g ++ [124] :: g') := by
 have := yA h.and (.cons h'.and .nil)
 have h2 : M5 (sE (P6 m)) f (.tup [.str eG,.tup [x,y]]) (g ++ [124] :: g') := by simpa [tails,one] using this
 exact h2
theorem V3 {k : Wd} {r : List Tn} (h : S k ≠ "place" ∧ S k ≠ "and" ∧ S k ≠ "or") : Tr (T1 (.tup (.str k :: r))) [] := by
 simp only [T1,O3]
 exact .leaf h.1 h.2.1 h.2.2
theorem AM5 : (Str.ofString "place" : Str) = S Y1 := by decide +kernel
theorem BF1 : (Str.ofString "or" : Str) = S eG := by decide +kernel
theorem eQ (ns : List Wd) : Tr (T1 (.tup [.str Y1,.tup (ns.map Tn.str)])) [ns.map S] := by
 simp only [T1,O3,fV]
 rw [← AM5]
 exact .place
theorem AD7 {ts : List Tn} {ps : List (List Str)} (h : Trs (O3 ts) ps) : Tr (T1 (.tup [.str eG,.tup ts])) ps := by
 simp only [T1,O3]
 rw [← BF1]
 exact .node (.inr rfl) h
theorem jZ {t : Tn} {ps : List (List Str)} (h : Tr (T1 t) ps) : Trs (O3 [t]) ps := by
 have := Trs.cons h .nil
 simpa [O3] using this
theorem uH {t u : Tn} {ps qs : List (List Str)} (h : Tr (T1 t) ps) (h' : Tr (T1 u) qs) : Trs (O3 [t,u]) (ps ++ qs) := by
 have := Trs.cons h (Trs.cons h' .nil)
 simpa [O3] using this
structure PN (n : Wd) : Prop where
 nm : E2 n = true
 len : n.length ≤ 6
theorem PN.asc {n : Wd} (h : PN n) : ∀ c ∈ n,c < 128 := fun c hc=>by
 have h := h.nm
 unfold E2 at h
 rw [Bool.and_eq_true,List.all_eq_true] at h
 have := h.2 c hc
 unfold P4 at this
 simp only [Bool.and_eq_true,decide_eq_true_eq] at this
 omega
theorem PN.d {n : Wd} (h : PN n) : n ≠ [46] := (xK h.nm).1
theorem PN.h {n : Wd} (h : PN n) : n.head? ≠ some 46 := (xK h.nm).2
theorem AL7 {i : Int} (h : iB i) : ∀ c ∈ M7 i,c < 128 := fun c hc=>by
 obtain ⟨sn,fs,e,hsn,_,hf,_⟩ := qT (Nat.lt_trans h (by decide))
 rw [e] at hc
 rcases List.mem_append.mp hc with z | z
 ·rcases hsn with rfl | rfl
  ·cases z
  ·rw [List.mem_singleton.mp z]; decide
 ·have := (jI (hf c z)).2; omega
theorem AL6 {i : Int} (h : iB i) : T4 (M7 i) := .inr (.inl (qT (Nat.lt_trans h (by decide))))
theorem qS (i : Int) : M7 i ≠ [46] := fun e=>by have := qV i; rw [e] at this; cases this
section
variable {one two three : Wd} {i : Int}
theorem P5 {w n : Wd} {g : Nat} {r : List (Nat × Wd)} (h : PN n) (hg : g ≤ 2) (hf : g = 0 → Fol w n) (hr : T5 n r) : T5 w ((g,n) :: r) := .cons (AD8 h.nm) hg (by have := h.len; omega) h.asc hf hr
theorem K6 {w : Wd} {c g : Nat} {r : List (Nat × Wd)} (hg : g ≤ 2) (hc : c ∈ T9) (hw : w ≠ [46] ∨ c ≠ 46) (hr : T5 [c] r) : T5 w ((g,[c]) :: r) := by
 have h : ∀ c ∈ T9,(P4 c = false ∧ K2 c = false) ∧ c < 128 := by decide
 exact .cons (AX0 hc) hg (by show 1 ≤ 100; decide) (fun x hx=>by rw [List.mem_singleton.mp hx]; exact (h c hc).2) (fun _=>AF8 (h c hc).1 hw) hr
theorem c_i {w : Wd} {g : Nat} {r : List (Nat × Wd)} (h : iB i) (hg : g ≤ 2) (hf : g = 0 → Fol w (M7 i)) (hr : T5 (M7 i) r) : T5 w ((g,M7 i) :: r) := .cons (AL6 h) hg (by have := qU h; omega) (AL7 h) hf hr
theorem c_d {w : Wd} {g : Nat} {r : List (Nat × Wd)} (hg : g ≤ 2) (hw : w ≠ [46]) (hr : T5 [46,46] r) : T5 w ((g,[46,46]) :: r) := .cons AX1 hg (by decide) (by decide) (fun _=>AF8 (by decide) (.inl hw)) hr
theorem pA {w n : Wd} {g : Nat} {r : List (Nat × Wd)} (h : E2 n = true ∧ n.length ≤ 20 ∧ ∀ c ∈ n,c < 128) (hg : g ≤ 2) (hg0 : g ≠ 0) (hr : T5 n r) : T5 w ((g,n) :: r) := .cons (AD8 h.1) hg (by omega) h.2.2 (fun e=>absurd e hg0) hr
theorem T7 {c : Nat} {p : Wd} (h : P4 c = false ∧ K2 c = false ∧ c ≠ 45) (hp : c ≠ 46 ∨ p.head? ≠ some 46) {g : Nat} : g = 0 → Fol [c] p := fun _=>BA7 h hp
theorem aE {w p : Wd} {g : Nat} (h : g ≠ 0) : g = 0 → Fol w p := fun e=>absurd e h
def eO : Wd := [116,101,120,116]
def oA : Wd := [97,110,121]
def qX : Wd := [110,111,110,101]
def L0 (one : Wd) (i : Int) : List Nat := one ++ [58,32] ++ M7 i
theorem gd0 (h1 : PN one) (hi : iB i) : ∃ t r,Gd (L0 one i) t r := by
 refine ⟨_,_,aQ (ps := [(0,one),(0,[58]),(1,M7 i)]) (ns := [one]) (w := [M7 i]) (ts := []) (ws := []) (e := 0) (P5 h1 (by decide) (fun _=>K0) (K6 (by decide) (by decide) (.inl h1.d) (c_i hi (by decide) (aE (by decide)) .nil))) (by simp) (by decide) (by simp [K9,L0]) (by simp [bG,Q3,M4,tails]) (by simp) ?_ (by simp) (W9 (vM i)) .nil (by simp) ?_ (jZ (V3 (by decide +kernel))) (by simp [O3,T1,M2,nL,nD])⟩
 ·intro n hn; simp at hn; subst hn; exact ⟨h1.nm,by have := h1.len; omega⟩
 ·simp [BT,M2,jF]
def L1 (one two : Wd) (i : Int) : List Nat := one ++ [46] ++ two ++ [58] ++ M7 i ++ [46,46]
theorem gd1 (h1 : PN one) (h2 : PN two) (hi : iB i) : ∃ t r,Gd (L1 one two i) t r := by
 refine ⟨_,_,aQ (ps := [(0,one),(0,[46]),(0,two),(0,[58]),(0,M7 i),(0,[46,46])]) (ns := [one,two]) (w := [M7 i,[46,46]]) (ts := []) (ws := []) (e := 0) (P5 h1 (by decide) (fun _=>K0) (K6 (by decide) (by decide) (.inl h1.d) (P5 h2 (by decide) (T7 (by decide) (.inr h2.h)) (K6 (by decide) (by decide) (.inl h2.d) (c_i hi (by decide) (T7 (by decide) (.inl (by decide))) (c_d (by decide) (qS i) .nil)))))) (by simp) (by decide) (by simp [K9,L1]) (by simp [bG,Q3,M4,tails]) (by simp) ?_ (by simp) (W9 (AU2 i)) .nil (by simp) ?_ (jZ (V3 (by decide +kernel))) (by simp [O3,T1,M2,nL,nD])⟩
 ·intro n hn; simp at hn; rcases hn with rfl | rfl; exact ⟨h1.nm,by have := h1.len; omega⟩; exact ⟨h2.nm,by have := h2.len; omega⟩
 ·simp [BT,M2,jF]
def W4 (one two : Wd) : List Nat := one ++ [58,32,64] ++ two
theorem gd2 (h1 : PN one) (h2 : PN two) : ∃ t r,Gd (W4 one two) t r := by
 refine ⟨_,_,aQ (ps := [(0,one),(0,[58]),(1,[64]),(0,two)]) (ns := [one]) (w := [64] :: Q3 [two]) (ts := []) (ws := []) (e := 0) (P5 h1 (by decide) (fun _=>K0) (K6 (by decide) (by decide) (.inl h1.d) (K6 (by decide) (by decide) (.inr (by decide)) (P5 h2 (by decide) (T7 (by decide) (.inl (by decide))) .nil)))) (by simp) (by decide) (by simp [K9,W4]) (by simp [bG,Q3,M4,tails]) (by simp) ?_ (by simp) (W9 (cL (by simp) (by simp [h2.nm]))) .nil (by simp) ?_ (jZ (eQ [two])) (by simp [O3,T1,nL,nD])⟩
 ·intro n hn; simp at hn; subst hn; exact ⟨h1.nm,by have := h1.len; omega⟩
 ·have := h2.len; simp [BT,Y1]; omega
def L3 (one two three : Wd) : List Nat := one ++ [58,64] ++ two ++ [46] ++ three
theorem gd3 (h1 : PN one) (h2 : PN two) (h3 : PN three) : ∃ t r,Gd (L3 one two three) t r := by
 refine ⟨_,_,aQ (ps := [(0,one),(0,[58]),(0,[64]),(0,two),(0,[46]),(0,three)]) (ns := [one]) (w := [64] :: Q3 [two,three]) (ts := []) (ws := []) (e := 0) (P5 h1 (by decide) (fun _=>K0) (K6 (by decide) (by decide) (.inl h1.d) (K6 (by decide) (by decide) (.inr (by decide)) (P5 h2 (by decide) (T7 (by decide) (.inl (by decide))) (K6 (by decide) (by decide) (.inl h2.d) (P5 h3 (by decide) (T7 (by decide) (.inr h3.h)) .nil)))))) (by simp) (by decide) (by simp [K9,L3]) (by simp [bG,Q3,M4,tails]) (by simp) ?_ (by simp) (W9 (cL (by simp) (by simp [h2.nm,h3.nm]))) .nil (by simp) ?_ (jZ (eQ [two,three])) (by simp [O3,T1,nL,nD])⟩
 ·intro n hn; simp at hn; subst hn; exact ⟨h1.nm,by have := h1.len; omega⟩
 ·have := h2.len; have := h3.len; simp [BT,Y1]; omega
def L4 (one two three : Wd) (i : Int) : List Nat := one ++ [46] ++ two ++ [46] ++ three ++ [32,46,32,32] ++ one ++ [58,32] ++ M7 i ++ [32,124,32,116,101,120,116]
theorem gd4 (h1 : PN one) (h2 : PN two) (h3 : PN three) (hi : iB i) : ∃ t r,Gd (L4 one two three i) t r := by
 refine ⟨_,_,aQ (ps := [(0,one),(0,[46]),(0,two),(0,[46]),(0,three),(1,[46]),(2,one),(0,[58]),(1,M7 i),(1,[124]),(1,eO)]) (ns := [one,two,three,one]) (w := [M7 i] ++ [124] :: [eO]) (ts := []) (ws := []) (e := 0) (P5 h1 (by decide) (fun _=>K0) (K6 (by decide) (by decide) (.inl h1.d) (P5 h2 (by decide) (T7 (by decide) (.inr h2.h)) (K6 (by decide) (by decide) (.inl h2.d) (P5 h3 (by decide) (T7 (by decide) (.inr h3.h)) (K6 (by decide) (by decide) (.inl h3.d) (P5 h1 (by decide) (aE (by decide)) (K6 (by decide) (by decide) (.inl h1.d) (c_i hi (by decide) (aE (by decide)) (K6 (by decide) (by decide) (.inl (qS i)) (pA (by decide) (by decide) (by decide) .nil))))))))))) (by simp) (by decide) (by simp [K9,L4,eO,List.replicate]) (by simp [bG,Q3,M4,tails]) (by simp) ?_ (by simp) (AC3 (vM i) (fI (by decide))) .nil (by simp) ?_ (jZ (AD7 (uH (V3 (by decide +kernel)) (V3 (by decide +kernel))))) (by simp [O3,T1,M2,nL,nD])⟩
 ·intro n hn; simp at hn; rcases hn with rfl | rfl | rfl | rfl; exact ⟨h1.nm,by have := h1.len; omega⟩; exact ⟨h2.nm,by have := h2.len; omega⟩; exact ⟨h3.nm,by have := h3.len; omega⟩; exact ⟨h1.nm,by have := h1.len; omega⟩
 ·simp [BT,M2,jF,eG,cP,eO]
def L5 (one two three : Wd) : List Nat := one ++ [46] ++ two ++ [58,32,64] ++ three
theorem gd5 (h1 : PN one) (h2 : PN two) (h3 : PN three) : ∃ t r,Gd (L5 one two three) t r := by
 refine ⟨_,_,aQ (ps := [(0,one),(0,[46]),(0,two),(0,[58]),(1,[64]),(0,three)]) (ns := [one,two]) (w := [64] :: Q3 [three]) (ts := []) (ws := []) (e := 0) (P5 h1 (by decide) (fun _=>K0) (K6 (by decide) (by decide) (.inl h1.d) (P5 h2 (by decide) (T7 (by decide) (.inr h2.h)) (K6 (by decide) (by decide) (.inl h2.d) (K6 (by decide) (by decide) (.inr (by decide)) (P5 h3 (by decide) (T7 (by decide) (.inl (by decide))) .nil)))))) (by simp) (by decide) (by simp [K9,L5]) (by simp [bG,Q3,M4,tails]) (by simp) ?_ (by simp) (W9 (cL (by simp) (by simp [h3.nm]))) .nil (by simp) ?_ (jZ (eQ [three])) (by simp [O3,T1,nL,nD])⟩
 ·intro n hn; simp at hn; rcases hn with rfl | rfl; exact ⟨h1.nm,by have := h1.len; omega⟩; exact ⟨h2.nm,by have := h2.len; omega⟩
 ·have := h3.len; simp [BT,Y1]; omega
def L6 (one two three : Wd) : List Nat := one ++ [32,46,32] ++ two ++ [32,58,32,123] ++ three ++ [32,63,58,32,97,110,121,32,44,32,46,46,125,32,101,108,115,101,32,110,111,110,101]
theorem gd6 (h1 : PN one) (h2 : PN two) (h3 : PN three) : ∃ t r,Gd (L6 one two three) t r := by
 have hrec : M5 (P6 6) true (.tup [.str nT,.tup ([(three,Tn.tup [.str cP,.str oA],false)].map fO),.bl true]) ([123] :: (M4 [44] ([eJ three false [oA]] ++ N5 true) ++ [[125]])) := W9 (AM0 (.cons ⟨[oA],rfl,h3.nm,W9 (fI (by decide))⟩ .nil) (by simp))
 refine ⟨_,_,aQ (ps := [(0,one),(1,[46]),(1,two),(1,[58]),(1,[123]),(0,three),(1,[63]),(0,[58]),(1,oA),(1,[44]),(1,[46,46]),(0,[125]),(1,L9),(1,qX)]) (ns := [one,two]) (ts := [_]) (ws := [[qX]]) (e := 0) (P5 h1 (by decide) (fun _=>K0) (K6 (by decide) (by decide) (.inl h1.d) (P5 h2 (by decide) (aE (by decide)) (K6 (by decide) (by decide) (.inl h2.d) (K6 (by decide) (by decide) (.inr (by decide)) (P5 h3 (by decide) (T7 (by decide) (.inl (by decide))) (K6 (by decide) (by decide) (.inl h3.d) (K6 (by decide) (by decide) (.inr (by decide)) (pA (by decide) (by decide) (by decide) (K6 (by decide) (by decide) (.inl (by decide)) (c_d (by decide) (by decide) (K6 (by decide) (by decide) (.inl (by decide)) (pA (by decide) (by decide) (by decide) (pA (by decide) (by decide) (by decide) .nil)))))))))))))) (by simp) (by decide) (by simp [K9,L6,oA,qX,L9,List.replicate]) (by simp [bG,Q3,M4,tails,eJ,N5]) (by simp) ?_ (by simp) hrec (.cons (W9 (fI (u := qX) (by decide))) .nil) (by simp) ?_ (uH (V3 (by decide +kernel)) (V3 (by decide +kernel))) (by simp [O3,T1,fO,nL,nD])⟩
 ·intro n hn; simp at hn; rcases hn with rfl | rfl; exact ⟨h1.nm,by have := h1.len; omega⟩; exact ⟨h2.nm,by have := h2.len; omega⟩
 ·have := h3.len; simp [BT,fO,nT,cP,oA,qX]; omega
def qt (two : Wd) : List Nat := [101,108,115,101,58,32,64] ++ two
def L7 (one two three : Wd) : List Nat := one ++ [58,32,34,101,108,115,101,58,32,64] ++ two ++ [34,32,124,32,91,46,46,93,32,101,108,115,101,32,64] ++ three
theorem AE7 {two : Wd} (h2 : PN two) : ∀ c ∈ qt two,U7 c = true := fun c hc=>by
 rcases List.mem_append.mp hc with z | z
 ·have : ∀ c ∈ [101,108,115,101,58,32,64],U7 c = true := by decide
  exact this c z
 ·have h := h2.nm
  unfold E2 at h
  rw [Bool.and_eq_true,List.all_eq_true] at h
  have h := h.2 c z
  unfold P4 at h
  simp only [Bool.and_eq_true,decide_eq_true_eq] at h
  have : ∀ k,k < 26 → U7 (97 + k) = true := by decide
  have e : c = 97 + (c - 97) := by omega
  rw [e]
  exact this _ (by omega)
theorem gd7 (h1 : PN one) (h2 : PN two) (h3 : PN three) : ∃ t r,Gd (L7 one two three) t r := by
 have hl := h2.len
 have hq : T5 [124] [(1,[91]),(0,[46,46]),(0,[93]),(1,L9),(1,[64]),(0,three)] := K6 (by decide) (by decide) (.inr (by decide)) (c_d (by decide) (by decide) (K6 (by decide) (by decide) (.inl (by decide)) (pA (by decide) (by decide) (by decide) (K6 (by decide) (by decide) (.inl (by decide)) (P5 h3 (by decide) (T7 (by decide) (.inl (by decide))) .nil)))))
 have hq2 : T5 [58] ((1,34 :: (qt two ++ [34])) :: (1,[124]) :: [(1,[91]),(0,[46,46]),(0,[93]),(1,L9),(1,[64]),(0,three)]) := .cons (.inr (.inr (.inl ⟨qt two,AE7 h2,rfl⟩))) (by decide) (by simp [qt]; omega) (fun c hc=>by
  rcases List.mem_cons.mp hc with rfl | hc
  ·decide
  ·rcases List.mem_append.mp hc with z | z
   ·have := AE7 h2 c z
    unfold U7 at this
    simp only [Bool.and_eq_true,decide_eq_true_eq] at this
    omega
   ·rw [List.mem_singleton.mp z]; decide) (aE (by decide)) (K6 (by decide) (by decide) (.inr (by decide)) hq)
 have hlist : NegAble (P6 5) true (.tup [.str jG,.tup [],.bl true]) ([91] :: (M4 [44] ([] ++ N5 true) ++ [[93]])) := AB2 .nil (by simp)
 refine ⟨_,_,aQ (ps := (0,one) :: (0,[58]) :: (1,34 :: (qt two ++ [34])) :: (1,[124]) :: [(1,[91]),(0,[46,46]),(0,[93]),(1,L9),(1,[64]),(0,three)]) (ns := [one]) (w := [34 :: (qt two ++ [34])] ++ [124] :: ([91] :: (M4 [44] ([] ++ N5 true) ++ [[93]]))) (ts := [_]) (ws := [[64] :: Q3 [three]]) (e := 0) (P5 h1 (by decide) (fun _=>K0) (K6 (by decide) (by decide) (.inl h1.d) hq2)) (by simp) (by decide) (by simp [K9,L7,qt,L9,List.replicate]) (by simp [bG,Q3,M4,tails,N5]) (by simp) ?_ (by simp) (AC3 (AB1 (b := qt two)) hlist) (.cons (W9 (cL (by simp) (by simp [h3.nm]))) .nil) (by simp) ?_ (uH (AD7 (uH (V3 (by decide +kernel)) (V3 (by decide +kernel)))) (eQ [three])) (by simp [O3,T1,nL,nD])⟩
 ·intro n hn; simp at hn; subst hn; exact ⟨h1.nm,by have := h1.len; omega⟩
 ·have := h3.len; simp [BT,eG,lT,jG,Y1,qt]; omega
def L8 (one : Wd) (i : Int) : List Nat := [32,32] ++ one ++ [58,32,32,33,40] ++ M7 i ++ [32,124,32,116,101,120,116,41,32,32]
theorem gd8 (h1 : PN one) (hi : iB i) : ∃ t r,Gd (L8 one i) t r := by
 have hx : M5 (P6 5) false (.tup [.str eG,.tup [M2 (.int i) (.int i),.tup [.str cP,.str eO]]]) ([M7 i] ++ [124] :: [eO]) := AC3 (vM i) (fI (by decide))
 refine ⟨_,_,aQ (ps := [(2,one),(0,[58]),(2,[33]),(0,[40]),(0,M7 i),(1,[124]),(1,eO),(0,[41])]) (ns := [one]) (ts := []) (ws := []) (e := 2) (P5 h1 (by decide) (aE (by decide)) (K6 (by decide) (by decide) (.inl h1.d) (K6 (by decide) (by decide) (.inr (by decide)) (K6 (by decide) (by decide) (.inr (by decide)) (c_i hi (by decide) (T7 (by decide) (.inl (by decide))) (K6 (by decide) (by decide) (.inl (qS i)) (pA (by decide) (by decide) (by decide) (K6 (by decide) (by decide) (.inl (by decide)) .nil)))))))) (by simp) (by decide) (by simp [K9,L8,eO,List.replicate]) (by simp [bG,Q3,M4,tails]) (by simp) ?_ (by simp) (W9 (BE7 (wG hx))) .nil (by simp) ?_ (jZ (V3 (by decide +kernel))) (by simp [O3,T1,M2,nL,nD])⟩
 ·intro n hn; simp at hn; subst hn; exact ⟨h1.nm,by have := h1.len; omega⟩
 ·simp [BT,M2,jF,eG,cP,vF,eO]
end
end Law
namespace Law
open PySem L2 L2.Sp
section
variable {X : Bool → List Wd → R9 → Prop} {free : Bool}
theorem yR {r : List Wd} : R4 X false ([64] :: r) none := by
 unfold R4
 exact E9 (show ([64] : Wd) ≠ [40] by decide) (E9 (show ([64] : Wd) ≠ [91] by decide) (E9 (show ([64] : Wd) ≠ [123] by decide) (E9 (fun z=>by cases z.2) (E9 (fun z=>absurd z.1 (show ([64] : Wd) ≠ [46,46] by decide)) (E9 (show ¬ O8 [64] = true by decide) (E9 (show ([64] : Wd).take 1 ≠ [34] by decide) (E9 (show ([64] : Wd) ∉ U9 by decide) rfl)))))))
theorem AB6 {r : List Wd} (h : ∃ k,S8 X k [] r none) : R4 X free ([91] :: r) none := by
 obtain ⟨k,h⟩ := h
 unfold R4
 exact E9 (show ([91] : Wd) ≠ [40] by decide) (K7 rfl ⟨k,none,h,rfl⟩)
theorem zM {r : List Wd} (h : ∃ k,P1 X k [] r none) : R4 X free ([123] :: r) none := by
 obtain ⟨k,h⟩ := h
 unfold R4
 exact E9 (show ([123] : Wd) ≠ [40] by decide) (E9 (show ([123] : Wd) ≠ [91] by decide) (K7 rfl ⟨k,none,h,rfl⟩))
theorem AT7 {c u : Wd} {r : List Wd} (h1 : u ≠ c) (h2 : u ≠ [46,46] ∨ hd r ≠ c) : O4 c 0 (u :: r) = some (true,u :: r) := by
 unfold O4
 rw [if_neg (show hd (u :: r) ≠ c from h1),if_neg (by decide)]
 congr 2
 show (!(decide (u = [46,46]) && decide (hd r = c))) = true
 rcases h2 with h | h
 ·rw [decide_eq_false h,Bool.false_and]; rfl
 ·rw [decide_eq_false h,Bool.and_false]; rfl
theorem BF8 {c : Wd} {r : List Wd} {n : Nat} (hc : ([44] : Wd) ≠ c) (hn : 0 < n) (h2 : hd r ≠ [46,46] ∨ hd r.tail ≠ c) : O4 c n ([44] :: r) = some (true,r) := by
 unfold O4
 rw [if_neg (show hd ([44] :: r) ≠ c from hc),if_pos hn,if_pos (show hd ([44] :: r) = [44] from rfl)]
 congr 2
 show (!(decide (hd r = [46,46]) && decide (hd r.tail = c))) = true
 rcases h2 with h | h
 ·rw [decide_eq_false h,Bool.false_and]; rfl
 ·rw [decide_eq_false h,Bool.and_false]; rfl
theorem AU0 {nm : Wd} {r : List Wd} {xres : R9} (hn : E2 nm = true) (hx : X false r xres) : R7 X (nm :: [58] :: r) (xres.map fun p=>((nm,p.1,true),p.2)) := by
 unfold R7
 exact K7 (show E2 nm = true from hn) (E9 (show ([58] : Wd) ≠ [63] by decide) (K7 rfl ⟨xres,hx,rfl⟩))
theorem iI {u : Wd} {r : List Wd} (hu : u ≠ [33]) (h : R4 X free (u :: r) none) : bW X free (u :: r) none := cY hu h
theorem AD3 {r : List Wd} (h : bW X false r none) : bW X free ([33] :: r) none := by
 obtain ⟨s,a,b⟩ := h
 have e : O9 ([33] :: r) = O9 r + 1 := by unfold O9; rw [List.takeWhile_cons_of_pos (by decide)]; rfl
 cases s with
 | some p=>cases b
 | none =>
  refine ⟨none,?_,rfl⟩
  rw [e,decide_eq_false (by omega),Bool.and_false,List.drop_succ_cons]
  exact a
end
theorem AV0 {n : Nat} {r : List Wd} : P6 (n + 1) false ([64] :: r) none := ⟨none,iI (by decide) yR,rfl⟩
theorem V8 {ps : List (Nat × Wd)} {e : Nat} {l : List Nat} (h : T5 [] ps) (hp : ps.length ≤ 40) (he : e ≤ 2) (el : l = K9 ps ++ List.replicate e 32) (hr : aO (P6 6) (ps.map (·.2)) none) : Bd l := by
 subst el
 exact ⟨oU h hp he,.inr ⟨_,lZ h e,xZ h hp,hr⟩⟩
theorem rT {n : Wd} {s : List Nat} (h : PN n) (hs : E7 s = none) (hl : s.length ≤ 10) (ha : ∀ c ∈ s,c < 128) : Bd (n ++ [58,32] ++ s) := by
 have hg : T5 [] [(0,n),(0,[58])] := P5 h (by decide) (fun _=>K0) (K6 (by decide) (by decide) (.inl h.d) .nil)
 obtain ⟨w',L⟩ := oV hg Line.nil
 simp only [List.nil_append] at L
 have e := L.bad hs
 have el : K9 [(0,n),(0,[58])] ++ (32 :: s) = n ++ [58,32] ++ s := by simp [K9]
 rw [el] at e
 refine ⟨⟨by have := h.len; simp; omega,fun c hc=>?_⟩,.inl e⟩
 simp only [List.mem_append,List.mem_cons,List.not_mem_nil,or_false] at hc
 rcases hc with (hc | rfl | rfl) | hc
 ·have := h.asc c hc; omega
 ·decide
 ·decide
 ·have := ha c hc; omega
def w1 : Wd := [49]
def w2 : Wd := [50]
theorem n1 : O8 w1 = true := by decide
theorem BC1 : T4 w1 := .inr (.inl ⟨[],[49],rfl,.inl rfl,by simp,by decide,by decide,by decide⟩)
theorem BC0 : T4 w2 := .inr (.inl ⟨[],[50],rfl,.inl rfl,by simp,by decide,by decide,by decide⟩)
theorem pB {w : Wd} {g : Nat} {r : List (Nat × Wd)} (hg : g ≤ 2) (hf : g = 0 → Fol w w1) (hr : T5 w1 r) : T5 w ((g,w1) :: r) := .cons BC1 hg (by decide) (by decide) hf hr
theorem c_2 {w : Wd} {g : Nat} {r : List (Nat × Wd)} (hg : g ≤ 2) (hf : g = 0 → Fol w w2) (hr : T5 w2 r) : T5 w ((g,w2) :: r) := .cons BC0 hg (by decide) (by decide) hf hr
theorem x1 {f : Bool} {m : Nat} : M5 (P6 (m + 1)) f (M2 (.int (N3 w1)) (.int (N3 w1))) [w1] := W9 (nQ n1)
section
variable {n : Wd} (h : PN n)
include h
theorem jP : (∀ m ∈ [n],E2 m = true) := by simp [h.nm]
theorem bd1 : Bd n := V8 (ps := [(0,n)]) (e := 0) (P5 h (by decide) (fun _=>K0) .nil) (by simp) (by decide) (by simp [K9]) (wN (ns := [n]) (r := []) (by simp) (jP h) (by decide) (by decide))
theorem bd2 : Bd (n ++ [58]) := V8 (ps := [(0,n),(0,[58])]) (e := 0) (P5 h (by decide) (fun _=>K0) (K6 (by decide) (by decide) (.inl h.d) .nil)) (by simp) (by decide) (by simp [K9]) (gG (ns := [n]) (r := []) (by simp) (jP h) (nW (by decide)))
theorem bd4 : Bd (n ++ [58,32,49,32,101,108,115,101]) := V8 (ps := [(0,n),(0,[58]),(1,w1),(1,L9)]) (e := 0) (P5 h (by decide) (fun _=>K0) (K6 (by decide) (by decide) (.inl h.d) (pB (by decide) (aE (by decide)) (pA (by decide) (by decide) (by decide) .nil)))) (by simp) (by decide) (by simp [K9,w1,L9,List.replicate]) (zL (ns := [n]) (w := [w1]) (r := []) (by simp) (jP h) x1 (nW (by decide)))
theorem bd5 : Bd (n ++ [32,49]) := V8 (ps := [(0,n),(1,w1)]) (e := 0) (P5 h (by decide) (fun _=>K0) (pB (by decide) (aE (by decide)) .nil)) (by simp) (by decide) (by simp [K9,w1]) (wN (ns := [n]) (r := [w1]) (by simp) (jP h) (by decide) (by decide))
theorem bd6 : Bd (n ++ [46,58,32,49]) := V8 (ps := [(0,n),(0,[46]),(0,[58]),(1,w1)]) (e := 0) (P5 h (by decide) (fun _=>K0) (K6 (by decide) (by decide) (.inl h.d) (K6 (by decide) (by decide) (.inr (by decide)) (pB (by decide) (aE (by decide)) .nil)))) (by simp) (by decide) (by simp [K9,w1]) (lG (AB4 (ns := [n]) (rest := [[58],w1]) (by simp) (jP h) rfl))
theorem bd8 : Bd (n ++ [58,32,91,64] ++ n ++ [93]) := V8 (ps := [(0,n),(0,[58]),(1,[91]),(0,[64]),(0,n),(0,[93])]) (e := 0) (P5 h (by decide) (fun _=>K0) (K6 (by decide) (by decide) (.inl h.d) (K6 (by decide) (by decide) (.inr (by decide)) (K6 (by decide) (by decide) (.inr (by decide)) (P5 h (by decide) (T7 (by decide) (.inl (by decide))) (K6 (by decide) (by decide) (.inl h.d) .nil)))))) (by simp) (by decide) (by simp [K9,List.replicate])
 (gG (ns := [n]) (r := [[91],[64],n,[93]]) (by simp) (jP h) ⟨none,iI (by decide) (AB6 ⟨0,.worse (AT7 (by decide) (.inl (by decide))) (AV0 (n := 4))⟩),rfl⟩)
theorem bd9 : Bd (n ++ [58,32,33,64] ++ n) := V8 (ps := [(0,n),(0,[58]),(1,[33]),(0,[64]),(0,n)]) (e := 0) (P5 h (by decide) (fun _=>K0) (K6 (by decide) (by decide) (.inl h.d) (K6 (by decide) (by decide) (.inr (by decide)) (K6 (by decide) (by decide) (.inr (by decide)) (P5 h (by decide) (T7 (by decide) (.inl (by decide))) .nil))))) (by simp) (by decide) (by simp [K9,List.replicate])
 (gG (ns := [n]) (r := [[33],[64],n]) (by simp) (jP h) ⟨none,AD3 (iI (by decide) yR),rfl⟩)
theorem BG4 : Bd (n ++ [58,32,49,32,50]) := by
 refine V8 (ps := [(0,n),(0,[58]),(1,w1),(1,w2)]) (e := 0) (P5 h (by decide) (fun _=>K0) (K6 (by decide) (by decide) (.inl h.d) (pB (by decide) (aE (by decide)) (c_2 (by decide) (aE (by decide)) .nil)))) (by simp) (by decide) (by simp [K9,w1,w2,List.replicate]) ?_
 have hx : P6 6 true [w1,w2] (some (M2 (.int (N3 w1)) (.int (N3 w1)),[w2])) := by
  refine ⟨some (_,[w2]),cY (by decide) ?_,0,.stop (by decide) (by decide)⟩
  unfold R4
  exact E9 (by decide) (E9 (by decide) (E9 (by decide) (E9 (fun z=>absurd z.1 (by decide)) (E9 (fun z=>absurd z.1 (by decide)) (K7 n1 (E9 (by decide) rfl))))))
 exact ⟨some ([n],[58] :: [w1,w2]),bN (ns := [n]) (rest := [58] :: [w1,w2]) (by simp) (jP h) (oS (by decide)),K7 rfl ⟨_,hx,0,_,.stop (by decide),rfl⟩⟩
theorem BG3 : Bd (n ++ [58,32,123] ++ n ++ [58,32,49,44,32] ++ n ++ [58,32,50,125]) := by
 refine V8 (ps := [(0,n),(0,[58]),(1,[123]),(0,n),(0,[58]),(1,w1),(0,[44]),(1,n),(0,[58]),(1,w2),(0,[125])]) (e := 0) (P5 h (by decide) (fun _=>K0) (K6 (by decide) (by decide) (.inl h.d) (K6 (by decide) (by decide) (.inr (by decide)) (P5 h (by decide) (T7 (by decide) (.inl (by decide))) (K6 (by decide) (by decide) (.inl h.d) (pB (by decide) (aE (by decide)) (K6 (by decide) (by decide) (.inr (by decide)) (P5 h (by decide) (aE (by decide)) (K6 (by decide) (by decide) (.inl h.d) (c_2 (by decide) (aE (by decide)) (K6 (by decide) (by decide) (.inr (by decide)) .nil))))))))))) (by simp) (by decide) (by simp [K9,w1,w2,List.replicate]) ?_
 obtain ⟨_,n2,n3,_⟩ := AM2 h.nm
 have a1 : P6 5 false ([w1] ++ ([44] :: n :: [58] :: [w2,[125]])) (some (M2 (.int (N3 w1)) (.int (N3 w1)),[44] :: n :: [58] :: [w2,[125]])) := x1 _ (ES.of (by decide))
 have a2 : P6 5 false ([w2] ++ [[125]]) (some (M2 (.int (N3 w2)) (.int (N3 w2)),[[125]])) := W9 (m := 4) (nQ (by decide)) _ (ES.of (by decide))
 have hh2 : O4 [125] 1 ([44] :: n :: [58] :: [w2,[125]]) = some (true,n :: [58] :: [w2,[125]]) := BF8 (by decide) (by decide) (.inl n3)
 have f1 : R7 (P6 5) (n :: [58] :: ([w1] ++ ([44] :: n :: [58] :: [w2,[125]]))) (some ((n,M2 (.int (N3 w1)) (.int (N3 w1)),true),[44] :: n :: [58] :: [w2,[125]])) := AU0 h.nm a1
 have f2 : R7 (P6 5) (n :: [58] :: [w2,[125]]) (some ((n,M2 (.int (N3 w2)) (.int (N3 w2)),true),[[125]])) := AU0 h.nm a2
 have fs : P1 (P6 5) 1 [] (n :: [58] :: ([w1] ++ ([44] :: n :: [58] :: [w2,[125]]))) none := .on (AT7 n2 (.inl n3)) f1 (by simp) (.twice hh2 f2 (by simp))
 have hx : P6 6 true ([123] :: n :: [58] :: ([w1] ++ ([44] :: n :: [58] :: [w2,[125]]))) none := ⟨none,iI (by decide) (zM ⟨1,fs⟩),rfl⟩
 exact gG (X := P6 6) (ns := [n]) (by simp) (jP h) hx
theorem BG2 : Bd ([49,58,32] ++ n) := V8 (ps := [(0,w1),(0,[58]),(1,n)]) (e := 0) (pB (by decide) (fun _=>K0) (K6 (by decide) (by decide) (.inl (by decide)) (P5 h (by decide) (aE (by decide)) .nil))) (by simp) (by decide) (by simp [K9,w1]) (lG (gW rfl))
theorem BG1 : Bd (n ++ [58,32,101,108,115,101,32,49]) := V8 (ps := [(0,n),(0,[58]),(1,L9),(1,w1)]) (e := 0) (P5 h (by decide) (fun _=>K0) (K6 (by decide) (by decide) (.inl h.d) (pA (by decide) (by decide) (by decide) (pB (by decide) (aE (by decide)) .nil)))) (by simp) (by decide) (by simp [K9,w1,L9,List.replicate]) (gG (ns := [n]) (r := [L9,w1]) (by simp) (jP h) (nW (by show yX L9; decide)))
end
theorem bd0 : Bd [] := V8 (ps := []) (e := 0) .nil (by simp) (by decide) (by simp [K9]) (lG (gW rfl))
theorem bd3 : Bd [58,32,49] := V8 (ps := [(0,[58]),(1,w1)]) (e := 0) (K6 (by decide) (by decide) (.inl (by decide)) (pB (by decide) (aE (by decide)) .nil)) (by simp) (by decide) (by simp [K9,w1]) (lG (gW rfl))
theorem wn1 : E7 [48,49] = none := by rw [E7]; rfl
theorem wn2 : E7 [34,120] = none := by rw [E7]; rfl
theorem wn0 : E7 [10] = none := by rw [E7]; rfl
theorem wn3 : E7 [49,10] = none := by
 have e : E7 [49,10] = (E7 [10]).map ([49] :: ·) := by rw [E7]; rfl
 rw [e,wn0]; rfl
end Law
namespace L2
open PySem PySem.Spec PyProof.Rows
section
variable {X : Cx}
def AV1 (X : Cx) (e : Expr) : TE := fun σ H Q=>∃ t,PE X e t ∧ t σ H Q
theorem gI {e : Expr} : PE X e (AV1 X e) := fun pins s σ H Q I ⟨_,h,g⟩=>h pins s σ H Q I g
def AV2 (X : Cx) (es : List Expr) : TA := fun σ H Q=>∃ t,PA X es t ∧ t σ H Q
theorem dX {es : List Expr} : PA X es (AV2 X es) := fun pos pins s σ H Q I ⟨_,h,g⟩=>h pos pins s σ H Q I g
def BG5 (X : Cx) (ss : List Stmt) : TS := fun D σ H=>∃ t,PSs X ss t ∧ t D σ H
theorem E5 {ss : List Stmt} : PSs X ss (BG5 X ss) := fun pins s σ H D I ⟨_,h,g⟩=>h pins s σ H D I g
end
end L2
namespace L2
open PySem PySem.Spec PyProof.Rows
inductive HS (X : Cx) (C : Addr) : List ExceptHandler → TS → Prop
 | hit {x : Str} {M : Addr} {bmM : List Value} {idM : String} {np hpos : Pos} {b₀ : Stmt} {suite : List Stmt} {rest : List ExceptHandler} {t : TS} (cM : XC X.K M bmM idM) (hb : PySem.W.mroIn X.K C (.ref M) = some true) (hg : Gl X x) (hm : X.mg x = some (.ref M)) (hdb : (x == ("__debug__" : Str)) = false)
   (hs : ∀ (ex : Addr) (oe : Obj),PSs (X.suite ex oe) (b₀ :: suite) t) : HS X C (.ExceptHandler (some (.Name x np)) none (b₀ :: suite) hpos :: rest) t
 | miss {x : Str} {M : Addr} {bmM : List Value} {idM : String} {np hpos : Pos} {name : Option Str} {body : List Stmt} {rest : List ExceptHandler} {t : TS} (cM : XC X.K M bmM idM) (hb : PySem.W.mroIn X.K C (.ref M) = some false) (hg : Gl X x) (hm : X.mg x = some (.ref M)) (hdb : (x == ("__debug__" : Str)) = false)
   (hr : HS X C rest t) : HS X C (.ExceptHandler (some (.Name x np)) name body hpos :: rest) t
end L2
namespace L2
open PySem PySem.Spec PyProof.Rows
def jFl (te : TE) (t : TJ) : TJ := fun σ H Q=>te σ H fun x H1=>∃ (l : Addr) (is : List Nat),x = .ref l ∧ H1 l = some (.lst (is.map fun n : Nat=>V.int (n : Int))) ∧ is ≠ [] ∧ is.length ≤ 100 ∧ (∀ i ∈ is,i < 100) ∧ t σ H1 Q
theorem qZ : ∀ n : Nat,n < 100 → (Str.ofString (toString (n : Int))).length ≤ 60 ∧ ((n : Int)).natAbs.log2 < 1920 := by decide +kernel
theorem oF : ∀ {is : List Nat} {its : List Value},Vals (is.map fun n : Nat=>V.int (n : Int)) its → its.length = is.length ∧ ∀ (k : Nat) (y : Value),its[k]? = some y → ∃ (i : Nat) (t : Tok),is[k]? = some i ∧ y = .int (i : Int) t
 | [],its,h=>by cases h; exact ⟨rfl,fun k y e=>by simp at e⟩
 | i :: is,its,h=>by
  cases h with
  | @cons _ u _ us a b =>
   obtain ⟨t,rfl⟩ := a
   obtain ⟨h1,h2⟩ := oF b
   refine ⟨by simp [h1],fun k y e=>?_⟩
   cases k with
   | zero=>cases e; exact ⟨i,t,rfl,rfl⟩
   | succ k=>exact h2 k y e
theorem AO7 {ts : List Str} (h : ∀ t ∈ ts,t.length ≤ 60) : (ts.map fun x=>x.length).sum ≤ 60 * ts.length := by
 induction ts with
 | nil=>simp
 | cons a r ih =>
  have h1 := h a (by simp)
  have h2 := ih fun t ht=>h t (by simp [ht])
  simp
  omega
section
variable {X : Cx}
theorem tD {e : Expr} {te : TE} {p : Pos} {es : List Expr} {n : Nat} {t : TJ} (hg : X.A.guards = some []) (hu : X.A.units + 64 < cLine) (hx : PE X e te) (he : PJ X es n t) : PJ X (.FormattedValue e (-1) none p :: es) (n + 1) (jFl te t) := by
 intro pins s σ H Qh acc I hl h
 show wpAny _ _ (eval (.FormattedValue e (-1) none p) X.env) _ _ s
 have ln : sizeLine = 16777216 := sizeLine_eq
 refine wpAny_FormattedValue_plain (D8 (hx pins s σ H _ I h) fun v s1 ⟨x,H1,I1,r1,q1⟩=>?_)
 obtain ⟨l,is,rfl,hH,hne,hlen,hsm,q⟩ := q1
 cases r1
 obtain ⟨its,m,hv,hget,hz⟩ := I1.lst hH
 obtain ⟨hl1,hl2⟩ := oF hv
 obtain ⟨x0,r0,e0⟩ : ∃ x0 r0,its = x0 :: r0 := by
  cases its with
  | nil=>cases is with
   | nil=>exact absurd rfl hne
   | cons _ _=>simp at hl1
  | cons a b=>exact ⟨a,b,rfl⟩
 subst e0
 have hts : ∀ t ∈ is.map (fun i : Nat=>Str.ofString (toString (i : Int))),t.length ≤ 60 := fun t ht=>by
  obtain ⟨i,hi,rfl⟩ := List.mem_map.mp ht
  exact (qZ i (hsm i hi)).1
 have hb : (listText (is.map fun i : Nat=>Str.ofString (toString (i : Int)))).length ≤ 7000 := by
  have h1 := listText_len_le (is.map fun i : Nat=>Str.ofString (toString (i : Int)))
  have h2 := AO7 hts
  rw [List.length_map] at h1 h2
  omega
 refine wpAny_formatField_slot (T := "list") (idr := "list.__repr__") (fun y t z=>by cases z) (by omega) ⟨_,hget,rfl⟩ F.slot_list_format F.slot_list_str ⟨F.slot_list_repr.lookup,F.slot_list_repr.bind,F.slot_list_repr.check⟩ ?_
 refine call_list_repr (g := []) (ts := is.map fun i : Nat=>Str.ofString (toString (i : Int))) ⟨_,hget,rfl⟩ hg (fun v rest kw h=>by cases h) hget rfl ?_ (fun k y hy=>?_) (fun h' u tk hk=>?_) (by omega)
 ·rw [List.length_map,← hl1]; rfl
 ·obtain ⟨i,t,hi,rfl⟩ := hl2 k y (by simpa using hy)
  exact ⟨_,by rw [List.getElem?_map,hi]; rfl,ReprIs.int t (qZ i (hsm i (List.mem_of_getElem? hi))).2⟩
 ·refine ⟨_,_,rfl,_,_,rfl,by rw [strLen_append]; omega,?_⟩
  exact he pins _ σ H1 Qh _ (I1.kept hk) (by rw [strLen_append]; omega) q
end
end L2
namespace Law
open PySem L2 L2.Sp
structure NX (K : PySem.W.Frag) (mg : Str → Option Value) (x : Str) (C : Addr) : Prop where
 xc : XC K C [.type "ValueError",.type "Exception",.type "BaseException",.type "object"] "ValueError.__new__"
 mg : mg x = some (.ref C)
inductive GL : List (List Nat) → List Tn → List RG → Prop
 | nil : GL [] [] []
 | cons {l t r ls ts rs} : Gd l t r → GL ls ts rs → GL (l :: ls) (t :: ts) (r :: rs)
theorem GL.snoc {l : List Nat} {t : Tn} {r : RG} (h : Gd l t r) : ∀ {ls : List (List Nat)} {ts : List Tn} {rs : List RG},GL ls ts rs → GL (ls ++ [l]) (ts ++ [t]) (rs ++ [r])
 | _,_,_,.nil=>.cons h .nil
 | _,_,_,.cons a b=>.cons a (GL.snoc h b)
theorem GL.len {ls : List (List Nat)} {ts : List Tn} {rs : List RG} (h : GL ls ts rs) : ts.length = ls.length ∧ rs.length = ls.length := by
 induction h with
 | nil=>exact ⟨rfl,rfl⟩
 | cons _ _ ih=>exact ⟨by simp [ih.1],by simp [ih.2]⟩
theorem hR {α β : Type} (f : α → β) : ∀ (l : List α) (k : Nat),(l.map f).eraseIdx k = (l.eraseIdx k).map f
 | [],_=>rfl
 | _ :: _,0=>rfl
 | a :: l,k + 1=>by simp only [List.map_cons,List.eraseIdx_cons_succ,hR f l k]
theorem GL.erase : ∀ {ls : List (List Nat)} {ts : List Tn} {rs : List RG} (k : Nat),GL ls ts rs → GL (ls.eraseIdx k) (ts.eraseIdx k) (rs.eraseIdx k)
 | _,_,_,_,.nil=>.nil
 | _,_,_,0,.cons _ b=>b
 | _,_,_,k + 1,.cons a b=>.cons a (GL.erase k b)
section
variable {P : Program} {w : World} {K : PySem.W.Frag} {mg : Str → Option Value} {base : Heap} {f : Addr} {fd : FuncData} {D C G N : Addr}
theorem BA6 {H : Hp} {l : List Nat} {t : Tn} {r : RG} {v : V} (h : Gd l t r) (hv : TV K H t v) : yW K H v r := ⟨by rw [← h.d]; exact TV.dv 10 t v h.bt hv,h.tr,h.nl⟩
theorem vH {H : Hp} : ∀ {ls : List (List Nat)} {ts : List Tn} {rs : List RG} {vs : List V},GL ls ts rs → TAll K H ts vs → Paired (yW K H) vs rs
 | _,_,_,vs,.nil,h=>by simp only [TAll] at h; subst h; exact .nil
 | _,_,_,vs,.cons a b,h=>by
  simp only [TAll] at h
  obtain ⟨y,r,rfl,h1,h2⟩ := h
  exact .cons (BA6 a h1) (vH b h2)
theorem TAll.erase {H : Hp} : ∀ {ts : List Tn} {vs : List V} (k : Nat),TAll K H ts vs → TAll K H (ts.eraseIdx k) (vs.eraseIdx k)
 | [],vs,k,h=>by simp only [TAll] at h; subst h; simp only [List.eraseIdx_nil,TAll]
 | t :: ts,vs,0,h=>by
  simp only [TAll] at h
  obtain ⟨y,r,rfl,h1,h2⟩ := h
  exact h2
 | t :: ts,vs,k + 1,h=>by
  simp only [TAll] at h
  obtain ⟨y,r,rfl,h1,h2⟩ := h
  exact TAll.cons h1 (TAll.erase k h2)
abbrev mY : Stmt := O5 19
theorem AE3 : D7 ["rows","numbers"] ["rows"] (B3 mY) := ⟨rfl,rfl,rfl,by decide +kernel,rfl,by decide +kernel,by decide +kernel⟩
abbrev NoR (rs : List RG) : Prop := rY rs.length (aK T2 rs) (aK T3 rs)
abbrev IsR (rs : List RG) (p : List Nat) : Prop := sC rs.length (aK T2 rs) (aK T3 rs) p
def uN (K : PySem.W.Frag) (G : Addr) : Sp := fun args H Q E=>∃ (lr : Addr) (vs : List V) (rs : List RG),args = [.ref lr] ∧ H lr = some (.lst vs) ∧ Paired (yW K H) vs rs ∧ rs.length ≤ 20 ∧
 (∀ H',Same H H' → NoR rs → Q .non H') ∧ ∀ H' p,Same H H' → IsR rs p → E (.ref G) none H'
theorem xH {n : Nat} {p : List Nat} (hn : p.Nodup) (hl : ∀ x ∈ p,x < n) : p.length ≤ n := by
 have := List.Nodup.length_le_of_subset (l₁ := p) (l₂ := List.range n) hn fun x hx=>List.mem_range.mpr (hl x hx)
 simpa using this
theorem AR4 (F : Fun K "refuse_ring" "refuse_ring" mY f fd) (RING : Cal P w K mg base 3 "ring" ["rows"] (kZ K)) (n : NX K mg "Ring" G) : FnOk P w K mg base (M0 P w) 4 f fd ["rows"] (uN K G) := by
 refine Fun.ok1 F AE3 (fun vs H Q E h=>?_) (fun cdv A outer s H vs Q E hr h=>?_)
 ·obtain ⟨lr,vs',rs,rfl,_⟩ := h
  rfl
 obtain ⟨lr,vs',rs,rfl,hlr,hp,h20,q1,q2⟩ := h
 refine ⟨_,B2 (D3 (i := 1) AE3.nd rfl (Or.inl rfl) (E3 RING hr rfl (A9 (pv 0) B0))) E5,?_⟩
 refine ⟨_,rfl,lr,vs',rs,rfl,hlr,hp,h20,fun H' l p g hl0 hl hring=>?_,fun H' g hno=>?_⟩
 ·refine ⟨_,B4 (G3 (E1 dZ (pv 1) N2 (D9 _)) (B4 (R6 PySem.F.excBase_ValueError n.xc rfl n.mg (A9 (aZ (W2 (tD hr.gd hr.units (pv 1) (W2 dU)))) B0))) E4),?_⟩
  have hne : p ≠ [] := by
   obtain ⟨a,b,h1,_⟩ := hring.cl
   intro z; rw [z] at h1; cases h1
  have hlen := xH hring.nd hring.lt
  refine ⟨_,rfl,rfl,_,rfl,E8 ?_⟩
  exact ⟨_,rfl,l,p,rfl,hl,hne,by omega,fun x hx=>by have := hring.lt x hx; omega,fun r=>⟨S4,q2 H' p g hring⟩⟩
 ·refine ⟨_,B4 (G3 (E1 dZ (pv 1) N2 (D9 _)) (B4 (R6 PySem.F.excBase_ValueError n.xc rfl n.mg (A9 (aZ (W2 (tD hr.gd hr.units (pv 1) (W2 dU)))) B0))) E4),?_⟩
  exact ⟨_,rfl,rfl,_,rfl,F0 (q1 H' g hno)⟩
abbrev pR : Stmt := O5 48
abbrev dQ : Stmt := Y4 pR "__init__"
abbrev iL : Stmt := Y4 pR "tell"
abbrev iX : Stmt := Y4 pR "drop"
abbrev dO : Stmt := Y4 pR "rows"
theorem AI3 : D7 ["self"] ["self"] (B3 dQ) := ⟨rfl,rfl,rfl,by decide +kernel,rfl,by decide +kernel,by decide +kernel⟩
theorem wJ : D7 ["self","line","row"] ["self","line"] (B3 iL) := ⟨rfl,rfl,rfl,by decide +kernel,rfl,by decide +kernel,by decide +kernel⟩
theorem AP6 : D7 ["self","number"] ["self","number"] (B3 iX) := ⟨rfl,rfl,rfl,by decide +kernel,rfl,by decide +kernel,by decide +kernel⟩
theorem AI2 : D7 ["self"] ["self"] (B3 dO) := ⟨rfl,rfl,rfl,by decide +kernel,rfl,by decide +kernel,by decide +kernel⟩
def dkF (ll lr : Addr) : List (Str × V) := [("lines",.ref ll),("kept_rows",.ref lr)]
structure DC (K : PySem.W.Frag) (D : Addr) : Prop where
 cl : Cls K D
 nl : NoAttr K D "lines"
 nk : NoAttr K D "kept_rows"
structure DO (K : PySem.W.Frag) (H : Hp) (D dk dx ll lr : Addr) (ls : List (List Nat)) (ts : List Tn) : Prop where
 ob : H dk = some (.ins D dx (dkF ll lr))
 li : H ll = some (.lst (ST ls))
 ro : ∃ vs,H lr = some (.lst vs) ∧ TAll K H ts vs
 ne : ll ≠ lr
theorem DO.same {H H' : Hp} {dk dx ll lr : Addr} {ls : List (List Nat)} {ts : List Tn} (g : Same H H') (h : DO K H D dk dx ll lr ls ts) : DO K H' D dk dx ll lr ls ts := by
 obtain ⟨vs,h1,h2⟩ := h.ro
 exact ⟨g _ _ h.ob,g _ _ h.li,⟨vs,g _ _ h1,h2.kp (Kp.same g)⟩,h.ne⟩
def vT (a b : Addr) (H H' : Hp) : Prop := ∀ c o,c ≠ a → c ≠ b → H c = some o → H' c = some o
theorem tG {X : Cx} {CX : X7} {E : XK} {k : Nat} {m : Str} {ps : List Str} {sp : Sp} {apos pos : Pos} {o : Expr} {ta : TE} {pl : Sem Bool} (M : P2 X.prog X.w X.K X.mg X.base CX D k m ps sp) (c : Cls X.K D) (hr : Room k X.A) (hx : S7 CX X E) (ho : PE X o ta)
  (ht : eval (.Call (.Attribute o m apos) [] [] pos) X.env = (do
   let ov ← eval o X.env
   standAt apos.atName
   let (f,first) ← holding [ov] (getMethod ov m pl)
   callWith pos f first (backTo pos (starEach [] X.env)) (backToKw pos (keywordEach [] X.env))) := by rfl) :
  PE X (.Call (.Attribute o m apos) [] [] pos) (eR D m sp [] E ta fW) := by
 obtain ⟨f,fd,F,a,b⟩ := M.ex
 exact qN ho c a F hr b .nil hx ht
def sT (K : PySem.W.Frag) (D : Addr) : Sp := fun args H Q _=>∃ dk dx,args = [.ref dk] ∧ H dk = some (.ins D dx []) ∧ ∀ H' ll lr,H ll = none → H lr = none → Grow dk H H' → DO K H' D dk dx ll lr [] [] → Q .non H'
theorem AA9 (F : Fun K "__init__" "Desk.__init__" dQ f fd) (c : DC K D) : FnOk P w K mg base K3 1 f fd ["self"] (sT K D) := by
 refine F.ok AI3 (fun vs H Q E h=>?_) (fun cdv A outer s H vs Q E hr h=>?_)
 ·obtain ⟨dk,dx,rfl,_⟩ := h
  rfl
 obtain ⟨dk,dx,rfl,hob,q⟩ := h
 refine ⟨_,B2 (lK (pv 0) (J0 B0) rfl) (B4 (lK (pv 0) (J0 B0) rfl)),?_⟩
 refine ⟨Y0,fun ll hll=>⟨_,rfl,dk,D,dx,_,rfl,B8 hll _ _ _ hob,c.cl,c.nl,by decide,?_⟩⟩
 have n1 : ll ≠ dk := Ne.symm (C0 hob hll)
 refine ⟨Y0,fun lr hlr=>?_⟩
 have n2 : lr ≠ dk := fun e=>by rw [e,B1] at hlr; cases hlr
 have n3 : lr ≠ ll := fun e=>by rw [e,B5 n1,B1] at hlr; cases hlr
 have hlr0 : H lr = none := by rw [B5 n2,B5 n3] at hlr; exact hlr
 refine ⟨_,rfl,dk,D,dx,_,rfl,by rw [B5 (Ne.symm n2)]; exact B1,c.cl,c.nk,(by show 1 < 1000; decide),?_⟩
 refine q _ ll lr hll hlr0 (fun b o hb h=>?_) ⟨B1,?_,⟨[],?_,TAll.nil⟩,Ne.symm n3⟩
 ·rw [B5 hb,B5 (C0 h hlr0),B5 hb,B5 (C0 h hll)]; exact h
 ·rw [B5 n1,B5 (Ne.symm n3),B5 n1,B1]; rfl
 ·rw [B5 n2,B1]
def mT (K : PySem.W.Frag) (D : Addr) : Sp := fun args H Q _=>∃ dk dx ll lr ls ts,args = [.ref dk] ∧ DO K H D dk dx ll lr ls ts ∧ ∀ l,H l = none → Q (.ref l) (B6 H l (.lst (ST ls)))
theorem AA8 (F : Fun K "rows" "Desk.rows" dO f fd) (c : DC K D) (m1 : mg "list" = none) : FnOk P w K mg base K3 1 f fd ["self"] (mT K D) := by
 refine F.ok AI2 (fun vs H Q E h=>?_) (fun cdv A outer s H vs Q E hr h=>?_)
 ·obtain ⟨dk,dx,ll,lr,ls,ts,rfl,_⟩ := h
  rfl
 obtain ⟨dk,dx,ll,lr,ls,ts,rfl,h,q⟩ := h
 refine ⟨_,B4 (D4 (N9 bU rfl m1 jK (A9 (V0 (pv 0) rfl) B0))),?_⟩
 exact ⟨_,rfl,dk,D,dx,_,_,rfl,h.ob,c.cl,c.nl,rfl,ll,_,rfl,.inl (SqL.of h.li),q⟩
def qG (K : PySem.W.Frag) (D N : Addr) : Sp := fun args H Q E=>∃ dk dx ll lr ls ts,∃ k : Int,args = [.ref dk,.int k] ∧ DO K H D dk dx ll lr ls ts ∧ ts.length = ls.length ∧ ls.length ≤ 20 ∧
 ((k < 0 ∨ (ls.length : Int) ≤ k) → E (.ref N) none H) ∧ ∀ j : Nat,k = (j : Int) → j < ls.length → ∀ H',vT ll lr H H' → DO K H' D dk dx ll lr (ls.eraseIdx j) (ts.eraseIdx j) → Q .non H'
theorem AL2 (F : Fun K "drop" "Desk.drop" iX f fd) (c : DC K D) (n : NX K mg "NoRow" N) (m1 : mg "len" = none) : FnOk P w K mg base (M0 P w) 1 f fd ["self","number"] (qG K D N) := by
 refine Fun.ok1 F AP6 (fun vs H Q E h=>?_) (fun cdv A outer s H vs Q E hr h=>?_)
 ·obtain ⟨dk,dx,ll,lr,ls,ts,k,rfl,_⟩ := h
  rfl
 obtain ⟨dk,dx,ll,lr,ls,ts,k,rfl,h,hlen,h20,q1,q2⟩ := h
 refine ⟨_,B2 (G3 (PW.pt (lI (E1 fC (pv 1) B7 (D9 _)) (lH (E1 AY7 (pv 1) (G1 K4 rfl m1 PySem.boot_len (A9 (V0 (pv 0) rfl) B0)) (D9 _))))) (B4 (R6 PySem.F.excBase_ValueError n.xc rfl n.mg (A9 B9 B0))) E4) E5,?_⟩
 refine ⟨_,rfl,_,_,rfl,rfl,_,rfl,R0 (fun c1=>E8 ⟨S4,q1 (.inl (of_decide_eq_true c1))⟩) (fun c1=>?_)⟩
 have c1 : ¬ k < 0 := fun z=>c1 (decide_eq_true z)
 refine ⟨_,rfl,_,rfl,dk,D,dx,_,_,rfl,h.ob,c.cl,c.nl,rfl,ll,_,rfl,.inl (SqL.of h.li),_,_,rfl,rfl,_,rfl,R0 (fun c2=>?_) (fun c2=>?_)⟩
 ·refine ⟨S4,q1 (.inr ?_)⟩
  have := of_decide_eq_true c2
  rw [List.length_map] at this
  exact this
 have c2 : k < ls.length := by
  refine Int.lt_of_not_ge fun z=>c2 (decide_eq_true ?_)
  rw [List.length_map]; exact z
 obtain ⟨j,rfl⟩ := Int.eq_ofNat_of_zero_le (show 0 ≤ k by omega)
 have hj : j < ls.length := by omega
 obtain ⟨vs,hlr,hts⟩ := h.ro
 have hvl := hts.length
 have sq : ∀ n,j < n → seqIndex? (j : Int) n = some j := fun n hn=>by
  unfold seqIndex?
  simp
  omega
 have n1 : dk ≠ ll := fun e=>by have := h.ob; rw [e,h.li] at this; cases this
 have n2 : dk ≠ lr := fun e=>by have := h.ob; rw [e,hlr] at this; cases this
 refine ⟨_,B2 (G4 (O0 PySem.F.plainAttrs_list PySem.F.slot_list_pop PySem.F.type_list_pop fJ (V0 (pv 0) rfl) (A9 (pv 1) B0)))
  (B4 (G4 (O0 PySem.F.plainAttrs_list PySem.F.slot_list_pop PySem.F.type_list_pop fJ (V0 (pv 0) rfl) (A9 (pv 1) B0)))),?_⟩
 refine ⟨_,rfl,dk,D,dx,_,_,rfl,h.ob,c.cl,c.nl,rfl,.inl ⟨rfl,_,SqL.of h.li⟩,_,rfl,ll,_,_,j,.str (S ls[j]),rfl,rfl,h.li,by omega,by omega,sq _ (by rw [List.length_map]; exact hj),by rw [List.getElem?_map,List.getElem?_eq_getElem hj]; rfl,?_⟩
 have hlr2 : B6 H ll (.lst ((ST ls).eraseIdx j)) lr = some (.lst vs) := by rw [B5 (Ne.symm h.ne)]; exact hlr
 have hvj : j < vs.length := by omega
 refine ⟨_,rfl,dk,D,dx,dkF ll lr,.ref lr,rfl,by rw [B5 n1]; exact h.ob,c.cl,c.nk,rfl,.inl ⟨rfl,_,SqL.of hlr2⟩,_,rfl,lr,_,_,j,vs[j],rfl,rfl,hlr2,by omega,by omega,sq _ hvj,List.getElem?_eq_getElem hvj,?_⟩
 refine q2 j rfl hj _ (fun b o h1 h2 hb=>by rw [B5 h2,B5 h1]; exact hb) ⟨by rw [B5 n2,B5 n1]; exact h.ob,?_,⟨_,B1,?_⟩,h.ne⟩
 ·rw [B5 h.ne,B1,hR]
 ·exact TAll.erase j (hts.kp ((Kp.lst h.li).trans (Kp.lst hlr2)))
def vU (K : PySem.W.Frag) (H : Hp) (v : V) : Prop := (∃ d,DV K H d v ∧ gZ d "str" = false) ∨ ∃ l,v = .str (S l) ∧ Bd l
def qD (K : PySem.W.Frag) (D C G : Addr) : Sp := fun args H Q E=>∃ dk dx ll lr ls ts rs v,args = [.ref dk,v] ∧ DO K H D dk dx ll lr ls ts ∧ GL ls ts rs ∧ ls.length ≤ 19 ∧
 ((vU K H v ∧ ∀ H',Same H H' → E (.ref C) none H') ∨ ∃ l t r,v = .str (S l) ∧ Gd l t r ∧ (NoR (rs ++ [r]) → ∀ H',vT ll lr H H' → DO K H' D dk dx ll lr (ls ++ [l]) (ts ++ [t]) → Q (.int (ls.length : Int)) H') ∧ ∀ p,IsR (rs ++ [r]) p → ∀ H',Same H H' → E (.ref G) none H')
theorem AJ7 (F : Fun K "tell" "Desk.tell" iL f fd) (c : DC K D) (ROW : K8 P w K mg base 38 "read_row" ["line"] (kX K C (aO (P6 6)))) (RFR : K8 P w K mg base 4 "refuse_ring" ["rows"] (uN K G)) (m1 : mg "len" = none) : FnOk P w K mg base (M0 P w) 39 f fd ["self","line"] (qD K D C G) := by
 refine Fun.ok1 F wJ (fun vs H Q E h=>?_) (fun cdv A outer s H vs Q E hr h=>?_)
 ·obtain ⟨dk,dx,ll,lr,ls,ts,rs,v,rfl,_⟩ := h
  rfl
 obtain ⟨dk,dx,ll,lr,ls,ts,rs,v,rfl,h,hgl,h19,hv⟩ := h
 have hr4 := hr.mono (show 4 ≤ 38 by decide)
 refine ⟨_,B2 (D3 (i := 2) wJ.nd rfl (Or.inl rfl) (J9 ROW hr rfl (G0 (E' := E) fun _ _ _ h=>h) (A9 (pv 1) B0))) E5,?_⟩
 rcases hv with ⟨hbad,q⟩ | ⟨l,t,r,rfl,hg,q1,q2⟩
 ·refine ⟨_,rfl,_,rfl,?_⟩
  rcases hbad with ⟨d,hd,hf⟩ | ⟨l,rfl,hs,hb⟩
  ·exact .inl ⟨d,hd,hf,q⟩
  ·refine .inr ⟨l,rfl,hs,?_⟩
   rcases hb with hb | ⟨ws,hw,wk,hr⟩
   ·exact .inl ⟨hb,q⟩
   ·exact .inr ⟨ws,none,hw,wk,hr,q⟩
 obtain ⟨ws,hw,wk,hrow⟩ := hg.rd
 refine ⟨_,rfl,_,rfl,.inr ⟨l,rfl,hg.sm,.inr ⟨ws,some t,hw,wk,hrow,fun u H1 g1 hu=>?_⟩⟩⟩
 have h1 := h.same g1
 obtain ⟨vs,hlr,hts⟩ := h1.ro
 have hlen := hgl.len
 have hvl := hts.length
 refine ⟨_,B2 (G4 (J9 RFR hr4 rfl (G0 (E' := E) fun _ _ _ h=>h) (A9 (G9 wY (V0 (pv 0) rfl) (J0 (A9 (pv 2) B0))) B0))) E5,?_⟩
 refine ⟨_,rfl,dk,D,dx,_,_,rfl,h1.ob,c.cl,c.nk,rfl,_,rfl,S4,fun l1 hl1=>?_⟩
 have e1 := B8 hl1 (.lst [u])
 refine ⟨lr,l1,_,_,rfl,rfl,e1 _ _ hlr,B1,Nat.le_of_lt (Q7 (by simp; omega)),fun l2 hl2=>?_⟩
 have e2 := B8 hl2 (.lst (vs ++ [u]))
 have e12 := e1.trans e2
 have hpair : Paired (yW K (B6 (B6 H1 l1 (.lst [u])) l2 (.lst (vs ++ [u])))) (vs ++ [u]) (rs ++ [r]) := vH (hgl.snoc hg) ((hts.kp (Kp.same e12)).append (TAll.one (TV.kp (Kp.same e12) hu)))
 refine ⟨l2,vs ++ [u],rs ++ [r],rfl,B1,hpair,by rw [List.length_append]; simp; omega,fun H3 g3 hno=>?_,fun H3 p g3 hring=>q2 p hring H3 (g1.trans (e12.trans g3))⟩
 have g13 := g1.trans (e12.trans g3)
 have h3 := h.same g13
 have hu3 := TV.kp (Kp.same (e12.trans g3)) hu
 obtain ⟨vs3,hlr3,hts3⟩ := h3.ro
 have hvl3 := hts3.length
 have n1 : dk ≠ ll := fun e=>by have := h3.ob; rw [e,h3.li] at this; cases this
 have n2 : dk ≠ lr := fun e=>by have := h3.ob; rw [e,hlr3] at this; cases this
 refine ⟨_,B2 (G4 (O0 PySem.F.plainAttrs_list PySem.F.slot_list_append PySem.F.type_list_append J7 (V0 (pv 0) rfl) (A9 (pv 1) B0)))
  (B2 (G4 (O0 PySem.F.plainAttrs_list PySem.F.slot_list_append PySem.F.type_list_append J7 (V0 (pv 0) rfl) (A9 (pv 2) B0)))
  (B4 (D4 (G9 dY (G1 K4 rfl m1 PySem.boot_len (A9 (V0 (pv 0) rfl) B0)) B7)))),?_⟩
 refine ⟨_,rfl,dk,D,dx,_,_,rfl,h3.ob,c.cl,c.nl,rfl,.inl ⟨rfl,_,SqL.of h3.li⟩,_,rfl,ll,_,_,rfl,rfl,h3.li,Q7 (by rw [List.length_map]; omega),?_⟩
 have hlr4 : B6 H3 ll (.lst (ST ls ++ [.str (S l)])) lr = some (.lst vs3) := by rw [B5 (Ne.symm h.ne)]; exact hlr3
 refine ⟨_,rfl,dk,D,dx,dkF ll lr,.ref lr,rfl,by rw [B5 n1]; exact h3.ob,c.cl,c.nk,rfl,.inl ⟨rfl,_,SqL.of hlr4⟩,_,rfl,lr,_,_,rfl,rfl,hlr4,Q7 (by omega),?_⟩
 have hll5 : B6 (B6 H3 ll (.lst (ST ls ++ [.str (S l)]))) lr (.lst (vs3 ++ [u])) ll = some (.lst (ST (ls ++ [l]))) := by rw [B5 h.ne,B1]; simp [ST]
 have hob5 : B6 (B6 H3 ll (.lst (ST ls ++ [.str (S l)]))) lr (.lst (vs3 ++ [u])) dk = some (.ins D dx (dkF ll lr)) := by rw [B5 n2,B5 n1]; exact h3.ob
 refine ⟨_,rfl,dk,D,dx,_,_,rfl,hob5,c.cl,c.nl,rfl,ll,_,rfl,.inl (SqL.of hll5),_,_,rfl,rfl,?_⟩
 have kk := (Kp.lst (K := K) (o := .lst (ST ls ++ [.str (S l)])) h3.li).trans (Kp.lst (K := K) (o := .lst (vs3 ++ [u])) hlr4)
 have fin := q1 hno _ (fun b o hb1 hb2 hb=>by rw [B5 hb2,B5 hb1]; exact g13 _ _ hb) (⟨hob5,hll5,⟨_,B1,(hts3.kp kk).append (TAll.one (TV.kp kk hu3))⟩,h.ne⟩ : DO K _ D dk dx ll lr (ls ++ [l]) (ts ++ [t]))
 show Q (V.int ((((ST (ls ++ [l])).length : Nat) : Int) - 1)) _
 rw [List.length_map,List.length_append,List.length_singleton,show ((ls.length + 1 : Nat) : Int) - 1 = (ls.length : Int) by omega]
 exact fin
end
end Law
namespace Law
open PySem L2 L2.Sp
theorem AG3 (a b : List Nat) : (S a ++ S b : Str) = S (a ++ b) := by
 show (⟨a.toArray ++ b.toArray⟩ : Str) = ⟨(a ++ b).toArray⟩
 simp
theorem yV {a b : List Nat} (h : a.length + b.length ≤ 100000) : (S a).length + (S b).length ≤ sizeLine := by rw [O2,O2]; have : sizeLine = 16777216 := sizeLine_eq; omega
theorem AU9 {α : Type} {xs : List α} {r : Int} (h0 : 0 ≤ r) (h1 : r < xs.length) : ∃ x,x ∈ xs ∧ cU xs r = some x := by
 obtain ⟨k,rfl⟩ := Int.eq_ofNat_of_zero_le h0
 have hk : k < xs.length := by omega
 exact ⟨xs[k],List.getElem_mem hk,G2 (List.getElem?_eq_getElem hk)⟩
theorem vR {xs : List Wd} {r : Int} (h0 : 0 ≤ r) (h1 : r < xs.length) : ∃ x,x ∈ xs ∧ cU (ST xs) r = some (.str (S x)) := by
 obtain ⟨k,rfl⟩ := Int.eq_ofNat_of_zero_le h0
 have hk : k < xs.length := by omega
 exact ⟨xs[k],List.getElem_mem hk,G2 (by rw [List.getElem?_map,List.getElem?_eq_getElem hk]; rfl)⟩
structure DS (st : Addr) (H0 H : Hp) : Prop where
 g : Grow st H0 H
 s : ∃ y : Int,H st = some (.lst [.int y])
 b : ∃ x : Int,H0 st = some (.lst [.int x])
section
variable {K : PySem.W.Frag} {H0 H H' : Hp} {st l : Addr} {o : HO}
theorem DS.start {x : Int} (h : H st = some (.lst [.int x])) : DS st H H := ⟨Grow.refl,⟨x,h⟩,⟨x,h⟩⟩
theorem DS.same (d : DS st H0 H) (g : Same H H') : DS st H0 H' := ⟨fun b o hb h=>g _ _ (d.g b o hb h),by obtain ⟨y,h⟩ := d.s; exact ⟨y,g _ _ h⟩,d.b⟩
theorem DS.more (d : DS st H0 H) (d' : DS st H H') : DS st H0 H' := ⟨d.g.trans d'.g,d'.s,d.b⟩
theorem DS.next (d : DS st H0 H) (y : Int) : DS st H0 (B6 H st (.lst [.int y])) := ⟨d.g.trans bS,⟨y,B1⟩,d.b⟩
theorem DS.old (d : DS st H0 H) (hl : H l = none) : H0 l = none := by
 cases e : H0 l with
 | none=>rfl
 | some o =>
  by_cases e2 : l = st
  ·obtain ⟨y,h⟩ := d.s; rw [e2,h] at hl; cases hl
  ·rw [d.g l o e2 e] at hl; cases hl
theorem DS.ne (d : DS st H0 H) (hl : H0 l = none) : l ≠ st := fun e=>by obtain ⟨x,h⟩ := d.b; rw [← e,hl] at h; cases h
theorem DS.put (d : DS st H0 H) (hl : H0 l = none) : DS st H0 (B6 H l o) := by
 have n := d.ne hl
 exact ⟨fun b u hb h=>by rw [B5 (C0 h hl)]; exact d.g b u hb h,by obtain ⟨y,h⟩ := d.s; exact ⟨y,by rw [B5 (Ne.symm n)]; exact h⟩,d.b⟩
theorem DS.kp (d : DS st H0 H) : Kp K H0 H := by
 obtain ⟨x,h⟩ := d.b
 exact Grow.tups d.g (fun xs z=>by rw [h] at z; cases z) (fun xs o z=>by rw [h] at z; cases z)
end
section
variable {P : Program} {w : World} {K : PySem.W.Frag} {mg : Str → Option Value} {base : Heap} {f : Addr} {fd : FuncData}
abbrev iQ : Stmt := O5 50
theorem AP1 : D7 ["_law_state","_law_many"] ["_law_state","_law_many"] (B3 iQ) := ⟨rfl,rfl,rfl,by decide +kernel,rfl,by decide +kernel,by decide +kernel⟩
def bD : Sp := fun vs H Q _=>∃ (st : Addr) (x m : Int),vs = [.ref st,.int m] ∧ H st = some (.lst [.int x]) ∧ 0 < m ∧ ∀ y r : Int,0 ≤ r → r < m → Q (.int r) (B6 H st (.lst [.int y]))
theorem AK3 (F : Fun K "_law_next" "_law_next" iQ f fd) : FnOk P w K mg base K3 1 f fd ["_law_state","_law_many"] bD := by
 refine F.ok AP1 (fun vs H Q E h=>?_) (fun cdv A outer s H vs Q E hr h=>?_)
 ·obtain ⟨st,x,m,rfl,_⟩ := h
  rfl
 obtain ⟨st,x,m,rfl,hs,hm,q⟩ := h
 refine ⟨_,B2 (AQ1 (G9 gO (G9 U0 (G9 gN (G5 K5 (pv 0) B7 (fun _ _=>rfl)) B7) B7) (G9 dY (G9 gK B7 B7) B7)) (AQ3 (pv 0) B7 zH))
  (B4 (D4 (G9 gO (G9 tJ (G5 K5 (pv 0) B7 (fun _ _=>rfl)) B7) (pv 1)))),?_⟩
 refine ⟨_,rfl,st,_,_,_,rfl,rfl,SqL.of hs,rfl,_,_,rfl,rfl,.inr ⟨by decide,by decide⟩,_,_,rfl,rfl,_,_,rfl,rfl,⟨by decide,by decide,by decide⟩,_,_,rfl,rfl,_,_,rfl,rfl,(by show (0 : Int) < 2 ^ Int.toNat 61 - 1; decide),?_⟩
 refine ⟨_,rfl,st,_,_,_,rfl,rfl,hs,rfl,?_⟩
 refine ⟨_,rfl,st,_,_,_,rfl,rfl,SqL.of B1,rfl,_,_,rfl,rfl,⟨by decide,by decide⟩,_,rfl,_,_,rfl,rfl,hm,?_⟩
 exact q _ _ (Int.emod_nonneg _ (by omega)) (Int.emod_lt_of_pos _ hm)
def rC : List Nat := [97,98,99,100,101,102,103,104,105,106,107,108,109,110,111,112,113,114,115,116,117,118,119,120,121,122]
theorem AZ2 : (Str.ofString "abcdefghijklmnopqrstuvwxyz" : Str) = S rC := by decide +kernel
theorem AS5 : ∀ c ∈ rC,P4 c = true := by decide
end
def SE (X : Cx) (σ : St) (e : Expr) (l : List Nat) (n : Nat) : Prop := l.length ≤ n ∧ ∃ t,PE X e t ∧ ∀ (H : Hp) (Q : VK),Q (.str (S l)) H → t σ H Q
section
variable {X : Cx} {σ : St}
theorem SE.lit {x : Str} {l : List Nat} {n : Nat} {j} {p : Pos} (h : x = S l) (hn : l.length ≤ n) : SE X σ (.Constant (.str x) j p) l n := by
 subst h
 exact ⟨hn,_,B9,fun H Q q=>q⟩
theorem SE.var (i : Nat) {x : Str} {p : Pos} {l : List Nat} {n : Nat} (hi : σ[i]? = some (some (.str (S l)))) (hn : l.length ≤ n) (hN : X.N[i]? = some x := by rfl) (hv : rV X.env.scope x := by first | exact Or.inl rfl | exact Or.inr (Or.inl rfl) | exact Or.inr (Or.inr rfl)) (hd : (x == ("__debug__" : Str)) = false := by decide)
  (hcd : (x == ("__classdict__" : Str)) = false := by decide) : SE X σ (.Name x p) l n := ⟨hn,_,pv i hN hv hd hcd,fun H Q q=>⟨_,hi,q⟩⟩
theorem SE.add {a b : Expr} {pos : Pos} {la lb : List Nat} {n m : Nat} (ha : SE X σ a la n) (hb : SE X σ b lb m) (h : n + m ≤ 100000) : SE X σ (.BinOp a .Add b pos) (la ++ lb) (n + m) := by
 obtain ⟨h1,ta,pa,qa⟩ := ha
 obtain ⟨h2,tb,pb,qb⟩ := hb
 exact ⟨by rw [List.length_append]; omega,_,G9 lN pa pb,fun H Q q=>qa H _ (qb H _ ⟨_,_,rfl,rfl,yV (by omega),by rw [AG3]; exact q⟩)⟩
theorem SE.any {e : Expr} {l : List Nat} {n : Nat} {H : Hp} {Q : VK} (h : SE X σ e l n) (q : Q (.str (S l)) H) : AV1 X e σ H Q := by
 obtain ⟨_,t,p,k⟩ := h
 exact ⟨t,p,k H Q q⟩
def SA (X : Cx) (σ : St) (es : List Expr) (ls : List (List Nat)) : Prop := ∃ t,PA X es t ∧ ∀ (H : Hp) (Q : List V → Hp → Prop),Q (ST ls) H → t σ H Q
theorem SA.nil : SA X σ [] [] := ⟨_,B0,fun H Q q=>q⟩
theorem SA.cons {e : Expr} {es : List Expr} {l : List Nat} {n : Nat} {ls : List (List Nat)} (ha : SE X σ e l n) (hr : SA X σ es ls) (hs : starEach (e :: es) X.env = (false,eval e X.env) :: starEach es X.env := by rfl) : SA X σ (e :: es) (l :: ls) := by
 obtain ⟨_,ta,pa,qa⟩ := ha
 obtain ⟨t,pt,ht⟩ := hr
 exact ⟨_,A9 pa pt hs,fun H Q q=>qa H _ (ht H _ q)⟩
theorem SA.any {es : List Expr} {ls : List (List Nat)} {H : Hp} {Q : List V → Hp → Prop} (h : SA X σ es ls) (q : Q (ST ls) H) : AV2 X es σ H Q := by
 obtain ⟨t,pt,ht⟩ := h
 exact ⟨t,pt,ht H Q q⟩
end
theorem AS4 {i : Int} (h : iB i) : i.natAbs.log2 < 1920 := by
 rcases Nat.eq_zero_or_pos i.natAbs with e | e
 ·rw [e]; decide
 ·rw [Nat.log2_lt (by omega)]
  exact Nat.lt_trans h (by decide)
section
variable {P : Program} {w : World} {K : PySem.W.Frag} {mg : Str → Option Value} {base : Heap} {f : Addr} {fd : FuncData}
abbrev nG : Stmt := O5 52
theorem cB : D7 ["_law_state","_law_names","_law_one","_law_two","_law_three","_law_number","_law_some"] ["_law_state","_law_names"] (B3 nG) := ⟨rfl,rfl,rfl,by decide +kernel,rfl,by decide +kernel,by decide +kernel⟩
structure Pl (ns : List Wd) : Prop where
 n : ns.length = 3
 ok : ∀ n ∈ ns,PN n
def uZ (one two three : Wd) (i : Int) : List (List Nat) := [L0 one i,L1 one two i,W4 one two,L3 one two three,L4 one two three i,L5 one two three,L6 one two three,L7 one two three,L8 one i]
theorem AL9 {one two three : Wd} {i : Int} (h1 : PN one) (h2 : PN two) (h3 : PN three) (hi : iB i) : ∀ l ∈ uZ one two three i,∃ t r,Gd l t r := by
 intro l hl
 simp only [uZ,List.mem_cons,List.not_mem_nil,or_false] at hl
 rcases hl with rfl | rfl | rfl | rfl | rfl | rfl | rfl | rfl | rfl
 ·exact gd0 h1 hi
 ·exact gd1 h1 h2 hi
 ·exact gd2 h1 h2
 ·exact gd3 h1 h2 h3
 ·exact gd4 h1 h2 h3 hi
 ·exact gd5 h1 h2 h3
 ·exact gd6 h1 h2 h3
 ·exact gd7 h1 h2 h3
 ·exact gd8 h1 hi
def uP : Sp := fun args H Q _=>∃ (st ln : Addr) (x : Int) (ns : List Wd),args = [.ref st,.ref ln] ∧ H st = some (.lst [.int x]) ∧ H ln = some (.lst (ST ns)) ∧ ln ≠ st ∧ Pl ns ∧ ∀ (H' : Hp) (l : List Nat),DS st H H' → (∃ t r,Gd l t r) → Q (.str (S l)) H'
theorem q0 : (Str.ofString ": " : Str) = S [58,32] := by decide +kernel
theorem q1 : (Str.ofString "." : Str) = S [46] := by decide +kernel
theorem q2 : (Str.ofString ":" : Str) = S [58] := by decide +kernel
theorem q3 : (Str.ofString ".." : Str) = S [46,46] := by decide +kernel
theorem q4 : (Str.ofString ": @" : Str) = S [58,32,64] := by decide +kernel
theorem q5 : (Str.ofString ":@" : Str) = S [58,64] := by decide +kernel
theorem q6 : (Str.ofString " .  " : Str) = S [32,46,32,32] := by decide +kernel
theorem q7 : (Str.ofString " | text" : Str) = S [32,124,32,116,101,120,116] := by decide +kernel
theorem q8 : (Str.ofString " . " : Str) = S [32,46,32] := by decide +kernel
theorem q9 : (Str.ofString " : {" : Str) = S [32,58,32,123] := by decide +kernel
theorem gH : (Str.ofString " ?: any , ..} else none" : Str) = S [32,63,58,32,97,110,121,32,44,32,46,46,125,32,101,108,115,101,32,110,111,110,101] := by decide +kernel
theorem wR : (Str.ofString ": \"else: @" : Str) = S [58,32,34,101,108,115,101,58,32,64] := by decide +kernel
theorem q12 : (Str.ofString "\" | [..] else @" : Str) = S [34,32,124,32,91,46,46,93,32,101,108,115,101,32,64] := by decide +kernel
theorem q13 : (Str.ofString "  " : Str) = S [32,32] := by decide +kernel
theorem q14 : (Str.ofString ":  !(" : Str) = S [58,32,32,33,40] := by decide +kernel
theorem q15 : (Str.ofString " | text)  " : Str) = S [32,124,32,116,101,120,116,41,32,32] := by decide +kernel
theorem AR9 (F : Fun K "_law_line" "_law_line" nG f fd) (NX' : Cal P w K mg base 1 "_law_next" ["_law_state","_law_many"] bD) (m1 : mg "str" = none) : FnOk P w K mg base K3 2 f fd ["_law_state","_law_names"] uP := by
 refine F.ok cB (fun vs H Q E h=>?_) (fun cdv A outer s H vs Q E hr h=>?_)
 ·obtain ⟨st,ln,x,ns,rfl,_⟩ := h
  rfl
 obtain ⟨st,ln,x,ns,rfl,hs,hln,nls,hns,q⟩ := h
 have D0 := DS.start hs
 have eY : ∀ {r : Int},0 ≤ r → r < 3 → ∃ n,PN n ∧ cU (ST ns) r = some (.str (S n)) := fun {r} h0 h1=>by
  obtain ⟨n,hm,hat⟩ := vR (xs := ns) h0 (by rw [hns.n]; exact h1)
  exact ⟨n,hns.ok n hm,hat⟩
 refine ⟨_,B2 (D3 (i := 2) cB.nd rfl (Or.inl rfl) (G5 K5 (pv 1) (E3 NX' hr rfl (A9 (pv 0) (A9 B7 B0))) (fun _ _=>rfl)))
  (B2 (D3 (i := 3) cB.nd rfl (Or.inl rfl) (G5 K5 (pv 1) (E3 NX' hr rfl (A9 (pv 0) (A9 B7 B0))) (fun _ _=>rfl)))
  (B2 (D3 (i := 4) cB.nd rfl (Or.inl rfl) (G5 K5 (pv 1) (E3 NX' hr rfl (A9 (pv 0) (A9 B7 B0))) (fun _ _=>rfl))) E5)),?_⟩
 refine ⟨_,rfl,_,rfl,st,x,3,rfl,hs,by decide,fun y1 r1 a0 a1=>?_⟩
 have d1 := D0.next y1
 obtain ⟨one,h1,yS⟩ := eY a0 a1
 refine ⟨ln,_,_,_,rfl,rfl,SqL.of (d1.g _ _ nls hln),yS,?_⟩
 obtain ⟨z1,hz1⟩ := d1.s
 refine ⟨_,rfl,_,rfl,st,z1,3,rfl,hz1,by decide,fun y2 r2 b0 b1=>?_⟩
 have d2 := d1.next y2
 obtain ⟨two,h2,pH⟩ := eY b0 b1
 refine ⟨ln,_,_,_,rfl,rfl,SqL.of (d2.g _ _ nls hln),pH,?_⟩
 obtain ⟨z2,hz2⟩ := d2.s
 refine ⟨_,rfl,_,rfl,st,z2,3,rfl,hz2,by decide,fun y3 r3 c0 c1=>?_⟩
 have d3 := d2.next y3
 obtain ⟨three,h3,at3⟩ := eY c0 c1
 refine ⟨ln,_,_,_,rfl,rfl,SqL.of (d3.g _ _ nls hln),at3,?_⟩
 generalize B6 (B6 (B6 H st (.lst [.int y1])) st (.lst [.int y2])) st (.lst [.int y3]) = H3 at d3 ⊢
 obtain ⟨z3,hz3⟩ := d3.s
 refine ⟨_,B2 (D3 (i := 5) cB.nd rfl (Or.inl rfl) (N9 yI rfl m1 rR (A9 (G9 gN (G9 dY (E3 NX' hr rfl (A9 (pv 0) (A9 B7 B0))) B7) (G5 K5 (J0 (A9 B7 (A9 (G9 gK B7 B7) (A9 (G9 gK B7 B7) B0)))) (E3 NX' hr rfl (A9 (pv 0) (A9 B7 B0))) (fun _ _=>rfl))) B0))) E5,?_⟩
 refine ⟨_,rfl,st,z3,9,rfl,hz3,by decide,fun y4 r4 e0 e1=>?_⟩
 have d4 := d3.next y4
 refine ⟨_,_,rfl,rfl,_,_,rfl,rfl,⟨by decide,by decide,by decide⟩,_,_,rfl,rfl,⟨by decide,by decide,by decide⟩,bQ,fun l1 hl1=>?_⟩
 have d5 := d4.same (B8 hl1 (.lst [.int 1,.int (10 ^ Int.toNat 20),.int (10 ^ Int.toNat 40)]))
 obtain ⟨z5,hz5⟩ := d5.s
 have nl1 : l1 ≠ st := by obtain ⟨z,hz⟩ := d4.s; exact Ne.symm (C0 hz hl1)
 refine ⟨_,rfl,st,z5,3,rfl,hz5,by decide,fun y6 r6 g0 g1=>?_⟩
 have d6 := d5.next y6
 obtain ⟨mu,hmu,hat⟩ : ∃ mu : Int,(0 ≤ mu ∧ mu ≤ 10 ^ 40) ∧ cU [V.int 1,.int (10 ^ Int.toNat 20),.int (10 ^ Int.toNat 40)] r6 = some (.int mu) := by
  have : r6 = 0 ∨ r6 = 1 ∨ r6 = 2 := by omega
  rcases this with rfl | rfl | rfl
  ·exact ⟨_,⟨by decide,by decide⟩,rfl⟩
  ·exact ⟨_,⟨by decide,by decide⟩,rfl⟩
  ·exact ⟨_,⟨by decide,by decide⟩,rfl⟩
 have hio : iB ((r4 - 4) * mu) := by
  show ((r4 - 4) * mu).natAbs < 10 ^ 53
  have h1 : (r4 - 4).natAbs ≤ 4 := by omega
  have h2 : mu.natAbs ≤ 10 ^ 40 := by omega
  rw [Int.natAbs_mul]
  exact Nat.lt_of_le_of_lt (Nat.mul_le_mul h1 h2) (by decide)
 refine ⟨l1,_,_,.int mu,rfl,rfl,SqL.of (by rw [B5 nl1]; exact B1),hat,_,_,rfl,rfl,.inl ⟨by omega,by omega⟩,_,rfl,AS4 hio,?_⟩
 have hlog := hio
 generalize (r4 - 4) * mu = i at hio hlog ⊢
 rw [← AV4]
 obtain ⟨z6,hz6⟩ := d6.s
 generalize B6 (B6 (B6 H3 st (.lst [.int y4])) l1 (.lst [.int 1,.int (10 ^ Int.toNat 20),.int (10 ^ Int.toNat 40)])) st (.lst [.int y6]) = H6 at d6 hz6 ⊢
 have b1' : one.length ≤ 6 := h1.len
 have b2' : two.length ≤ 6 := h2.len
 have b3' : three.length ≤ 6 := h3.len
 have b4' : (M7 i).length ≤ 54 := qU hio
 refine ⟨_,B2 (D3 (i := 6) cB.nd rfl (Or.inl rfl) (J0 dX)) E5,?_⟩
 refine SA.any (ls := [L0 one i,L1 one two i,W4 one two]) ?sa ?_
 case sa=>exact SA.cons (((SE.var 2 rfl b1').add (SE.lit q0 (n := 2) (by decide)) (by decide)).add (SE.var 5 rfl b4') (by decide)) (SA.cons ((((((SE.var 2 rfl b1').add (SE.lit q1 (n := 1) (by decide)) (by decide)).add (SE.var 3 rfl b2') (by decide)).add (SE.lit q2 (n := 1) (by decide)) (by decide)).add (SE.var 5 rfl b4') (by decide)).add (SE.lit q3 (n := 2) (by decide)) (by decide)) (SA.cons (((SE.var 2 rfl b1').add (SE.lit q4 (n := 3) (by decide)) (by decide)).add (SE.var 3 rfl b2') (by decide)) SA.nil))
 refine ⟨bQ,fun ls hls=>?_⟩
 have nls' : ls ≠ st := Ne.symm (C0 hz6 hls)
 have hls0 : H ls = none := d6.old hls
 have d7 := d6.put (o := .lst (ST [L0 one i,L1 one two i,W4 one two])) hls0
 have hls7 : B6 H6 ls (.lst (ST [L0 one i,L1 one two i,W4 one two])) ls = some (.lst (ST [L0 one i,L1 one two i,W4 one two])) := B1
 generalize B6 H6 ls (.lst (ST [L0 one i,L1 one two i,W4 one two])) = H7 at d7 hls7 ⊢
 refine ⟨_,B2 (G4 (O0 PySem.F.plainAttrs_list PySem.F.slot_list_append PySem.F.type_list_append J7 (pv 6) (A9 gI B0)))
  (B2 (G4 (O0 PySem.F.plainAttrs_list PySem.F.slot_list_append PySem.F.type_list_append J7 (pv 6) (A9 gI B0))) E5),?_⟩
 refine ⟨_,rfl,.inl ⟨rfl,_,SqL.of hls7⟩,?_⟩
 dsimp only [pK,fW]
 refine SE.any (l := L3 one two three) (n := 21) ?se ⟨ls,_,_,rfl,rfl,hls7,Q7 (by simp),?_⟩
 case se=>exact (((((SE.var 2 rfl b1').add (SE.lit q5 (n := 2) (by decide)) (by decide)).add (SE.var 3 rfl b2') (by decide)).add (SE.lit q1 (n := 1) (by decide)) (by decide)).add (SE.var 4 rfl b3') (by decide))
 have d8 := d7.put (o := .lst (ST [L0 one i,L1 one two i,W4 one two] ++ [.str (S (L3 one two three))])) hls0
 have hls8 : B6 H7 ls (.lst (ST [L0 one i,L1 one two i,W4 one two] ++ [.str (S (L3 one two three))])) ls = some (.lst (ST [L0 one i,L1 one two i,W4 one two,L3 one two three])) := B1
 generalize B6 H7 ls (.lst (ST [L0 one i,L1 one two i,W4 one two] ++ [.str (S (L3 one two three))])) = H8 at d8 hls8 ⊢
 refine ⟨_,rfl,.inl ⟨rfl,_,SqL.of hls8⟩,?_⟩
 dsimp only [pK,fW]
 refine SE.any (l := L4 one two three i) (n := 93) ?se ⟨ls,_,_,rfl,rfl,hls8,Q7 (by simp),?_⟩
 case se=>exact ((((((((((SE.var 2 rfl b1').add (SE.lit q1 (n := 1) (by decide)) (by decide)).add (SE.var 3 rfl b2') (by decide)).add (SE.lit q1 (n := 1) (by decide)) (by decide)).add (SE.var 4 rfl b3') (by decide)).add (SE.lit q6 (n := 4) (by decide)) (by decide)).add (SE.var 2 rfl b1') (by decide)).add (SE.lit q0 (n := 2) (by decide)) (by decide)).add (SE.var 5 rfl b4') (by decide)).add (SE.lit q7 (n := 7) (by decide)) (by decide))
 have d9 := d8.put (o := .lst (ST [L0 one i,L1 one two i,W4 one two,L3 one two three] ++ [.str (S (L4 one two three i))])) hls0
 have hls9 : B6 H8 ls (.lst (ST [L0 one i,L1 one two i,W4 one two,L3 one two three] ++ [.str (S (L4 one two three i))])) ls = some (.lst (ST [L0 one i,L1 one two i,W4 one two,L3 one two three,L4 one two three i])) := B1
 generalize B6 H8 ls (.lst (ST [L0 one i,L1 one two i,W4 one two,L3 one two three] ++ [.str (S (L4 one two three i))])) = H9 at d9 hls9 ⊢
 refine ⟨_,B2 (X9 (i := 6) cB.nd rfl (Or.inl rfl) (J0 dX) hJ)
  (B2 (X9 (i := 6) cB.nd rfl (Or.inl rfl) (J0 dX) hJ) E5),?_⟩
 dsimp only [qA,qC]
 refine ⟨_,rfl,SA.any (ls := [L5 one two three,L6 one two three]) ?sa ?_⟩
 case sa=>exact SA.cons (((((SE.var 2 rfl b1').add (SE.lit q1 (n := 1) (by decide)) (by decide)).add (SE.var 3 rfl b2') (by decide)).add (SE.lit q4 (n := 3) (by decide)) (by decide)).add (SE.var 4 rfl b3') (by decide)) (SA.cons ((((((SE.var 2 rfl b1').add (SE.lit q8 (n := 3) (by decide)) (by decide)).add (SE.var 3 rfl b2') (by decide)).add (SE.lit q9 (n := 4) (by decide)) (by decide)).add (SE.var 4 rfl b3') (by decide)).add (SE.lit gH (n := 23) (by decide)) (by decide)) SA.nil)
 refine ⟨Q6,fun l2 hl2=>?_⟩
 have e2 := B8 hl2 (.lst (ST [L5 one two three,L6 one two three]))
 refine ⟨ls,l2,_,_,rfl,rfl,e2 _ _ hls9,B1,by show 7 ≤ sizeLine; decide,?_⟩
 have d10 := (d9.same e2).put (o := .lst (ST [L0 one i,L1 one two i,W4 one two,L3 one two three,L4 one two three i] ++ ST [L5 one two three,L6 one two three])) hls0
 generalize hH10 : B6 (B6 H9 l2 (.lst (ST [L5 one two three,L6 one two three]))) ls (.lst (ST [L0 one i,L1 one two i,W4 one two,L3 one two three,L4 one two three i] ++ ST [L5 one two three,L6 one two three])) = H10 at d10 ⊢
 have hls10 : H10 ls = some (.lst (ST [L0 one i,L1 one two i,W4 one two,L3 one two three,L4 one two three i,L5 one two three,L6 one two three])) := by rw [← hH10]; exact B1
 refine ⟨_,rfl,SA.any (ls := [L7 one two three,L8 one i]) ?sa ?_⟩
 case sa=>exact SA.cons (((((SE.var 2 rfl b1').add (SE.lit wR (n := 10) (by decide)) (by decide)).add (SE.var 3 rfl b2') (by decide)).add (SE.lit q12 (n := 15) (by decide)) (by decide)).add (SE.var 4 rfl b3') (by decide)) (SA.cons (((((SE.lit q13 (n := 2) (by decide)).add (SE.var 2 rfl b1') (by decide)).add (SE.lit q14 (n := 5) (by decide)) (by decide)).add (SE.var 5 rfl b4') (by decide)).add (SE.lit q15 (n := 10) (by decide)) (by decide)) SA.nil)
 refine ⟨Q6,fun l3 hl3=>?_⟩
 have e3 := B8 hl3 (.lst (ST [L7 one two three,L8 one i]))
 refine ⟨ls,l3,_,_,rfl,rfl,e3 _ _ hls10,B1,by show 9 ≤ sizeLine; decide,?_⟩
 have d11 := (d10.same e3).put (o := .lst (ST [L0 one i,L1 one two i,W4 one two,L3 one two three,L4 one two three i,L5 one two three,L6 one two three] ++ ST [L7 one two three,L8 one i])) hls0
 generalize hH11 : B6 (B6 H10 l3 (.lst (ST [L7 one two three,L8 one i]))) ls (.lst (ST [L0 one i,L1 one two i,W4 one two,L3 one two three,L4 one two three i,L5 one two three,L6 one two three] ++ ST [L7 one two three,L8 one i])) = H11 at d11 ⊢
 have hls11 : H11 ls = some (.lst (ST (uZ one two three i))) := by rw [← hH11]; exact B1
 refine ⟨_,B4 (D4 (G5 K5 (pv 6) (E3 NX' hr rfl (A9 (pv 0) (A9 B7 B0))) (fun _ _=>rfl))),?_⟩
 obtain ⟨z11,hz11⟩ := d11.s
 refine ⟨_,rfl,_,rfl,st,z11,9,rfl,hz11,by decide,fun y12 r12 k0 k1=>?_⟩
 obtain ⟨l,hl,hatl⟩ := vR (xs := uZ one two three i) k0 k1
 exact ⟨ls,_,_,_,rfl,rfl,SqL.of (by rw [B5 nls']; exact hls11),hatl,q _ l (d11.next y12) (AL9 h1 h2 h3 hio l hl)⟩
end
end Law
namespace Law
open PySem L2 L2.Sp
theorem r0 : (Str.ofString "" : Str) = S [] := by decide +kernel
theorem r2 : (Str.ofString ":" : Str) = S [58] := by decide +kernel
theorem r3 : (Str.ofString ": 1" : Str) = S [58,32,49] := by decide +kernel
theorem r4 : (Str.ofString ": 1 else" : Str) = S [58,32,49,32,101,108,115,101] := by decide +kernel
theorem r5 : (Str.ofString " 1" : Str) = S [32,49] := by decide +kernel
theorem r6 : (Str.ofString ".: 1" : Str) = S [46,58,32,49] := by decide +kernel
theorem r7 : (Str.ofString ": 01" : Str) = S [58,32,48,49] := by decide +kernel
theorem r8 : (Str.ofString ": [@" : Str) = S [58,32,91,64] := by decide +kernel
theorem r8b : (Str.ofString "]" : Str) = S [93] := by decide +kernel
theorem r9 : (Str.ofString ": !@" : Str) = S [58,32,33,64] := by decide +kernel
theorem r10 : (Str.ofString ": 1 2" : Str) = S [58,32,49,32,50] := by decide +kernel
theorem wQ : (Str.ofString ": {" : Str) = S [58,32,123] := by decide +kernel
theorem BE6 : (Str.ofString ": 1, " : Str) = S [58,32,49,44,32] := by decide +kernel
theorem BE5 : (Str.ofString ": 2}" : Str) = S [58,32,50,125] := by decide +kernel
theorem r12 : (Str.ofString ": \"x" : Str) = S [58,32,34,120] := by decide +kernel
theorem r13 : (Str.ofString ": 1\n" : Str) = S [58,32,49,10] := by decide +kernel
theorem r14 : (Str.ofString "1: " : Str) = S [49,58,32] := by decide +kernel
theorem r15 : (Str.ofString ": else 1" : Str) = S [58,32,101,108,115,101,32,49] := by decide +kernel
section
variable {P : Program} {w : World} {K : PySem.W.Frag} {mg : Str → Option Value} {base : Heap} {f : Addr} {fd : FuncData}
def s1 (n : Wd) : List (List Nat) := [[],n,n ++ [58],[58,32,49],n ++ [58,32,49,32,101,108,115,101],n ++ [32,49],n ++ [46,58,32,49],n ++ [58,32,48,49]]
def s2 (n : Wd) : List (List Nat) := [n ++ [58,32,91,64] ++ n ++ [93],n ++ [58,32,33,64] ++ n,n ++ [58,32,49,32,50]]
def s3 (n : Wd) : List (List Nat) := [n ++ [58,32,123] ++ n ++ [58,32,49,44,32] ++ n ++ [58,32,50,125],n ++ [58,32,34,120],n ++ [58,32,49,10]]
def s4 (n : Wd) : List (List Nat) := [[49,58,32] ++ n,n ++ [58,32,101,108,115,101,32,49]]
theorem AX9 {n : Wd} (h : PN n) : ∀ l ∈ s1 n ++ s2 n ++ s3 n ++ s4 n,Bd l := by
 intro l hl
 simp only [s1,s2,s3,s4,List.cons_append,List.nil_append,List.mem_cons,List.not_mem_nil,or_false] at hl
 rcases hl with rfl | rfl | rfl | rfl | rfl | rfl | rfl | rfl | rfl | rfl | rfl | rfl | rfl | rfl | rfl | rfl
 ·exact bd0
 ·exact bd1 h
 ·exact bd2 h
 ·exact bd3
 ·exact bd4 h
 ·exact bd5 h
 ·exact bd6 h
 ·have := rT h wn1 (by decide) (by decide); simpa using this
 ·exact bd8 h
 ·exact bd9 h
 ·exact BG4 h
 ·exact BG3 h
 ·have := rT h wn2 (by decide) (by decide); simpa using this
 ·have := rT h wn3 (by decide) (by decide); simpa using this
 ·exact BG2 h
 ·exact BG1 h
abbrev nC : Stmt := O5 53
theorem iJ : D7 ["_law_state","_law_names","_law_one","_law_some"] ["_law_state","_law_names"] (B3 nC) := ⟨rfl,rfl,rfl,by decide +kernel,rfl,by decide +kernel,by decide +kernel⟩
def uO (K : PySem.W.Frag) : Sp := fun args H Q _=>∃ (st ln : Addr) (x : Int) (ns : List Wd),args = [.ref st,.ref ln] ∧ H st = some (.lst [.int x]) ∧ H ln = some (.lst (ST ns)) ∧ ln ≠ st ∧ Pl ns ∧ ∀ (H' : Hp) (v : V),DS st H H' → vU K H' v → Q v H'
theorem AR8 (F : Fun K "_law_no_row" "_law_no_row" nC f fd) (NX' : Cal P w K mg base 1 "_law_next" ["_law_state","_law_many"] bD) : FnOk P w K mg base K3 2 f fd ["_law_state","_law_names"] (uO K) := by
 refine F.ok iJ (fun vs H Q E h=>?_) (fun cdv A outer s H vs Q E hr h=>?_)
 ·obtain ⟨st,ln,x,ns,rfl,_⟩ := h
  rfl
 obtain ⟨st,ln,x,ns,rfl,hs,hln,nls,hns,q⟩ := h
 have D0 := DS.start hs
 refine ⟨_,B2 (D3 (i := 2) iJ.nd rfl (Or.inl rfl) (G5 K5 (pv 1) (E3 NX' hr rfl (A9 (pv 0) (A9 B7 B0))) (fun _ _=>rfl))) E5,?_⟩
 refine ⟨_,rfl,_,rfl,st,x,3,rfl,hs,by decide,fun y1 r1 a0 a1=>?_⟩
 have d1 := D0.next y1
 obtain ⟨n,hm,yS⟩ := vR (xs := ns) a0 (by rw [hns.n]; exact a1)
 have h1 := hns.ok n hm
 refine ⟨ln,_,_,_,rfl,rfl,SqL.of (d1.g _ _ nls hln),yS,?_⟩
 have b1' : n.length ≤ 6 := h1.len
 generalize B6 H st (.lst [.int y1]) = H1 at d1 ⊢
 obtain ⟨z1,hz1⟩ := d1.s
 refine ⟨_,B2 (D3 (i := 3) iJ.nd rfl (Or.inl rfl) (J0 dX)) E5,?_⟩
 refine SA.any (ls := s1 n) ?sa ?_
 case sa=>exact (SA.cons (SE.lit r0 (n := 1) (by decide)) (SA.cons (SE.var 2 rfl b1') (SA.cons ((SE.var 2 rfl b1').add (SE.lit r2 (n := 1) (by decide)) (by decide)) (SA.cons (SE.lit r3 (n := 3) (by decide)) (SA.cons ((SE.var 2 rfl b1').add (SE.lit r4 (n := 8) (by decide)) (by decide)) (SA.cons ((SE.var 2 rfl b1').add (SE.lit r5 (n := 2) (by decide)) (by decide)) (SA.cons ((SE.var 2 rfl b1').add (SE.lit r6 (n := 4) (by decide)) (by decide)) (SA.cons ((SE.var 2 rfl b1').add (SE.lit r7 (n := 4) (by decide)) (by decide)) SA.nil))))))))
 refine ⟨by show 8 ≤ sizeLine; decide,fun ls hls=>?_⟩
 have nls' : ls ≠ st := Ne.symm (C0 hz1 hls)
 have hls0 : H ls = none := d1.old hls
 have d2 := d1.put (o := .lst (ST (s1 n))) hls0
 have hls2 : B6 H1 ls (.lst (ST (s1 n))) ls = some (.lst (ST (s1 n))) := B1
 generalize B6 H1 ls (.lst (ST (s1 n))) = H2 at d2 hls2 ⊢
 refine ⟨_,B2 (X9 (i := 3) iJ.nd rfl (Or.inl rfl) (J0 dX) hJ) E5,?_⟩
 dsimp only [qA,qC]
 refine ⟨_,rfl,SA.any (ls := s2 n) ?sa ?_⟩
 case sa=>exact (SA.cons ((((SE.var 2 rfl b1').add (SE.lit r8 (n := 4) (by decide)) (by decide)).add (SE.var 2 rfl b1') (by decide)).add (SE.lit r8b (n := 1) (by decide)) (by decide)) (SA.cons (((SE.var 2 rfl b1').add (SE.lit r9 (n := 4) (by decide)) (by decide)).add (SE.var 2 rfl b1') (by decide)) (SA.cons ((SE.var 2 rfl b1').add (SE.lit r10 (n := 5) (by decide)) (by decide)) SA.nil)))
 refine ⟨bQ,fun l2 hl2=>?_⟩
 have e2 := B8 hl2 (.lst (ST (s2 n)))
 refine ⟨ls,l2,_,_,rfl,rfl,e2 _ _ hls2,B1,by show 11 ≤ sizeLine; decide,?_⟩
 have d3 := (d2.same e2).put (o := .lst (ST (s1 n) ++ ST (s2 n))) hls0
 generalize hH3 : B6 (B6 H2 l2 (.lst (ST (s2 n)))) ls (.lst (ST (s1 n) ++ ST (s2 n))) = H3 at d3 ⊢
 have hls3 : H3 ls = some (.lst (ST (s1 n ++ s2 n))) := by rw [← hH3,B1]; simp [ST]
 refine ⟨_,B2 (X9 (i := 3) iJ.nd rfl (Or.inl rfl) (J0 dX) hJ) E5,?_⟩
 dsimp only [qA,qC]
 refine ⟨_,rfl,SA.any (ls := s3 n) ?sa ?_⟩
 case sa=>exact (SA.cons ((((((SE.var 2 rfl b1').add (SE.lit wQ (n := 3) (by decide)) (by decide)).add (SE.var 2 rfl b1') (by decide)).add (SE.lit BE6 (n := 5) (by decide)) (by decide)).add (SE.var 2 rfl b1') (by decide)).add (SE.lit BE5 (n := 4) (by decide)) (by decide)) (SA.cons ((SE.var 2 rfl b1').add (SE.lit r12 (n := 4) (by decide)) (by decide)) (SA.cons ((SE.var 2 rfl b1').add (SE.lit r13 (n := 4) (by decide)) (by decide)) SA.nil)))
 refine ⟨bQ,fun l3 hl3=>?_⟩
 have e3 := B8 hl3 (.lst (ST (s3 n)))
 refine ⟨ls,l3,_,_,rfl,rfl,e3 _ _ hls3,B1,by show 14 ≤ sizeLine; decide,?_⟩
 have d4 := (d3.same e3).put (o := .lst (ST (s1 n ++ s2 n) ++ ST (s3 n))) hls0
 generalize hH4 : B6 (B6 H3 l3 (.lst (ST (s3 n)))) ls (.lst (ST (s1 n ++ s2 n) ++ ST (s3 n))) = H4 at d4 ⊢
 have hls4 : H4 ls = some (.lst (ST (s1 n ++ s2 n ++ s3 n))) := by rw [← hH4,B1]; simp [ST]
 refine ⟨_,B2 (X9 (i := 3) iJ.nd rfl (Or.inl rfl) (J0 (A9 gI (A9 gI (A9 N2 (A9 B7 (A9 (J0 (A9 gI B0)) B0)))))) hJ) E5,?_⟩
 dsimp only [qA,qC,pK,fW,AO3]
 refine ⟨_,rfl,SE.any (l := [49,58,32] ++ n) (n := 3 + 6) ?sa (SE.any (l := n ++ [58,32,101,108,115,101,32,49]) (n := 6 + 8) ?sb ?_)⟩
 case sa=>exact ((SE.lit r14 (n := 3) (by decide)).add (SE.var 2 rfl b1') (by decide))
 case sb=>exact ((SE.var 2 rfl b1').add (SE.lit r15 (n := 8) (by decide)) (by decide))
 refine SE.any (l := n ++ [58,32,49]) (n := 6 + 3) ?sa ⟨S4,fun lx hlx=>⟨by show 5 ≤ sizeLine; decide,fun l5 hl5=>?_⟩⟩
 case sa=>exact ((SE.var 2 rfl b1').add (SE.lit r3 (n := 3) (by decide)) (by decide))
 have e4 := B8 hlx (.lst [.str (S (n ++ [58,32,49]))])
 have e5 := B8 hl5 (.lst [.str (S ([49,58,32] ++ n)),.str (S (n ++ [58,32,101,108,115,101,32,49])),.non,.int 7,.ref lx])
 refine ⟨ls,l5,_,_,rfl,rfl,e5 _ _ (e4 _ _ hls4),B1,by show 19 ≤ sizeLine; decide,?_⟩
 have nlx : lx ≠ ls := Ne.symm (C0 hls4 hlx)
 have nxs : lx ≠ st := by obtain ⟨z,hz⟩ := d4.s; exact Ne.symm (C0 hz hlx)
 have d5 := ((d4.same e4).same e5).put (o := .lst (ST (s1 n ++ s2 n ++ s3 n) ++ [.str (S ([49,58,32] ++ n)),.str (S (n ++ [58,32,101,108,115,101,32,49])),.non,.int 7,.ref lx])) hls0
 generalize hH5 : B6 (B6 (B6 H4 lx (.lst [.str (S (n ++ [58,32,49]))])) l5 (.lst [.str (S ([49,58,32] ++ n)),.str (S (n ++ [58,32,101,108,115,101,32,49])),.non,.int 7,.ref lx])) ls (.lst (ST (s1 n ++ s2 n ++ s3 n) ++ [.str (S ([49,58,32] ++ n)),.str (S (n ++ [58,32,101,108,115,101,32,49])),.non,.int 7,.ref lx])) = H5 at d5 ⊢
 have hls5 : H5 ls = some (.lst (ST (s1 n ++ s2 n ++ s3 n ++ s4 n) ++ [.non,.int 7,.ref lx])) := by rw [← hH5,B1]; simp [ST,s4]
 have hlx5 : H5 lx = some (.lst [.str (S (n ++ [58,32,49]))]) := by rw [← hH5,B5 nlx]; exact e5 _ _ B1
 refine ⟨_,B4 (D4 (G5 K5 (pv 3) (E3 NX' hr rfl (A9 (pv 0) (A9 B7 B0))) (fun _ _=>rfl))),?_⟩
 obtain ⟨z5,hz5⟩ := d5.s
 refine ⟨_,rfl,_,rfl,st,z5,19,rfl,hz5,by decide,fun y6 r6 k0 k1=>?_⟩
 have hls6 : B6 H5 st (.lst [.int y6]) ls = some (.lst (ST (s1 n ++ s2 n ++ s3 n ++ s4 n) ++ [.non,.int 7,.ref lx])) := by rw [B5 nls']; exact hls5
 have hlx6 : B6 H5 st (.lst [.int y6]) lx = some (.lst [.str (S (n ++ [58,32,49]))]) := by rw [B5 nxs]; exact hlx5
 obtain ⟨k,rfl⟩ := Int.eq_ofNat_of_zero_le k0
 have hlen : (s1 n ++ s2 n ++ s3 n ++ s4 n).length = 16 := by simp [s1,s2,s3,s4]
 have hex : ∃ v,(ST (s1 n ++ s2 n ++ s3 n ++ s4 n) ++ [V.non,.int 7,.ref lx])[k]? = some v ∧ vU K (B6 H5 st (.lst [.int y6])) v := by
  by_cases hk : k < 16
  ·have hk' : k < (s1 n ++ s2 n ++ s3 n ++ s4 n).length := by omega
   refine ⟨.str (S (s1 n ++ s2 n ++ s3 n ++ s4 n)[k]),?_,.inr ⟨_,rfl,AX9 h1 _ (List.getElem_mem hk')⟩⟩
   rw [List.getElem?_append_left (by rw [List.length_map]; exact hk'),List.getElem?_map,List.getElem?_eq_getElem hk']
   rfl
  ·rw [List.getElem?_append_right (by rw [List.length_map]; omega),List.length_map,hlen]
   have : k - 16 = 0 ∨ k - 16 = 1 ∨ k - 16 = 2 := by omega
   rcases this with e | e | e <;> rw [e]
   ·exact ⟨_,rfl,.inl ⟨.non,by simp only [DV],rfl⟩⟩
   ·exact ⟨_,rfl,.inl ⟨.int 7,by simp only [DV],rfl⟩⟩
   ·exact ⟨_,rfl,.inl ⟨.lst,by simp only [DV]; exact ⟨lx,_,rfl,hlx6⟩,rfl⟩⟩
 obtain ⟨v,hv,hbad⟩ := hex
 exact ⟨ls,_,_,v,rfl,rfl,SqL.of hls6,G2 hv,q _ v (d5.next y6) hbad⟩
end
end Law
namespace L2
open PySem PySem.Spec PyProof.Rows
def jL (CX : X7) (X : Cx) (σ : St) (E : XK) : Prop := ∀ (pins : List (Addr × Obj)) (H : Hp) (s : Shared) (e : Value) (s' : Shared),Inv X pins σ H s → CX X.stack H s E e s' → X.xe e s'
section
variable {X : Cx} {CX : X7} {k : Nat} {f C : Addr} {fd : FuncData} {ps : List Str} {sp : Sp} {dvs : List V} {ds : List Value} {x m : Str} {p pos apos : Pos} {e o : Expr} {es : List Expr} {ta : TE} {t : TA}
theorem AI5 {E : XK} {pins : List (Addr × Obj)} {σ : St} {H : Hp} {s : Shared} {Q : VK} {us : List Value} {vs : List V} (F : FnOk X.prog X.w X.K X.mg X.base CX k f fd ps sp) (hr : Room k X.A) (hb : Binds X.K fd ps ds) (hd : Vals dvs ds) (hx : jL CX X σ E)
  (I : Inv X pins σ H s) (r : Vals vs us) (h : sp (vs ++ dvs) H Q E) : wpAny (model X.prog X.w) X.A (call (.ref f) us) (EP X pins σ Q) X.xe s := by
 have r2 : Vals (vs ++ dvs) (us ++ ds) := r.append hd
 have hl : (us ++ ds).length = ps.length := by rw [← r2.length]; exact F.len _ _ _ _ h
 refine wpAny_call (codeAny_mono (F.run X.A X.stack s H ⟨us,[]⟩ (us ++ ds) (vs ++ dvs) Q E hr I.env0 (hb s us I.kIn hl) r2 h) fun r s' hq=>?_)
 cases r with
 | error e=>exact hx pins H s e s' I hq
 | ok fl =>
  cases fl with
  | ret u=>exact I.after hq
  | next=>exact False.elim hq
  | brk=>exact False.elim hq
  | cont=>exact False.elim hq
theorem zW {ES : St → XK} {pl : Sem Bool} (he : PE X o ta) (c : Cls X.K C) (hm : rZ X.K C m f) (F : FnOk X.prog X.w X.K X.mg X.base CX k f fd ps sp) (hr : Room k X.A) (hb : Binds X.K fd ps ds) (hd : Vals dvs ds) (hx : ∀ σ,jL CX X σ (ES σ)) (ha : PA X (e :: es) t)
  (hst : starEach (e :: es) X.env = (false,eval e X.env) :: starEach es X.env := by rfl) (hpl : (backTo pos (starEach es X.env)).any (·.1) = false := by rfl)
  (ht : eval (.Call (.Attribute o m apos) (e :: es) [] pos) X.env = (do
   let ov ← eval o X.env
   standAt apos.atName
   let (f,first) ← holding [ov] (getMethod ov m pl)
   callWith pos f first (backTo pos (starEach (e :: es) X.env)) (backToKw pos (keywordEach [] X.env))) := by rfl) :
  PE X (.Call (.Attribute o m apos) (e :: es) [] pos) (fun σ H Q=>eR C m sp dvs (ES σ) ta t σ H Q) := by
 intro pins s σ H Q I h
 refine PySem.W.methodCall_KW (pl := pl) (D8 (he pins s σ H _ I h) fun u s1 ⟨x,H1,I1,rx,a,dx,fs,ex,ea,l,q⟩=>?_) ht
 subst ex
 obtain rfl : u = Value.ref a := rx
 refine fN I1 ea c hm l ?_
 refine PySem.W.callWith_K (first := [.ref a]) (h₀ := X.base) I.ok.mod.kin hm.kp (D8 (ha pos pins s1 σ H1 _ I1 q) fun us s2 ⟨vs,H2,I2,r,q2⟩=>⟨I2.kIn,?_⟩) hst hpl
 exact AI5 (us := .ref a :: us) (vs := .ref a :: vs) F hr hb hd (hx σ) I2 (.cons rfl r) q2
end
def AX2 (n : Nat) (ps : List (Addr × TS)) (tb : (St → XK) → TS) : TS := fun D σ H =>
 tb (fun σ' c _ H'=>∃ p ∈ ps,c = .ref p.1 ∧ p.2 D σ' H') D σ H
theorem AI9 {X : Cx} {body : List Stmt} {h₀ : ExceptHandler} {hs : List ExceptHandler} {pos : Pos} {tb : (St → XK) → TS} (ps : List (Addr × TS))
  (hst : X.stack = X.env :: X.outer) (hf : X.env.frame = some X.env.locals)
  (hh : ∀ p ∈ ps,HS X p.1 (h₀ :: hs) p.2)
  (hbody : ∀ (pn : List (Addr × Obj)) (xe : Value → Shared → Prop) (E : St → XK),(∀ σ,jL (M0 X.prog X.w) (X.tried pn xe) σ (E σ)) → PSs (X.tried pn xe) body (tb E)) :
  PS X (.Try body (h₀ :: hs) [] [] pos) (AX2 X.N.length ps tb) := by
 intro pins s σ H D I h
 refine wpAny_Try_except (wpAny_mono (hbody pins _ _ ?_ [] s σ H D (I.tried _) h) (fun f s1 h1=>?_) fun e s1 h1=>h1)
 ·intro σ' pins' H' s' e s'' I' hx
  have I0 : Inv X pins σ' H' s' := I'.untried I.ok
  refine AU6 I0 hst hf hx fun ex cls H1 h' he hE J hex un=>?_
  subst he
  obtain ⟨⟨C,t⟩,hp,rfl,hE⟩ := hE
  obtain ⟨oe,vs,he,hc,hd,hdi,hne,hHe,hh'⟩ := id hex
  have Js := J.suite he ⟨vs,hd⟩ hHe
  have go : ∀ {hs : List ExceptHandler} {t : TS},HS X C hs t → t D σ' H1 → wpAny (model X.prog X.w) X.A (handleBy (.ref ex) X.env hs) (SP X pins D) X.xe { s'' with heap := h' } := by
   intro hs t hhs
   induction hhs with
   | @hit x M bmM idM np hpos b₀ suite rest t cM hb hg hm hdb hsu =>
    intro hE
    refine wpAny_handleBy_cons (codeAny_handlers_test (Z1 (X := X.suite ex oe) Js hg hm ?_ hdb)) (by intro q; cases q)
    refine jU Js.kIn (rJ he hc ⟨vs,hd⟩ hdi) cM hb ?_
    refine codeAny_handlers_suite ?_
    refine AM8 (fs := V9 X.stack) hex fun h2 S hex2=>?_
    have un2 := S.un un
    have hok2 := S.hok J.hok J.stkFree
    obtain ⟨oe2,vs2,he2,hc2,hd2,hdi2,hne2,hHe2,hh2⟩ := id hex2
    have J2 : Inv X pins σ' H1 { s'' with heap := h2 } := by
     have os1 : s''.os = s'.os := J.os.trans I0.os.symm
     obtain ⟨hh,gg,dd,tt,oo⟩ := s''
     obtain rfl : oo = s'.os := os1
     have J' := I0.call (h' := h2) (g' := gg) (d' := dd) (t' := tt) (ch := []) un2 hok2 J.bare (fun b z=>absurd z (by simp))
     exact J'
    have J2s := J2.suite he2 ⟨vs2,hd2⟩ hHe2
    refine wpAny_mono (hsu ex oe2 pins _ _ H1 D J2s hE) (fun f s4 h4=>?_) fun e s4 h4=>False.elim h4
    cases f with
    | next=>obtain ⟨σ5,H5,J5,q⟩ := h4; exact ⟨σ5,H5,J5.unsuite I.ok,q⟩
    | brk=>obtain ⟨σ5,H5,J5,q⟩ := h4; exact ⟨σ5,H5,J5.unsuite I.ok,q⟩
    | cont=>obtain ⟨σ5,H5,J5,q⟩ := h4; exact ⟨σ5,H5,J5.unsuite I.ok,q⟩
    | ret u=>obtain ⟨v,σ5,H5,J5,r,q⟩ := h4; exact ⟨v,σ5,H5,J5.unsuite I.ok,r,q⟩
   | @miss x M bmM idM np hpos name body rest t cM hb hg hm hdb hr ih =>
    intro hE
    refine wpAny_handleBy_cons (codeAny_handlers_test (Z1 (X := X.suite ex oe) Js hg hm ?_ hdb)) (by intro q; cases q)
    refine jU Js.kIn (rJ he hc ⟨vs,hd⟩ hdi) cM hb ?_
    exact ih hE
  exact go (hh _ hp) hE
 ·cases f with
  | next =>
   obtain ⟨σ5,H5,J5,q⟩ := h1
   exact E4 pins s1 σ5 H5 D (J5.untried I.ok) q
  | brk=>obtain ⟨σ5,H5,J5,q⟩ := h1; exact ⟨σ5,H5,J5.untried I.ok,q⟩
  | cont=>obtain ⟨σ5,H5,J5,q⟩ := h1; exact ⟨σ5,H5,J5.untried I.ok,q⟩
  | ret u=>obtain ⟨v,σ5,H5,J5,r,q⟩ := h1; exact ⟨v,σ5,H5,J5.untried I.ok,r,q⟩
end L2
namespace Law
open PySem L2 L2.Sp
theorem AZ0 : (["_law_k","_law_state"] : List Str).Nodup := by decide +kernel
section
variable {P : Program} {w : World} {K : PySem.W.Frag} {mg : Str → Option Value} {base : Heap} {f : Addr} {fd : FuncData} {D C G N : Addr}
abbrev iP : Stmt := O5 51
theorem W1 : D7 ["_law_state","_law_letters","_law_size","_law_base","_law_at_","_law_pool_here","_law_k","_law_name","_law_i"] ["_law_state"] (B3 iP) := ⟨rfl,rfl,rfl,by decide +kernel,rfl,by decide +kernel,by decide +kernel⟩
def qE : Sp := fun args H Q _=>∃ (st : Addr) (x : Int),args = [.ref st] ∧ H st = some (.lst [.int x]) ∧ ∀ (H' : Hp) (l : Addr) (ns : List Wd),DS st H H' → H l = none → H' l = some (.lst (ST ns)) → Pl ns → Q (.ref l) H'
theorem AK2 (F : Fun K "_law_pool" "_law_pool" iP f fd) (NX' : Cal P w K mg base 1 "_law_next" ["_law_state","_law_many"] bD) (m1 : mg "range" = none) (m2 : mg "int" = none) : FnOk P w K mg base K3 2 f fd ["_law_state"] qE := by
 refine F.ok W1 (fun vs H Q E h=>?_) (fun cdv A outer s H vs Q E hr h=>?_)
 ·obtain ⟨st,x,rfl,_⟩ := h
  rfl
 obtain ⟨st,x,rfl,hs,q⟩ := h
 have D0 := DS.start hs
 refine ⟨_,B2 (D3 (i := 1) W1.nd rfl (Or.inl rfl) B9)
  (B2 (D3 (i := 2) W1.nd rfl (Or.inl rfl) (G9 U0 B7 (E3 NX' hr rfl (A9 (pv 0) (A9 B7 B0)))))
  (B2 (sZ (i := 3) (N' := ["_law_k","_law_state"]) (fr := [none,some 0]) (own := [0]) ⟨rfl,rfl,rfl,rfl,rfl,rfl,rfl⟩ rfl W1.nd rfl rfl (aC rfl m1 (A9 (pv 2) B0))
   (fun _ _ _ _=>M3 (i := 0) AZ0 rfl (Or.inl rfl)) (Z0 0) (fun _ _ _ _=>Y7) (fun _ _ _ _=>E3 NX' hr rfl (A9 (pv 1) (A9 B7 B0)))) E5)),?_⟩
 refine ⟨_,rfl,st,x,6,rfl,hs,by decide,fun y1 r b0 b1=>?_⟩
 have d1 := D0.next y1
 obtain ⟨c,rfl⟩ := Int.eq_ofNat_of_zero_le b0
 refine ⟨_,_,rfl,rfl,_,rfl,((1 + c : Nat) : Int),by rw [show ((1 + c : Nat) : Int) = 1 + (c : Int) by omega],by omega,by omega,fun lb hlb=>?_⟩
 have hlb0 := d1.old hlb
 refine vQ (fun i ys H'=>DS st H H' ∧ H' lb = some (.lst ys) ∧ ∃ bs : List Int,ys = bs.map V.int ∧ bs.length = i) ⟨d1.put hlb0,B1,[],rfl,rfl⟩ (fun i ys H' hi hinv=>?_) (fun ys H' hinv=>?_)
 ·obtain ⟨d,hl',bs,rfl,hlen⟩ := hinv
  obtain ⟨y,hy⟩ := d.s
  have nl := d.ne hlb0
  dsimp only [X0,R1]
  refine jW ⟨_,rfl,st,y,26,rfl,hy,by decide,fun y' r' c0 c1=>?_⟩
  exact ⟨by rw [B5 nl]; exact hl',Q7 (by rw [List.length_map]; omega),(d.next y').put hlb0,B1,bs ++ [r'],by simp,by simp [hlen]⟩
 obtain ⟨d,hl',bs,rfl,hlen⟩ := hinv
 have hbl : bs.length = 1 + c := by omega
 obtain ⟨y2,hy2⟩ := d.s
 have nlb := d.ne hlb0
 refine ⟨_,B2 (D3 (i := 4) W1.nd rfl (Or.inl rfl) (E3 NX' hr rfl (A9 (pv 0) (A9 (pv 2) B0))))
  (B2 (D3 (i := 5) W1.nd rfl (Or.inl rfl) (J0 B0)) E5),?_⟩
 refine ⟨_,rfl,_,rfl,st,y2,((1 + c : Nat) : Int),by show [V.ref st,V.int (1 + (c : Int))] = _; rw [show ((1 + c : Nat) : Int) = 1 + (c : Int) by omega],hy2,by omega,fun y3 at' e0 e1=>?_⟩
 have d3 := d.next y3
 have hlb3 : B6 H' st (.lst [.int y3]) lb = some (.lst (bs.map V.int)) := by rw [B5 nlb]; exact hl'
 generalize B6 H' st (.lst [.int y3]) = H3 at d3 hlb3 ⊢
 refine ⟨Y0,fun lp hlp=>?_⟩
 have hlp0 := d3.old hlp
 have nlp : lb ≠ lp := C0 hlb3 hlp
 refine ⟨_,B2 (aB PassesOwn.never rfl (aC rfl m1 (A9 B7 B0)) (M3 (i := 6) W1.nd rfl (Or.inl rfl)) E5) (B4 (D4 (pv 5))),?_⟩
 refine ⟨3,rfl,by decide,by decide,?_⟩
 refine cS (fun i σ H'=>∃ (ns : List Wd) (b6 b7 b8 : Option V),σ = [some (.ref st),some (.str (S rC)),some (.int (1 + (c : Int))),some (.ref lb),some (.int at'),some (.ref lp),b6,b7,b8] ∧ DS st H H' ∧ H' lb = some (.lst (bs.map V.int)) ∧ H' lp = some (.lst (ST ns)) ∧ ns.length = i ∧ ∀ n ∈ ns,PN n)
  ⟨[],none,none,none,by show _ = _; rw [AZ2]; rfl,d3.put hlp0,by rw [B5 nlp]; exact hlb3,B1,rfl,fun n hn=>(by cases hn)⟩ (fun i σ H' hi hinv=>?_) (fun σ H' hinv=>?_)
 ·obtain ⟨ns,b6,b7,b8,rfl,d,hb,hp,hnl,hok⟩ := hinv
  have hi3 : i < 3 := by simpa using hi
  refine ⟨_,B2 (D3 (i := 7) W1.nd rfl (Or.inl rfl) B9)
   (B2 (aB PassesOwn.never rfl (aC rfl m1 (A9 (pv 2) B0)) (M3 (i := 8) W1.nd rfl (Or.inl rfl))
    (B4 (D3 (i := 7) W1.nd rfl (Or.inl rfl) (G9 lN (pv 7) (G5 aH (pv 1) (G9 gO (G9 U0 (G5 K5 (pv 3) (pv 8) (fun _ _=>rfl)) (G9 gN (pv 6) (N9 yL rfl m2 mK (A9 (N8 N4 (pv 8) (pv 4) (D9 _)) B0)))) B7) (fun _ _=>rfl))))))
   (B4 (G4 (O0 PySem.F.plainAttrs_list PySem.F.slot_list_append PySem.F.type_list_append J7 (pv 5) (A9 (pv 7) B0))))),?_⟩
  refine ⟨_,rfl,((1 + c : Nat) : Int),by rw [show ((1 + c : Nat) : Int) = 1 + (c : Int) by omega],by omega,by omega,?_⟩
  refine cS (fun j σ H''=>∃ (v : Wd) (b8 : Option V),σ = [some (.ref st),some (.str (S rC)),some (.int (1 + (c : Int))),some (.ref lb),some (.int at'),some (.ref lp),some (.int (0 + (i : Int))),some (.str (S v)),b8] ∧ H'' = H' ∧ (∀ x ∈ v,P4 x = true) ∧ v.length = j)
   ⟨[],b8,by show _ = _; rw [rB]; rfl,rfl,fun x hx=>(by cases hx),rfl⟩ (fun j σ H'' hj hinv2=>?_) (fun σ H'' hinv2=>?_)
  ·obtain ⟨v,b8',rfl,rfl,hv,hvl⟩ := hinv2
   have hj' : j < bs.length := by omega
   have hjc : j < 1 + c := by omega
   refine ⟨_,rfl,_,rfl,_,rfl,_,rfl,lb,_,_,.int bs[j],rfl,rfl,SqL.of hb,?_,_,rfl,_,rfl,_,rfl,rfl,_,rfl,_,_,rfl,rfl,.inl ⟨by omega,by omega⟩,_,_,rfl,rfl,_,_,rfl,rfl,(by show (0 : Int) < 26; decide),?_⟩
   ·rw [show (0 : Int) + (j : Int) = (j : Int) by omega]
    exact G2 (by rw [List.getElem?_map,List.getElem?_eq_getElem hj']; rfl)
   obtain ⟨ch,hch,hat⟩ := AU9 (xs := rC) (Int.emod_nonneg (bs[j] + (0 + (i : Int)) * (if decide (V.int (0 + (j : Int)) = V.int at') = true then (1 : Int) else 0)) (show (26 : Int) ≠ 0 by decide)) (Int.emod_lt_of_pos _ (by decide))
   refine ⟨_,_,ch,rfl,rfl,Q1 (by decide),hat,_,_,rfl,rfl,yV (b := [ch]) (by simp; omega),v ++ [ch],some (.int (0 + (j : Int))),?_,rfl,fun x hx=>?_,by simp [hvl]⟩
   ·rw [show (⟨#[ch]⟩ : Str) = S [ch] from rfl,AG3]; rfl
   ·rcases List.mem_append.mp hx with h | h
    ·exact hv x h
    ·rw [List.mem_singleton.mp h]; exact AS5 ch hch
  ·obtain ⟨v,b8',rfl,rfl,hv,hvl⟩ := hinv2
   have hvl' : v.length = 1 + c := by omega
   refine ⟨_,rfl,.inl ⟨rfl,_,SqL.of hp⟩,_,rfl,lp,_,_,rfl,rfl,hp,Q7 (by rw [List.length_map]; omega),ns ++ [v],_,_,_,rfl,d.put hlp0,by rw [B5 nlp]; exact hb,by rw [B1]; simp [ST],by simp [hnl],fun n hn=>?_⟩
   rcases List.mem_append.mp hn with z | z
   ·exact hok n z
   ·rw [List.mem_singleton.mp z]
    refine ⟨?_,by omega⟩
    unfold E2
    rw [Bool.and_eq_true,decide_eq_true_iff,List.all_eq_true]
    exact ⟨fun z=>by rw [z] at hvl'; simp at hvl'; omega,hv⟩
 ·obtain ⟨ns,b6,b7,b8,rfl,d,hb,hp,hnl,hok⟩ := hinv
  exact ⟨_,rfl,q H' lp ns d hlp0 hp ⟨hnl,hok⟩⟩
structure EX3 (K : PySem.W.Frag) (mg : Str → Option Value) (C G N : Addr) : Prop where
 c : NX K mg "NoText" C
 g : NX K mg "Ring" G
 n : NX K mg "NoRow" N
 cc : PySem.W.mroIn K C (.ref C) = some true
 gc : PySem.W.mroIn K G (.ref C) = some false
 gg : PySem.W.mroIn K G (.ref G) = some true
 nc : PySem.W.mroIn K N (.ref C) = some false
 ng : PySem.W.mroIn K N (.ref G) = some false
 nn : PySem.W.mroIn K N (.ref N) = some true
theorem tF {X : Cx} {CX : X7} {ES : St → XK} {k : Nat} {m : Str} {ps : List Str} {sp : Sp} {apos pos : Pos} {o e : Expr} {es : List Expr} {ta : TE} {t : TA} {pl : Sem Bool} (M : P2 X.prog X.w X.K X.mg X.base CX D k m ps sp) (c : Cls X.K D) (hr : Room k X.A) (hx : ∀ σ,jL CX X σ (ES σ)) (ho : PE X o ta) (ha : PA X (e :: es) t)
  (hst : starEach (e :: es) X.env = (false,eval e X.env) :: starEach es X.env := by rfl) (hpl : (backTo pos (starEach es X.env)).any (·.1) = false := by rfl)
  (ht : eval (.Call (.Attribute o m apos) (e :: es) [] pos) X.env = (do
   let ov ← eval o X.env
   standAt apos.atName
   let (f,first) ← holding [ov] (getMethod ov m pl)
   callWith pos f first (backTo pos (starEach (e :: es) X.env)) (backToKw pos (keywordEach [] X.env))) := by rfl) :
  PE X (.Call (.Attribute o m apos) (e :: es) [] pos) (fun σ H Q=>eR D m sp [] (ES σ) ta t σ H Q) := by
 obtain ⟨f,fd,F,a,b⟩ := M.ex
 exact zW ho c a F hr b .nil hx ha hst hpl ht
abbrev iY : Stmt := O5 54
theorem Z8 : D7 ["_law_desk","_law_line_here","_law_number","_law_found","_law_word"] ["_law_desk","_law_line_here","_law_number"] (B3 iY) := ⟨rfl,rfl,rfl,by decide +kernel,rfl,by decide +kernel,by decide +kernel⟩
def qH (K : PySem.W.Frag) (D : Addr) : Sp := fun args H Q _ => ∃ dk dx ll lr ls ts rs v num, args = [.ref dk, v, num] ∧ DO K H D dk dx ll lr ls ts ∧ GL ls ts rs ∧ ls.length ≤ 19 ∧
  ((num = .non ∧ ((vU K H v ∧ ∀ H' p, Same H H' → H' p = some (.tup [.str (Str.ofString "no text"), .non]) → Q (.ref p) H') ∨
      ∃ l t r, v = .str (S l) ∧ Gd l t r ∧ (NoR (rs ++ [r]) → ∀ H' p, vT ll lr H H' → DO K H' D dk dx ll lr (ls ++ [l]) (ts ++ [t]) → H' p = some (.tup [.str (Str.ofString "done"), .int (ls.length : Int)]) → Q (.ref p) H') ∧
        ∀ y, IsR (rs ++ [r]) y → ∀ H' p, Same H H' → H' p = some (.tup [.str (Str.ofString "ring"), .non]) → Q (.ref p) H')) ∨
   ∃ k : Int, num = .int k ∧ ((k < 0 ∨ (ls.length : Int) ≤ k) → ∀ H' p, Same H H' → H' p = some (.tup [.str (Str.ofString "no row"), .non]) → Q (.ref p) H') ∧
      ∀ j : Nat, k = (j : Int) → j < ls.length → ∀ H' p, vT ll lr H H' → DO K H' D dk dx ll lr (ls.eraseIdx j) (ts.eraseIdx j) → H' p = some (.tup [.str (Str.ofString "done"), .non]) → Q (.ref p) H')
theorem AL3 (F : Fun K "_law_done" "_law_done" iY f fd) (c : DC K D) (x : EX3 K mg C G N) (TELL : P2 P w K mg base (M0 P w) D 39 "tell" ["self","line"] (qD K D C G)) (DROP : P2 P w K mg base (M0 P w) D 1 "drop" ["self","number"] (qG K D N)) : FnOk P w K mg base K3 40 f fd ["_law_desk","_law_line_here","_law_number"] (qH K D) := by
 refine F.ok Z8 (fun vs H Q E h=>?_) (fun cdv A outer s H vs Q E hr h=>?_)
 ·obtain ⟨dk,dx,ll,lr,ls,ts,rs,v,num,rfl,_⟩ := h
  rfl
 obtain ⟨dk,dx,ll,lr,ls,ts,rs,v,num,rfl,h,hgl,h19,hq⟩ := h
 have hr1 := hr.mono (show 1 ≤ 39 by decide)
 refine ⟨_,B2 (D3 (i := 3) Z8.nd rfl (Or.inl rfl) N2)
  (B2 (D3 (i := 4) Z8.nd rfl (Or.inl rfl) B9)
  (B2 (AI9 [(C,kA (tC (.str (Str.ofString "no text"))) (R1 4)),(G,kA (tC (.str (Str.ofString "ring"))) (R1 4)),(N,kA (tC (.str (Str.ofString "no row"))) (R1 4))] rfl rfl (fun p hp=>by
    simp only [List.mem_cons,List.not_mem_nil,or_false] at hp
    rcases hp with rfl | rfl | rfl
    ·exact .hit x.c.xc x.cc rfl x.c.mg (by decide) (fun ex oe=>B4 (D3 (i := 4) Z8.nd rfl (Or.inl rfl) B9))
    ·exact .miss x.c.xc x.gc rfl x.c.mg (by decide) (.hit x.g.xc x.gg rfl x.g.mg (by decide) (fun ex oe=>B4 (D3 (i := 4) Z8.nd rfl (Or.inl rfl) B9)))
    ·exact .miss x.c.xc x.nc rfl x.c.mg (by decide) (.miss x.g.xc x.ng rfl x.g.mg (by decide) (.hit x.n.xc x.nn rfl x.n.mg (by decide) (fun ex oe=>B4 (D3 (i := 4) Z8.nd rfl (Or.inl rfl) B9)))))
   (fun pn xe E hP=>B4 (G3 (E1 AQ7 (pv 2) N2 (D9 _)) (B4 (D3 (i := 3) Z8.nd rfl (Or.inl rfl) (tF TELL c.cl hr hP (pv 0) (A9 (pv 1) B0))))
    (B4 (D3 (i := 3) Z8.nd rfl (Or.inl rfl) (tF DROP c.cl hr1 hP (pv 0) (A9 (pv 2) B0)))))))
  (B4 (D4 (M6 (A9 (pv 4) (A9 (pv 3) B0))))))),?_⟩
 rcases hq with ⟨rfl,hq⟩ | ⟨k,rfl,q1,q2⟩
 ·refine ⟨_,rfl,rfl,_,rfl,E8 ⟨_,rfl,dk,dx,_,rfl,h.ob,rfl,_,rfl,dk,dx,ll,lr,ls,ts,rs,v,rfl,h,hgl,h19,?_⟩⟩
  rcases hq with ⟨hbad,q⟩ | ⟨l,t,r,rfl,hg,q1,q2⟩
  ·refine .inl ⟨hbad,fun H' g=>⟨_,List.mem_cons_self,rfl,_,rfl,_,rfl,Q6,fun p hp=>q _ p (g.trans (B8 hp _)) B1⟩⟩
  ·refine .inr ⟨l,t,r,rfl,hg,fun hno H' hb hd=>⟨_,rfl,_,rfl,Q6,fun p hp=>?_⟩,fun y hy H' g=>⟨_,List.mem_cons_of_mem _ List.mem_cons_self,rfl,_,rfl,_,rfl,Q6,fun p hp=>q2 y hy _ p (g.trans (B8 hp _)) B1⟩⟩
   have gp := B8 hp (.tup [.str (Str.ofString "done"),.int (ls.length : Int)])
   exact q1 hno _ p (fun b o h1 h2 hbo=>gp _ _ (hb b o h1 h2 hbo)) (hd.same gp) B1
 ·refine ⟨_,rfl,rfl,_,rfl,F0 ⟨_,rfl,dk,dx,_,rfl,h.ob,rfl,_,rfl,dk,dx,ll,lr,ls,ts,k,rfl,h,hgl.len.1,by omega,fun hk=>⟨_,List.mem_cons_of_mem _ (List.mem_cons_of_mem _ List.mem_cons_self),rfl,_,rfl,_,rfl,Q6,fun p hp=>q1 hk _ p (B8 hp _) B1⟩,fun j hj hjl H' hb hd=>⟨_,rfl,_,rfl,Q6,fun p hp=>?_⟩⟩⟩
  have gp := B8 hp (.tup [.str (Str.ofString "done"),.non])
  exact q2 j hj hjl _ p (fun b o h1 h2 hbo=>gp _ _ (hb b o h1 h2 hbo)) (hd.same gp) B1
end
end Law
namespace Law
open PySem L2 L2.Sp
theorem tY {E : Nat → Nat → Prop} {b : Nat} : ∀ {a : Nat} {r : List Nat},rP E (a :: r) → (a :: r).getLast? = some b → Rch E a b
 | a,[],_,h=>by cases h; exact .refl _
 | a,y :: r,hc,h=>by
  have ih := tY (a := y) (r := r) hc.2 (by simpa using h)
  exact (Rch.snoc (.refl a) hc.1).trans ih
theorem tO {n : Nat} {G I : Nat → Nat → Bool} {p : List Nat} (h : sC n G I p) (hn : rY n G I) : False := by
 obtain ⟨a,b,h1,h2,h3,h4⟩ := h.cl
 cases p with
 | nil=>cases h1
 | cons x r =>
  cases h1
  exact hn b a h3 h4 (tY h.ch h2)
theorem never {X : Cx} : S7 (M0 X.prog X.w) X (fun _ _ _=>False) := by
 intro pins σ H s e s' I h
 obtain ⟨ex,cls,H',_,_,_,_,_,_,z⟩ := h
 exact z.elim
theorem AM1 : (["_law_told"] : List Str).Nodup := by decide +kernel
section
variable {P : Program} {w : World} {K : PySem.W.Frag} {mg : Str → Option Value} {base : Heap} {f : Addr} {fd : FuncData} {D C G N : Addr}
theorem AU4 {H : Hp} {p : Addr} {a b : V} {da db : PyData} (h : H p = some (.tup [a,b])) (ha : P0 K H da a) (hb : P0 K H db b) : P0 K H (.tuple [da,db]) (.ref p) := by
 simp only [P0]
 refine ⟨p,_,rfl,SqT.of h,?_⟩
 simp only [W5]
 exact ⟨a,_,rfl,ha,b,_,rfl,hb,rfl⟩
theorem vL {d : PyData} (h : d.canLay0 = true) : PyData.eqv d d = true := PySem.SeqAt.eqv_refl d h
theorem Z2 {H : Hp} {p p2 : Addr} {sx : Str} {b : V} {db : PyData} {Q : VK} (hp : H p = some (.tup [.str sx,b])) (hn : H p2 = none) (hb : ∀ H,P0 K H db b) (hc : (PyData.tuple [.str sx,db]).canLay0 = true) (hd : (PyData.tuple [.str sx,db]).depth ≤ 60)
  (q : Q (.bl true) (B6 H p2 (.tup [.str sx,b]))) : zO K (.ref p) (.ref p2) (B6 H p2 (.tup [.str sx,b])) Q := by
 refine ⟨_,_,AU4 (da := .str sx) (db := db) (B8 hn _ _ _ hp) (by simp only [P0]) (hb _),AU4 (da := .str sx) (db := db) B1 (by simp only [P0]) (hb _),hc,hc,by omega,?_⟩
 rw [vL hc]
 exact q
theorem GL.get : ∀ {ls : List (List Nat)} {ts : List Tn} {rs : List RG} {i : Nat} {l : List Nat},GL ls ts rs → ls[i]? = some l → ∃ t r,ts[i]? = some t ∧ Gd l t r
 | _,_,_,i,l,.nil,h=>by cases h
 | _,_,_,0,l,.cons a b,h=>by cases h; exact ⟨_,_,rfl,a⟩
 | _,_,_,i + 1,l,.cons a b,h=>by
  rw [List.getElem?_cons_succ] at h
  obtain ⟨t,r,h1,h2⟩ := GL.get b h
  exact ⟨t,r,by rw [List.getElem?_cons_succ]; exact h1,h2⟩
def AW7 (a b c d : Addr) (H H' : Hp) : Prop := ∀ x o,x ≠ a → x ≠ b → x ≠ c → x ≠ d → H x = some o → H' x = some o
abbrev iZ : Stmt := O5 55
theorem gE : D7 ["_law_desk","_law_lines","_law_state","_law_names","_law_way","_law_number","_law_line_here","_law_rows"] ["_law_desk","_law_lines","_law_state","_law_names"] (B3 iZ) := ⟨rfl,rfl,rfl,by decide +kernel,rfl,by decide +kernel,by decide +kernel⟩
structure DeedI (K : PySem.W.Frag) (H : Hp) (D dk dx ll lr lw st ln : Addr) (ls : List (List Nat)) (ts : List Tn) (rs : List RG) (ns : List Wd) : Prop where
 d : DO K H D dk dx ll lr ls ts
 gl : GL ls ts rs
 w : H lw = some (.lst (ST ls))
 s : ∃ x : Int,H st = some (.lst [.int x])
 n : H ln = some (.lst (ST ns))
 pl : Pl ns
 n1 : lw ≠ ll
 n2 : lw ≠ lr
 n3 : lw ≠ st
 n4 : st ≠ ll
 n5 : st ≠ lr
 n6 : ln ≠ st
 n7 : ln ≠ lw
 n8 : ln ≠ ll
 n9 : ln ≠ lr
def qI (K : PySem.W.Frag) (D : Addr) : Sp := fun args H Q _=>∃ dk dx ll lr lw st ln ls ts rs ns,args = [.ref dk,.ref lw,.ref st,.ref ln] ∧ DeedI K H D dk dx ll lr lw st ln ls ts rs ns ∧ ls.length ≤ 18 ∧
 ∀ H' ls' ts' rs',AW7 st lw ll lr H H' → DeedI K H' D dk dx ll lr lw st ln ls' ts' rs' ns → ls'.length ≤ ls.length + 1 → Q (.bl true) H'
theorem DeedI.ds {H H' : Hp} {dk dx ll lr lw st ln : Addr} {ls : List (List Nat)} {ts : List Tn} {rs : List RG} {ns : List Wd} (h : DeedI K H D dk dx ll lr lw st ln ls ts rs ns) (d : DS st H H') : DeedI K H' D dk dx ll lr lw st ln ls ts rs ns := by
 obtain ⟨vs,h1,h2⟩ := h.d.ro
 have ndk : dk ≠ st := fun e=>by obtain ⟨x,hx⟩ := h.s; have := h.d.ob; rw [e,hx] at this; cases this
 exact ⟨⟨d.g _ _ ndk h.d.ob,d.g _ _ (Ne.symm h.n4) h.d.li,⟨vs,d.g _ _ (Ne.symm h.n5) h1,h2.kp d.kp⟩,h.d.ne⟩,h.gl,d.g _ _ h.n3 h.w,d.s,d.g _ _ h.n6 h.n,h.pl,h.n1,h.n2,h.n3,h.n4,h.n5,h.n6,h.n7,h.n8,h.n9⟩
theorem DeedI.same {H H' : Hp} {dk dx ll lr lw st ln : Addr} {ls : List (List Nat)} {ts : List Tn} {rs : List RG} {ns : List Wd} (h : DeedI K H D dk dx ll lr lw st ln ls ts rs ns) (g : Same H H') : DeedI K H' D dk dx ll lr lw st ln ls ts rs ns := by
 obtain ⟨x,hx⟩ := h.s
 exact h.ds ((DS.start hx).same g)
theorem DO.but {H : Hp} {dk dx ll lr a : Addr} {o : HO} {ls : List (List Nat)} {ts : List Tn} (h : DO K H D dk dx ll lr ls ts) (k : Kp K H (B6 H a o)) (h1 : a ≠ ll) (h2 : a ≠ lr) (h3 : dk ≠ a) : DO K (B6 H a o) D dk dx ll lr ls ts := by
 obtain ⟨vs,h4,h5⟩ := h.ro
 exact ⟨by rw [B5 h3]; exact h.ob,by rw [B5 (Ne.symm h1)]; exact h.li,⟨vs,by rw [B5 (Ne.symm h2)]; exact h4,h5.kp k⟩,h.ne⟩
theorem DeedI.ndk {H : Hp} {dk dx ll lr lw st ln : Addr} {ls : List (List Nat)} {ts : List Tn} {rs : List RG} {ns : List Wd} (h : DeedI K H D dk dx ll lr lw st ln ls ts rs ns) : dk ≠ lw := fun e=>by have := h.d.ob; rw [e,h.w] at this; cases this
theorem AL4 (F : Fun K "_law_deed" "_law_deed" iZ f fd) (NX' : Cal P w K mg base 1 "_law_next" ["_law_state","_law_many"] bD) (DONE : Cal P w K mg base 40 "_law_done" ["_law_desk","_law_line_here","_law_number"] (qH K D)) (NOR : Cal P w K mg base 2 "_law_no_row" ["_law_state","_law_names"] (uO K)) (LINE : Cal P w K mg base 2 "_law_line" ["_law_state","_law_names"] uP)
  (RING : Cal P w K mg base 3 "ring" ["rows"] (kZ K)) (ROW : K8 P w K mg base 38 "read_row" ["line"] (kX K C (aO (P6 6)))) (m1 : mg "len" = none) : FnOk P w K mg base K3 41 f fd ["_law_desk","_law_lines","_law_state","_law_names"] (qI K D) := by
 refine F.ok gE (fun vs H Q E h=>?_) (fun cdv A outer s H vs Q E hr h=>?_)
 ·obtain ⟨dk,dx,ll,lr,lw,st,ln,ls,ts,rs,ns,rfl,_⟩ := h
  rfl
 obtain ⟨dk,dx,ll,lr,lw,st,ln,ls,ts,rs,ns,rfl,I,h18,q⟩ := h
 have hr1 := hr.mono (show 1 ≤ 40 by decide)
 have hr2 := hr.mono (show 2 ≤ 40 by decide)
 have hr3 := hr.mono (show 3 ≤ 40 by decide)
 have hr38 := hr.mono (show 38 ≤ 40 by decide)
 obtain ⟨x0,hx0⟩ := I.s
 refine ⟨_,B2 (D3 (i := 4) gE.nd rfl (Or.inl rfl) (E3 NX' hr1 rfl (A9 (pv 2) (A9 B7 B0)))) E5,?_⟩
 refine ⟨_,rfl,st,x0,8,rfl,hx0,by decide,fun y1 way b0 b1=>?_⟩
 have D1 := (DS.start hx0).next y1
 have I1 := I.ds D1
 generalize B6 H st (.lst [.int y1]) = H1 at D1 I1 ⊢
 obtain ⟨x1,hx1⟩ := I1.s
 have fin0 : ∀ {H'},DS st H H' → Q (.bl true) H' := fun {H'} d=>q H' ls ts rs (fun b o h1 _ _ _ hb=>d.g b o h1 hb) (I.ds d) (by omega)
 refine ⟨_,B2 (G3 (E1 N4 (pv 4) B7 (D9 _)) (B4 (D4 (N8 (bL hr.units) (E3 DONE hr rfl (A9 (pv 0) (A9 (E3 NOR hr2 rfl (A9 (pv 2) (A9 (pv 3) B0))) (A9 N2 B0)))) (M6 (A9 B9 (A9 N2 B0))) (D9 _)))) E4) E5,?_⟩
 refine ⟨_,rfl,rfl,_,rfl,R0 (fun _=>?_) (fun _=>?_)⟩
 ·refine ⟨_,rfl,_,rfl,_,rfl,st,ln,x1,ns,rfl,hx1,I1.n,I1.n6,I1.pl,fun H2 v d2 hbad=>?_⟩
  have I2 := I1.ds d2
  refine ⟨dk,dx,ll,lr,ls,ts,rs,v,.non,rfl,I2.d,I2.gl,by omega,.inl ⟨rfl,.inl ⟨hbad,fun H3 p g3 hp=>⟨Q6,fun p2 hp2=>Z2 (db := .none) hp hp2 (fun _=>by simp only [P0]) (by decide +kernel) (by decide) (fin0 ((D1.more d2).same (g3.trans (B8 hp2 _))))⟩⟩⟩⟩
 refine ⟨_,B2 (G3 (E1 fC (pv 4) B7 (D9 _)) E5 E4) E5,?_⟩
 refine ⟨_,rfl,_,_,rfl,rfl,_,rfl,R0 (fun _=>?_) (fun _=>?_)⟩
 ·refine ⟨_,B2 (D3 (i := 5) gE.nd rfl (Or.inl rfl) (G9 dY (E3 NX' hr1 rfl (A9 (pv 2) (A9 (G9 U0 (G1 K4 rfl m1 PySem.boot_len (A9 (pv 1) B0)) B7) B0))) B7)) E5,?_⟩
  refine ⟨_,rfl,_,rfl,lw,_,rfl,.inl (SqL.of I1.w),_,_,rfl,rfl,st,x1,_,rfl,hx1,by omega,fun y2 r c0 c1=>⟨_,_,rfl,rfl,?_⟩⟩
  rw [List.length_map] at c1
  have D2 := D1.next y2
  have I2 := I.ds D2
  generalize B6 H1 st (.lst [.int y2]) = H2 at D2 I2 ⊢
  refine ⟨_,B2 (G3 (dS (zQ AY6 fC B7 (pv 5) (G1 K4 rfl m1 PySem.boot_len (A9 (pv 1) B0)))) E5 E4) E5,?_⟩
  refine ⟨_,rfl,_,_,rfl,rfl,_,rfl,R0 (fun c2=>⟨_,rfl,lw,_,rfl,.inl (SqL.of I2.w),_,_,rfl,rfl,_,rfl,?_⟩) (fun c2=>?_)⟩
  ·have c2 := of_decide_eq_true c2
   refine R0 (fun c3=>?_) (fun c3=>?_)
   ·have c3 : ¬ r - 1 < (ls.length : Int) := by simpa using c3
    refine ⟨_,B4 (D4 (N8 (bL hr.units) (E3 DONE hr rfl (A9 (pv 0) (A9 B9 (A9 (pv 5) B0)))) (M6 (A9 B9 (A9 N2 B0))) (D9 _))),?_⟩
    refine ⟨_,rfl,_,rfl,dk,dx,ll,lr,ls,ts,rs,_,_,rfl,I2.d,I2.gl,by omega,.inr ⟨r - 1,rfl,fun _ H3 p g3 hp=>⟨Q6,fun p2 hp2=>Z2 (db := .none) hp hp2 (fun _=>by simp only [P0]) (by decide +kernel) (by decide) (fin0 (D2.same (g3.trans (B8 hp2 _))))⟩,fun j hj hjl=>by omega⟩⟩
   ·have c3 : r - 1 < (ls.length : Int) := by simpa using c3
    obtain ⟨j,hj⟩ := Int.eq_ofNat_of_zero_le c2
    have hjl : j < ls.length := by omega
    have sq : seqIndex? (r - 1) (ST ls).length = some j := by
     rw [hj,List.length_map]
     unfold seqIndex?
     simp
     omega
    refine ⟨_,B2 (G4 (O0 PySem.F.plainAttrs_list PySem.F.slot_list_pop PySem.F.type_list_pop fJ (pv 1) (A9 (pv 5) B0)))
     (B4 (D4 (N8 (bL hr.units) (E3 DONE hr rfl (A9 (pv 0) (A9 B9 (A9 (pv 5) B0)))) (M6 (A9 B9 (A9 N2 B0))) (D9 _)))),?_⟩
    refine ⟨_,rfl,.inl ⟨rfl,_,SqL.of I2.w⟩,_,rfl,lw,_,_,j,.str (S ls[j]),rfl,rfl,I2.w,by omega,by omega,sq,by rw [List.getElem?_map,List.getElem?_eq_getElem hjl]; rfl,?_⟩
    have d3 := I2.d.but (Kp.lst I2.w) I2.n1 I2.n2 I2.ndk (o := .lst ((ST ls).eraseIdx j))
    refine ⟨_,rfl,_,rfl,dk,dx,ll,lr,ls,ts,rs,_,_,rfl,d3,I2.gl,by omega,.inr ⟨r - 1,rfl,fun z=>by omega,fun j' hj' hjl' H3 p hb hd hp=>⟨Q6,fun p2 hp2=>Z2 (db := .none) hp hp2 (fun _=>by simp only [P0]) (by decide +kernel) (by decide) ?_⟩⟩⟩
    have e : j' = j := by omega
    subst e
    have e2 := B8 hp2 (.tup [.str (Str.ofString "done"),.non])
    refine q _ (ls.eraseIdx j') (ts.eraseIdx j') (rs.eraseIdx j') (fun b o h1 h2 h3 h4 hbo=>e2 _ _ (hb b o h3 h4 (by rw [B5 h2]; exact D2.g b o h1 hbo))) ?_ (by rw [List.length_eraseIdx_of_lt hjl]; omega)
    have hw := e2 _ _ (hb lw _ I2.n1 I2.n2 B1)
    rw [hR] at hw
    obtain ⟨x2,hx2⟩ := I2.s
    exact ⟨hd.same e2,I2.gl.erase j',hw,⟨x2,e2 _ _ (hb st _ I2.n4 I2.n5 (by rw [B5 (Ne.symm I2.n3)]; exact hx2))⟩,e2 _ _ (hb ln _ I2.n8 I2.n9 (by rw [B5 I2.n7]; exact I2.n)),I.pl,I.n1,I.n2,I.n3,I.n4,I.n5,I.n6,I.n7,I.n8,I.n9⟩
  ·have c2 : ¬ 0 ≤ r - 1 := fun z=>c2 (decide_eq_true z)
   refine ⟨_,rfl,E8 ?_⟩
   refine ⟨_,B4 (D4 (N8 (bL hr.units) (E3 DONE hr rfl (A9 (pv 0) (A9 B9 (A9 (pv 5) B0)))) (M6 (A9 B9 (A9 N2 B0))) (D9 _))),?_⟩
   refine ⟨_,rfl,_,rfl,dk,dx,ll,lr,ls,ts,rs,_,_,rfl,I2.d,I2.gl,by omega,.inr ⟨r - 1,rfl,fun _ H3 p g3 hp=>⟨Q6,fun p2 hp2=>Z2 (db := .none) hp hp2 (fun _=>by simp only [P0]) (by decide +kernel) (by decide) (fin0 (D2.same (g3.trans (B8 hp2 _))))⟩,fun j hj hjl=>by omega⟩⟩
 refine ⟨_,B2 (D3 (i := 6) gE.nd rfl (Or.inl rfl) (E3 LINE hr2 rfl (A9 (pv 2) (A9 (pv 3) B0)))) E5,?_⟩
 refine ⟨_,rfl,_,rfl,st,ln,x1,ns,rfl,hx1,I1.n,I1.n6,I1.pl,fun H2 l d2 ⟨t,rg,hg⟩=>?_⟩
 have D2 := D1.more d2
 have I2 := I1.ds d2
 have hlen := I2.gl.len
 refine ⟨_,B2 (sZ (i := 7) (N' := ["_law_told"]) (fr := [none]) (own := [0]) ⟨rfl,rfl,rfl,rfl,rfl,rfl,rfl⟩ rfl gE.nd rfl rfl (X5 (G9 wY (pv 1) (J0 (A9 (pv 6) B0)))) (fun _ _ _ _=>M3 (i := 0) AM1 rfl (Or.inl rfl)) (Z0 0) (fun _ _ _ _=>Y7) (fun _ _ _ _=>J9 ROW hr38 rfl never (A9 (pv 0) B0))) E5,?_⟩
 refine ⟨_,rfl,_,rfl,S4,fun l1 hl1=>?_⟩
 have e1 := B8 hl1 (.lst [.str (S l)])
 refine ⟨lw,l1,_,_,rfl,rfl,e1 _ _ I2.w,B1,Nat.le_of_lt (Q7 (by simp; omega)),fun l2 hl2=>?_⟩
 have e2 := B8 hl2 (.lst (ST ls ++ [.str (S l)]))
 refine ⟨l2,rfl,⟨_,SqL.of B1⟩,fun l3 hl3=>?_⟩
 have e12 := e1.trans e2
 have hq2 : B6 (B6 H2 l1 (.lst [.str (S l)])) l2 (.lst (ST ls ++ [.str (S l)])) l2 = some (.lst (ST (ls ++ [l]))) := by rw [B1]; simp [ST]
 generalize B6 (B6 H2 l1 (.lst [.str (S l)])) l2 (.lst (ST ls ++ [.str (S l)])) = H3 at e12 hq2 hl3 ⊢
 have e3 := B8 hl3 (.lst [])
 have gs := I2.gl.snoc hg
 refine hV (xs := ST (ls ++ [l])) (fun i ys H'=>Same H3 H' ∧ H' l3 = some (.lst ys) ∧ TAll K H' ((ts ++ [t]).take i) ys) ⟨e3,B1,by rw [List.take_zero]; exact TAll.nil⟩ (fun i ys H' _ h=>SqL.of (h.1 _ _ hq2)) (fun i x ys H' hx ⟨g,hl,ht⟩=>?_) (fun ys H' ⟨g,hl,ht⟩=>?_)
 ·rw [List.getElem?_map,Option.map_eq_some_iff] at hx
  obtain ⟨l',hl',rfl⟩ := hx
  obtain ⟨t',r',ht',hg'⟩ := gs.get hl'
  obtain ⟨ws,hw,wk,hrow⟩ := hg'.rd
  have hyl := ht.length
  have hi : i < (ls ++ [l]).length := (List.getElem?_eq_some_iff.mp hl').1
  rw [List.length_append,List.length_singleton] at hi
  rw [List.length_take] at hyl
  dsimp only [X0,R1]
  refine jW ⟨_,rfl,_,rfl,.inr ⟨l',rfl,hg'.sm,.inr ⟨ws,some t',hw,wk,hrow,fun u H5 g5 hu=>⟨g5 _ _ hl,Q7 (by omega),?_,B1,?_⟩⟩⟩⟩
  ·intro b o hb
   rw [B5 (C0 hb hl3)]
   exact g5 _ _ (g _ _ hb)
  ·rw [List.take_add_one,ht']
   have kk := Kp.lst (K := K) (o := .lst (ys ++ [u])) (g5 _ _ hl)
   exact ((ht.kp (Kp.same g5)).kp kk).append (TAll.one (TV.kp kk hu))
 rw [show (ST (ls ++ [l])).length = (ts ++ [t]).length by simp [ST,hlen.1],List.take_length] at ht
 have hpair := vH gs ht
 have g2 := e12.trans g
 refine ⟨_,B2 (G3 (E1 dZ (E3 RING hr3 rfl (A9 (pv 7) B0)) N2 (D9 _)) E5 E4) E5,?_⟩
 refine ⟨_,rfl,l3,ys,rs ++ [rg],rfl,hl,hpair,by rw [List.length_append,List.length_singleton]; omega,fun H6 lp p g6 _ hlp hring=>⟨rfl,_,rfl,E8 ?_⟩,fun H6 g6 hno=>⟨rfl,_,rfl,F0 ?_⟩⟩
 ·have I6 := I2.same (g2.trans g6)
  refine ⟨_,B4 (D4 (N8 (bL hr.units) (E3 DONE hr rfl (A9 (pv 0) (A9 (pv 6) (A9 N2 B0)))) (M6 (A9 B9 (A9 N2 B0))) (D9 _))),?_⟩
  exact ⟨_,rfl,_,rfl,dk,dx,ll,lr,ls,ts,rs,_,.non,rfl,I6.d,I6.gl,by omega,.inl ⟨rfl,.inr ⟨l,t,rg,rfl,hg,fun hno=>(tO hring hno).elim,fun y hy H7 p7 g7 hp7=>⟨Q6,fun p2 hp2=>Z2 (db := .none) hp7 hp2 (fun _=>by simp only [P0]) (by decide +kernel) (by decide) (fin0 (D2.same ((g2.trans g6).trans (g7.trans (B8 hp2 _)))))⟩⟩⟩⟩
 ·have g6 := g2.trans g6
  have I6 := I2.same g6
  refine ⟨_,B2 (G4 (O0 PySem.F.plainAttrs_list PySem.F.slot_list_append PySem.F.type_list_append J7 (pv 1) (A9 (pv 6) B0)))
   (B4 (D4 (N8 (bL hr.units) (E3 DONE hr rfl (A9 (pv 0) (A9 (pv 6) (A9 N2 B0)))) (M6 (A9 B9 (A9 (G9 dY (G1 K4 rfl m1 PySem.boot_len (A9 (pv 1) B0)) B7) B0))) (D9 _)))),?_⟩
  refine ⟨_,rfl,.inl ⟨rfl,_,SqL.of I6.w⟩,_,rfl,lw,_,_,rfl,rfl,I6.w,Q7 (by rw [List.length_map]; omega),?_⟩
  have d7 := I6.d.but (Kp.lst I6.w) I6.n1 I6.n2 I6.ndk (o := .lst (ST ls ++ [.str (S l)]))
  refine ⟨_,rfl,_,rfl,dk,dx,ll,lr,ls,ts,rs,_,.non,rfl,d7,I6.gl,by omega,.inl ⟨rfl,.inr ⟨l,t,rg,rfl,hg,fun _ H7 p7 hb hd hp7=>?_,fun y hy=>(tO hy hno).elim⟩⟩⟩
  have hw : H7 lw = some (.lst (ST (ls ++ [l]))) := by rw [hb lw _ I6.n1 I6.n2 B1]; simp [ST]
  have el : (((ST (ls ++ [l])).length : Nat) : Int) - 1 = (ls.length : Int) := by rw [List.length_map,List.length_append,List.length_singleton]; omega
  refine ⟨_,rfl,lw,_,rfl,.inl (SqL.of hw),_,_,rfl,rfl,Q6,fun p2 hp2=>?_⟩
  dsimp only
  rw [el]
  refine Z2 (db := .int (ls.length : Int)) hp7 hp2 (fun _=>by simp only [P0]) ?_ ?_ ?_
  ·simp only [PyData.canLay0,PyData.canLayAll0,Bool.and_true]
   decide +kernel
  ·simp [PyData.depth,PyData.depthAll]
  have e7 := B8 hp2 (.tup [.str (Str.ofString "done"),.int (ls.length : Int)])
  refine q _ (ls ++ [l]) (ts ++ [t]) (rs ++ [rg]) (fun b o h1 h2 h3 h4 hbo=>e7 _ _ (hb b o h3 h4 (by rw [B5 h2]; exact g6 _ _ (D2.g b o h1 hbo)))) ?_ (by rw [List.length_append,List.length_singleton]; omega)
  obtain ⟨x6,hx6⟩ := I6.s
  exact ⟨hd.same e7,gs,e7 _ _ hw,⟨x6,e7 _ _ (hb st _ I.n4 I.n5 (by rw [B5 (Ne.symm I.n3)]; exact hx6))⟩,e7 _ _ (hb ln _ I.n8 I.n9 (by rw [B5 I.n7]; exact I6.n)),I.pl,I.n1,I.n2,I.n3,I.n4,I.n5,I.n6,I.n7,I.n8,I.n9⟩
end
end Law
namespace Law
open PySem L2 L2.Sp
theorem lO {L C : List Addr} {a : Addr} (N : L.Nodup) (i : Nat) (is : List Nat) (hi : L[i]? = some a) (h : is.map (fun j=>L[j]?) = C.map some) (hn : i ∉ is) : a ∉ C := by
 intro hc
 have h1 : some a ∈ C.map some := List.mem_map_of_mem hc
 rw [← h] at h1
 obtain ⟨j,hj,e⟩ := List.mem_map.mp h1
 have hl : i < L.length := (List.getElem?_eq_some_iff.mp hi).1
 have := (List.getElem?_inj hl N).mp (hi.trans e.symm)
 exact hn (this ▸ hj)
theorem Q9 {L : List Addr} {a b : Addr} (N : L.Nodup) (i j : Nat) (hi : L[i]? = some a) (hj : L[j]? = some b) (hn : i ≠ j) : a ≠ b := by
 have := lO (C := [b]) N i [j] hi (by simp [hj]) (by simpa using hn)
 simpa using this
structure NA (H : Hp) (L : List Addr) : Prop where
 nd : L.Nodup
 al : ∀ a ∈ L,∃ o,H a = some o
theorem NA.add {H H' : Hp} {L : List Addr} {l : Addr} {o : HO} (n : NA H L) (h : H l = none) (g : Same H H') (h' : H' l = some o) : NA H' (l :: L) := by
 refine ⟨List.nodup_cons.mpr ⟨fun hl=>?_,n.nd⟩,fun a ha=>?_⟩
 ·obtain ⟨u,hu⟩ := n.al l hl
  rw [h] at hu; cases hu
 ·rcases List.mem_cons.mp ha with rfl | ha
  ·exact ⟨o,h'⟩
  ·obtain ⟨u,hu⟩ := n.al a ha
   exact ⟨u,g _ _ hu⟩
theorem NA.new {H : Hp} {L : List Addr} {l : Addr} (n : NA H L) (h : H l = none) (o : HO) : NA (B6 H l o) (l :: L) := n.add h (B8 h o) B1
theorem NA.add2 {H H' : Hp} {L : List Addr} {l m : Addr} {o o' : HO} (n : NA H L) (h : H l = none) (h2 : H m = none) (hn : m ≠ l) (g : Same H H') (h' : H' l = some o) (h'' : H' m = some o') : NA H' (m :: l :: L) := by
 have a := n.add h g h'
 refine ⟨List.nodup_cons.mpr ⟨fun hm=>?_,a.nd⟩,fun b hb=>?_⟩
 ·rcases List.mem_cons.mp hm with e | hm
  ·exact hn e
  ·obtain ⟨u,hu⟩ := n.al m hm
   rw [h2] at hu; cases hu
 ·rcases List.mem_cons.mp hb with rfl | hb
  ·exact ⟨_,h''⟩
  ·exact a.al b hb
def kP (C : List Addr) (H H' : Hp) : Prop := ∀ c o,c ∉ C → H c = some o → H' c = some o
theorem bY {H : Hp} {a b l : Addr} {o o' : HO} (h : B6 (B6 H a o) b o' l = none) : H l = none := by
 have n1 : l ≠ b := fun e=>by rw [e,B1] at h; cases h
 rw [B5 n1] at h
 have n2 : l ≠ a := fun e=>by rw [e,B1] at h; cases h
 rw [B5 n2] at h
 exact h
def jN (ls : List (List Nat)) : PyData := .list (ls.map fun l=>.str (S l))
section
variable {P : Program} {w : World} {K : PySem.W.Frag} {mg : Str → Option Value} {base : Heap} {f fi : Addr} {fd fdi : FuncData} {D C G N : Addr}
theorem sR (H : Hp) : ∀ ls : List (List Nat),W5 K H (ls.map fun l=>.str (S l)) (ST ls)
 | []=>by simp only [List.map_nil,W5,ST]
 | l :: ls=>by
  simp only [List.map_cons,W5,ST]
  exact ⟨_,_,rfl,by simp only [P0],sR H ls⟩
theorem iG {H : Hp} {a : Addr} {ls : List (List Nat)} (h : H a = some (.lst (ST ls))) : P0 K H (jN ls) (.ref a) := by
 simp only [jN,P0]
 exact ⟨a,_,rfl,SqL.of h,sR H ls⟩
theorem zE {l : List Nat} (h : S6 l) : PyData.strOk (S l) = true := by
 unfold PyData.strOk
 rw [← Array.all_toList,List.all_eq_true]
 intro c hc
 have := h.2 c (by simpa [S] using hc)
 simp; omega
theorem aT {ls : List (List Nat)} (h : ∀ l ∈ ls,S6 l) : (jN ls).canLay0 = true := by
 simp only [jN,PyData.canLay0]
 induction ls with
 | nil=>simp [PyData.canLayAll0]
 | cons l ls ih =>
  simp only [List.map_cons,PyData.canLayAll0,PyData.canLay0,zE (h l List.mem_cons_self),ih (fun t ht=>h t (List.mem_cons_of_mem _ ht)),Bool.and_true]
theorem oI (ls : List (List Nat)) : (jN ls).depth ≤ 60 := by
 have : ∀ ls : List (List Nat),PyData.depthAll (ls.map fun l=>.str (S l)) = 0 := fun ls=>by
  induction ls with
  | nil=>rfl
  | cons l ls ih=>simp [PyData.depthAll,PyData.depth,ih]
 simp [jN,PyData.depth,this]
theorem GL.small : ∀ {ls : List (List Nat)} {ts : List Tn} {rs : List RG},GL ls ts rs → ∀ l ∈ ls,S6 l
 | _,_,_,.nil,l,h=>by cases h
 | _,_,_,.cons a b,l,h=>by
  rcases List.mem_cons.mp h with rfl | h
  ·exact a.sm
  ·exact GL.small b l h
def SideI (K : PySem.W.Frag) (H : Hp) (D dk dx lw ll lr : Addr) (i : Nat) : Prop := ∃ ls ts rs,DO K H D dk dx ll lr ls ts ∧ GL ls ts rs ∧ H lw = some (.lst (ST ls)) ∧ ls.length ≤ i
def HeldV (H : Hp) (L : List Addr) (v : V) : Prop := ∃ p a b xs,v = .ref p ∧ H p = some (.tup [.ref a,.ref b]) ∧ H a = some (.lst (ST xs)) ∧ H b = some (.lst (ST xs)) ∧ a ∉ L ∧ b ∉ L ∧ ∀ l ∈ xs,S6 l
abbrev LA (sl hl lls ld ln : Addr) (lw ll lr : Nat → Addr) : List Addr := [sl,hl,lls,lw 1,lw 0,ld,lr 1,ll 1,lr 0,ll 0,ln]
structure LI (K : PySem.W.Frag) (H : Hp) (D sl hl lls ld ln : Addr) (dk dx lw ll lr : Nat → Addr) (ns : List Wd) (ms : List V) (L : List Addr) (i m : Nat) : Prop where
 pl : Pl ns
 n : H ln = some (.lst (ST ns))
 d : H ld = some (.lst [.ref (dk 0),.ref (dk 1)])
 l : H lls = some (.lst [.ref (lw 0),.ref (lw 1)])
 s : H sl = some (.lst ms)
 h : ∃ hs,H hl = some (.lst hs) ∧ hs.length ≤ m ∧ ∀ v ∈ hs,HeldV H L v
 sd : ∀ k,k < 2 → SideI K H D (dk k) (dx k) (lw k) (ll k) (lr k) i
theorem AT0 {H H' : Hp} {C : List Addr} (g : kP C H H') (hc : ∀ c ∈ C,∃ ys,H c = some (.lst ys)) : Kp K H H' := by
 intro a ys h
 refine h.keep fun b u=>⟨fun q=>g _ _ (fun z=>?_) q,fun o q=>g _ _ (fun z=>?_) q⟩
 ·obtain ⟨ys,e⟩ := hc b z
  rw [e] at q; cases q
 ·obtain ⟨ys,e⟩ := hc b z
  rw [e] at q; cases q
theorem SideI.but {H H' : Hp} {Cs : List Addr} {dk dx lw ll lr : Addr} {i : Nat} (h : SideI K H D dk dx lw ll lr i) (g : kP Cs H H') (hc : ∀ c ∈ Cs,∃ ys,H c = some (.lst ys)) (h1 : lw ∉ Cs) (h2 : ll ∉ Cs) (h3 : lr ∉ Cs) : SideI K H' D dk dx lw ll lr i := by
 obtain ⟨ls,ts,rs,d,gl,hw,hi⟩ := h
 obtain ⟨vs,hv,ht⟩ := d.ro
 have hd : dk ∉ Cs := fun z=>by
  obtain ⟨ys,e⟩ := hc dk z
  have := d.ob
  rw [e] at this; cases this
 exact ⟨ls,ts,rs,⟨g _ _ hd d.ob,g _ _ h2 d.li,⟨vs,g _ _ h3 hv,ht.kp (AT0 g hc)⟩,d.ne⟩,gl,g _ _ h1 hw,hi⟩
theorem HeldV.but {H H' : Hp} {Cs L : List Addr} {v : V} (h : HeldV H L v) (g : kP Cs H H') (hc : ∀ c ∈ Cs,c ∈ L ∧ ∃ ys,H c = some (.lst ys)) : HeldV H' L v := by
 obtain ⟨p,a,b,xs,e,hp,ha,hb,na,nb,sm⟩ := h
 exact ⟨p,a,b,xs,e,g _ _ (fun z=>by obtain ⟨_,ys,e⟩ := hc p z; rw [e] at hp; cases hp) hp,g _ _ (fun z=>na (hc a z).1) ha,g _ _ (fun z=>nb (hc b z).1) hb,na,nb,sm⟩
variable {sl hl lls ld ln st : Addr} {dk dx lw ll lr : Nat → Addr} {ns : List Wd} {ms : List V} {i m : Nat} {H H' : Hp} {L : List Addr}
theorem LI.same (h : LI K H D sl hl lls ld ln dk dx lw ll lr ns ms L i m) (g : Same H H') : LI K H' D sl hl lls ld ln dk dx lw ll lr ns ms L i m := by
 have g' : kP [] H H' := fun c o _=>g c o
 obtain ⟨hs,h1,h2,h3⟩ := h.h
 exact ⟨h.pl,g _ _ h.n,g _ _ h.d,g _ _ h.l,g _ _ h.s,⟨hs,g _ _ h1,h2,fun v hv=>(h3 v hv).but g' (fun c hc=>by cases hc)⟩,fun k hk=>(h.sd k hk).but g' (fun c hc=>by cases hc) (by simp) (by simp) (by simp)⟩
theorem LI.start {x : Int} (h : LI K H D sl hl lls ld ln dk dx lw ll lr ns ms L i m) (hn : H st = none) : LI K (B6 H st (.lst [.int x])) D sl hl lls ld ln dk dx lw ll lr ns ms (st :: L) i m := by
 have g := B8 hn (.lst [.int x])
 have h' := h.same g
 obtain ⟨hs,h1,h2,h3⟩ := h.h
 refine ⟨h.pl,h'.n,h'.d,h'.l,h'.s,⟨hs,g _ _ h1,h2,fun v hv=>?_⟩,h'.sd⟩
 obtain ⟨p,a,b,xs,e,hp,ha,hb,na,nb,sm⟩ := h3 v hv
 refine ⟨p,a,b,xs,e,g _ _ hp,g _ _ ha,g _ _ hb,fun z=>?_,fun z=>?_,sm⟩
 ·rcases List.mem_cons.mp z with rfl | z
  ·rw [hn] at ha; cases ha
  ·exact na z
 ·rcases List.mem_cons.mp z with rfl | z
  ·rw [hn] at hb; cases hb
  ·exact nb z
theorem LI.stop (h : LI K H D sl hl lls ld ln dk dx lw ll lr ns ms (st :: L) i m) : LI K H D sl hl lls ld ln dk dx lw ll lr ns ms L i m := by
 obtain ⟨hs,h1,h2,h3⟩ := h.h
 refine ⟨h.pl,h.n,h.d,h.l,h.s,⟨hs,h1,h2,fun v hv=>?_⟩,h.sd⟩
 obtain ⟨p,a,b,xs,e,hp,ha,hb,na,nb,sm⟩ := h3 v hv
 exact ⟨p,a,b,xs,e,hp,ha,hb,fun z=>na (List.mem_cons_of_mem _ z),fun z=>nb (List.mem_cons_of_mem _ z),sm⟩
theorem LI.ds (h : LI K H D sl hl lls ld ln dk dx lw ll lr ns ms (st :: LA sl hl lls ld ln lw ll lr) i m) (N : (st :: LA sl hl lls ld ln lw ll lr).Nodup) (d : DS st H H') : LI K H' D sl hl lls ld ln dk dx lw ll lr ns ms (st :: LA sl hl lls ld ln lw ll lr) i m := by
 have g' : kP [st] H H' := fun c o hc=>d.g c o (by simpa using hc)
 have hc : ∀ c ∈ [st],c ∈ (st :: LA sl hl lls ld ln lw ll lr) ∧ ∃ ys,H c = some (.lst ys) := fun c hc=>by
  rw [List.mem_singleton.mp hc]
  obtain ⟨x,e⟩ := d.b
  exact ⟨List.mem_cons_self,_,e⟩
 have o : ∀ a ∈ LA sl hl lls ld ln lw ll lr,a ∉ [st] := fun a ha z=>(List.nodup_cons.mp N).1 (List.mem_singleton.mp z ▸ ha)
 obtain ⟨hs,h1,h2,h3⟩ := h.h
 refine ⟨h.pl,g' _ _ (o _ (by simp)) h.n,g' _ _ (o _ (by simp)) h.d,g' _ _ (o _ (by simp)) h.l,g' _ _ (o _ (by simp)) h.s,⟨hs,g' _ _ (o _ (by simp)) h1,h2,fun v hv=>(h3 v hv).but g' hc⟩,fun k hk=>?_⟩
 have : k = 0 ∨ k = 1 := by omega
 rcases this with rfl | rfl
 ·exact (h.sd 0 hk).but g' (fun c z=>(hc c z).2) (o _ (by simp)) (o _ (by simp)) (o _ (by simp))
 ·exact (h.sd 1 hk).but g' (fun c z=>(hc c z).2) (o _ (by simp)) (o _ (by simp)) (o _ (by simp))
theorem LI.deed (h : LI K H D sl hl lls ld ln dk dx lw ll lr ns ms (st :: LA sl hl lls ld ln lw ll lr) i m) (N : (st :: LA sl hl lls ld ln lw ll lr).Nodup) (hs : ∃ x : Int,H st = some (.lst [.int x])) {k : Nat} (hk : k < 2) :
  ∃ ls ts rs,ls.length ≤ i ∧ DeedI K H D (dk k) (dx k) (ll k) (lr k) (lw k) st ln ls ts rs ns := by
 obtain ⟨ls,ts,rs,d,gl,hw,hi⟩ := h.sd k hk
 refine ⟨ls,ts,rs,hi,?_⟩
 have : k = 0 ∨ k = 1 := by omega
 rcases this with rfl | rfl
 ·exact ⟨d,gl,hw,hs,h.n,h.pl,Q9 N 5 10 rfl rfl (by decide),Q9 N 5 9 rfl rfl (by decide),Q9 N 5 0 rfl rfl (by decide),Q9 N 0 10 rfl rfl (by decide),Q9 N 0 9 rfl rfl (by decide),Q9 N 11 0 rfl rfl (by decide),Q9 N 11 5 rfl rfl (by decide),Q9 N 11 10 rfl rfl (by decide),Q9 N 11 9 rfl rfl (by decide)⟩
 ·exact ⟨d,gl,hw,hs,h.n,h.pl,Q9 N 4 8 rfl rfl (by decide),Q9 N 4 7 rfl rfl (by decide),Q9 N 4 0 rfl rfl (by decide),Q9 N 0 8 rfl rfl (by decide),Q9 N 0 7 rfl rfl (by decide),Q9 N 11 0 rfl rfl (by decide),Q9 N 11 4 rfl rfl (by decide),Q9 N 11 8 rfl rfl (by decide),Q9 N 11 7 rfl rfl (by decide)⟩
theorem LI.done (h : LI K H D sl hl lls ld ln dk dx lw ll lr ns ms (st :: LA sl hl lls ld ln lw ll lr) i m) (N : (st :: LA sl hl lls ld ln lw ll lr).Nodup) {k : Nat} (hk : k < 2) {ls ls' : List (List Nat)} {ts ts' : List Tn} {rs rs' : List RG}
  (h0 : DeedI K H D (dk k) (dx k) (ll k) (lr k) (lw k) st ln ls ts rs ns) (b : AW7 st (lw k) (ll k) (lr k) H H') (h1 : DeedI K H' D (dk k) (dx k) (ll k) (lr k) (lw k) st ln ls' ts' rs' ns) (hi : ls'.length ≤ i + 1) : LI K H' D sl hl lls ld ln dk dx lw ll lr ns ms (st :: LA sl hl lls ld ln lw ll lr) (i + 1) m := by
 have g' : kP [st,lw k,ll k,lr k] H H' := fun c o hc=>by
  simp only [List.mem_cons,List.not_mem_nil,or_false,not_or] at hc
  exact b c o hc.1 hc.2.1 hc.2.2.1 hc.2.2.2
 have hc : ∀ c ∈ [st,lw k,ll k,lr k],∃ ys,H c = some (.lst ys) := fun c hc=>by
  simp only [List.mem_cons,List.not_mem_nil,or_false] at hc
  rcases hc with rfl | rfl | rfl | rfl
  ·obtain ⟨x,e⟩ := h0.s; exact ⟨_,e⟩
  ·exact ⟨_,h0.w⟩
  ·exact ⟨_,h0.d.li⟩
  ·obtain ⟨vs,e,_⟩ := h0.d.ro; exact ⟨_,e⟩
 have sk : SideI K H' D (dk k) (dx k) (lw k) (ll k) (lr k) (i + 1) := ⟨ls',ts',rs',h1.d,h1.gl,h1.w,hi⟩
 obtain ⟨hs,e1,e2,e3⟩ := h.h
 have up : ∀ {j},j < 2 → SideI K H' D (dk j) (dx j) (lw j) (ll j) (lr j) i → SideI K H' D (dk j) (dx j) (lw j) (ll j) (lr j) (i + 1) := fun _ ⟨a,b,c,d1,d2,d3,d4⟩=>⟨a,b,c,d1,d2,d3,by omega⟩
 have : k = 0 ∨ k = 1 := by omega
 rcases this with rfl | rfl
 ·have o : ∀ j,j ∉ [0,5,10,9] → ∀ {a},(st :: LA sl hl lls ld ln lw ll lr)[j]? = some a → a ∉ [st,lw 0,ll 0,lr 0] := fun j hj a ha=>lO N j [0,5,10,9] ha rfl hj
  refine ⟨h.pl,g' _ _ (o 11 (by decide) rfl) h.n,g' _ _ (o 6 (by decide) rfl) h.d,g' _ _ (o 3 (by decide) rfl) h.l,g' _ _ (o 1 (by decide) rfl) h.s,⟨hs,g' _ _ (o 2 (by decide) rfl) e1,e2,fun v hv=>(e3 v hv).but g' (fun c z=>⟨?_,hc c z⟩)⟩,fun j hj=>?_⟩
  ·simp only [List.mem_cons,List.not_mem_nil,or_false] at z
   rcases z with rfl | rfl | rfl | rfl <;> simp
  ·have : j = 0 ∨ j = 1 := by omega
   rcases this with rfl | rfl
   ·exact sk
   ·exact up hj ((h.sd 1 hj).but g' hc (o 4 (by decide) rfl) (o 8 (by decide) rfl) (o 7 (by decide) rfl))
 ·have o : ∀ j,j ∉ [0,4,8,7] → ∀ {a},(st :: LA sl hl lls ld ln lw ll lr)[j]? = some a → a ∉ [st,lw 1,ll 1,lr 1] := fun j hj a ha=>lO N j [0,4,8,7] ha rfl hj
  refine ⟨h.pl,g' _ _ (o 11 (by decide) rfl) h.n,g' _ _ (o 6 (by decide) rfl) h.d,g' _ _ (o 3 (by decide) rfl) h.l,g' _ _ (o 1 (by decide) rfl) h.s,⟨hs,g' _ _ (o 2 (by decide) rfl) e1,e2,fun v hv=>(e3 v hv).but g' (fun c z=>⟨?_,hc c z⟩)⟩,fun j hj=>?_⟩
  ·simp only [List.mem_cons,List.not_mem_nil,or_false] at z
   rcases z with rfl | rfl | rfl | rfl <;> simp
  ·have : j = 0 ∨ j = 1 := by omega
   rcases this with rfl | rfl
   ·exact up hj ((h.sd 0 hj).but g' hc (o 5 (by decide) rfl) (o 10 (by decide) rfl) (o 9 (by decide) rfl))
   ·exact sk
theorem LI.held (h : LI K H D sl hl lls ld ln dk dx lw ll lr ns ms (st :: LA sl hl lls ld ln lw ll lr) i m) (N : (st :: LA sl hl lls ld ln lw ll lr).Nodup) {hs : List V} {v : V} (hh : H hl = some (.lst hs)) (hv : HeldV H (st :: LA sl hl lls ld ln lw ll lr) v) :
  LI K (B6 H hl (.lst (hs ++ [v]))) D sl hl lls ld ln dk dx lw ll lr ns ms (st :: LA sl hl lls ld ln lw ll lr) i (m + 1) := by
 have g' : kP [hl] H (B6 H hl (.lst (hs ++ [v]))) := fun c o hc e=>by rw [B5 (by simpa using hc)]; exact e
 have hc : ∀ c ∈ [hl],c ∈ (st :: LA sl hl lls ld ln lw ll lr) ∧ ∃ ys,H c = some (.lst ys) := fun c hc=>by
  rw [List.mem_singleton.mp hc]
  exact ⟨by simp,_,hh⟩
 obtain ⟨hs',e1,e2,e3⟩ := h.h
 rw [hh] at e1
 cases e1
 have o : ∀ j,j ∉ [2] → ∀ {a},(st :: LA sl hl lls ld ln lw ll lr)[j]? = some a → a ∉ [hl] := fun j hj a ha=>lO N j [2] ha rfl hj
 refine ⟨h.pl,g' _ _ (o 11 (by decide) rfl) h.n,g' _ _ (o 6 (by decide) rfl) h.d,g' _ _ (o 3 (by decide) rfl) h.l,g' _ _ (o 1 (by decide) rfl) h.s,⟨_,B1,by rw [List.length_append,List.length_singleton]; omega,fun u hu=>?_⟩,fun k hk=>?_⟩
 ·rcases List.mem_append.mp hu with hu | hu
  ·exact (e3 u hu).but g' hc
  ·rw [List.mem_singleton.mp hu]
   exact hv.but g' hc
 ·have : k = 0 ∨ k = 1 := by omega
  rcases this with rfl | rfl
  ·exact (h.sd 0 hk).but g' (fun c z=>(hc c z).2) (o 5 (by decide) rfl) (o 10 (by decide) rfl) (o 9 (by decide) rfl)
  ·exact (h.sd 1 hk).but g' (fun c z=>(hc c z).2) (o 4 (by decide) rfl) (o 8 (by decide) rfl) (o 7 (by decide) rfl)
end
end Law
namespace Law
open PySem L2 L2.Sp
abbrev eV : Stmt := O5 56
theorem W7 : D7 ["_law_script","_law_first","_law_names","_law_desks","_law_lines","_law_held","_law_cell","_law_state","_law_which","_law_k","_law_told"] ["_law_script"] (B3 eV) := ⟨rfl,rfl,rfl,by decide +kernel,rfl,by decide +kernel,by decide +kernel⟩
theorem lp0 : (Str.ofString "none" : Str) = S [110,111,110,101] := by decide +kernel
theorem lp1 : (Str.ofString "yes" : Str) = S [121,101,115] := by decide +kernel
theorem lp2 : (Str.ofString "no" : Str) = S [110,111] := by decide +kernel
theorem lp3 : (Str.ofString "truth" : Str) = S [116,114,117,116,104] := by decide +kernel
theorem lp4 : (Str.ofString "number" : Str) = S [110,117,109,98,101,114] := by decide +kernel
theorem lp5 : (Str.ofString "text" : Str) = S [116,101,120,116] := by decide +kernel
theorem lp6 : (Str.ofString "list" : Str) = S [108,105,115,116] := by decide +kernel
theorem lp7 : (Str.ofString "record" : Str) = S [114,101,99,111,114,100] := by decide +kernel
theorem lp8 : (Str.ofString "any" : Str) = S [97,110,121] := by decide +kernel
theorem lp9 : (Str.ofString "nothing" : Str) = S [110,111,116,104,105,110,103] := by decide +kernel
theorem AB8 : [V.str (Str.ofString "none"),.str (Str.ofString "yes"),.str (Str.ofString "no"),.str (Str.ofString "truth"),.str (Str.ofString "number"),.str (Str.ofString "text"),.str (Str.ofString "list"),.str (Str.ofString "record"),.str (Str.ofString "any"),.str (Str.ofString "nothing")] = ST U9 := by rw [lp0,lp1,lp2,lp3,lp4,lp5,lp6,lp7,lp8,lp9]; rfl
theorem AF3 : (["_law_one","_law_other"] : List Str).Nodup := by decide +kernel
def pM (K : PySem.W.Frag) : Sp := fun vs H Q _=>∃ (a : Addr) (ns : List Int),vs = [.ref a] ∧ SqL K H a (ns.map V.int) ∧ ns.length ≤ 63 ∧ ∀ H',Q (.bl true) H'
theorem AJ5 {X : Cx} {scope : Scope} {N' : List Str} {C : Addr} {fp : List Addr} {s : Shared} {H : Hp} (hu : X.A.units + 64 < cLine) : Q4 (Q2 X scope N' C fp s H) (compareOp .Eq) (zO X.K) := bL hu
def eY (a b : Addr) : Nat → Addr
 | 0=>a
 | _ + 1=>b
theorem pH {g : Nat → Addr} {k : Nat} (hk : k < 2) : cU [V.ref (g 0),.ref (g 1)] (k : Int) = some (.ref (g k)) := by
 have : k = 0 ∨ k = 1 := by omega
 rcases this with rfl | rfl
 ·exact G2 (j := 0) rfl
 ·exact G2 (j := 1) rfl
theorem LI.more {K : PySem.W.Frag} {D sl hl lls ld ln : Addr} {dk dx lw ll lr : Nat → Addr} {ns : List Wd} {ms : List V} {i m m' : Nat} {H : Hp} {L : List Addr} (h : LI K H D sl hl lls ld ln dk dx lw ll lr ns ms L i m) (hm : m ≤ m') : LI K H D sl hl lls ld ln dk dx lw ll lr ns ms L i m' := by
 obtain ⟨hs,e1,e2,e3⟩ := h.h
 exact ⟨h.pl,h.n,h.d,h.l,h.s,⟨hs,e1,by omega,e3⟩,h.sd⟩
theorem LI.al {K : PySem.W.Frag} {D sl hl lls ld ln : Addr} {dk dx lw ll lr : Nat → Addr} {ns : List Wd} {ms : List V} {i m : Nat} {H : Hp} {L : List Addr} (h : LI K H D sl hl lls ld ln dk dx lw ll lr ns ms L i m) : ∀ a ∈ LA sl hl lls ld ln lw ll lr,∃ o,H a = some o := by
 intro a ha
 obtain ⟨hs,e1,_⟩ := h.h
 obtain ⟨_,_,_,d0,_,w0,_⟩ := h.sd 0 (by decide)
 obtain ⟨_,_,_,d1,_,w1,_⟩ := h.sd 1 (by decide)
 obtain ⟨_,r0,_⟩ := d0.ro
 obtain ⟨_,r1,_⟩ := d1.ro
 simp only [List.mem_cons,List.not_mem_nil,or_false] at ha
 rcases ha with rfl | rfl | rfl | rfl | rfl | rfl | rfl | rfl | rfl | rfl | rfl
 ·exact ⟨_,h.s⟩
 ·exact ⟨_,e1⟩
 ·exact ⟨_,h.l⟩
 ·exact ⟨_,w1⟩
 ·exact ⟨_,w0⟩
 ·exact ⟨_,h.d⟩
 ·exact ⟨_,r1⟩
 ·exact ⟨_,d1.li⟩
 ·exact ⟨_,r0⟩
 ·exact ⟨_,d0.li⟩
 ·exact ⟨_,h.n⟩
section
variable {P : Program} {w : World} {K : PySem.W.Frag} {mg : Str → Option Value} {base : Heap} {f fi : Addr} {fd fdi : FuncData} {D C G N : Addr}
theorem AS0 (F : Fun K "law" "law" eV f fd) (NX' : Cal P w K mg base 1 "_law_next" ["_law_state","_law_many"] bD) (POOL : Cal P w K mg base 2 "_law_pool" ["_law_state"] qE) (DEED : Cal P w K mg base 41 "_law_deed" ["_law_desk","_law_lines","_law_state","_law_names"] (qI K D))
  (c : DC K D) (M : Mk K D fi) (FI : FnOk P w K mg base K3 1 fi fdi ["self"] (sT K D)) (gD : mg "Desk" = some (.ref D)) (bi : Binds K fdi ["self"] []) (ROWS : P2 P w K mg base K3 D 1 "rows" ["self"] (mT K D))
  (m1 : mg "len" = none) (m2 : mg "range" = none) (m3 : mg "isinstance" = none) (m4 : mg "list" = none) (m5 : mg "all" = none) : FnOk P w K mg base K3 42 f fd ["_law_script"] (pM K) := by
 refine F.ok W7 (fun vs H Q E h=>?_) (fun cdv A outer s H vs Q E hr h=>?_)
 ·obtain ⟨a,ns,rfl,_⟩ := h
  rfl
 obtain ⟨a,xs,rfl,hq,h63,q⟩ := h
 have hr1 := hr.mono (show 1 ≤ 41 by decide)
 have hr2 := hr.mono (show 2 ≤ 41 by decide)
 refine ⟨_,B2 (D3 (i := 1) W7.nd rfl (Or.inl rfl) B7)
  (U2 (G3 (E1 jB (G1 K4 rfl m1 PySem.boot_len (A9 (pv 0) B0)) B7 (D9 _)) (B4 (D3 (i := 1) W7.nd rfl (Or.inl rfl) (G9 gO (G5 K5 (pv 0) B7 (fun _ _=>rfl)) (G9 gK B7 B7)))) E4) E5),?_⟩
 refine ⟨fun σ' H'=>∃ x : Int,σ' = [some (.ref a),some (.int x),none,none,none,none,none,none,none,none,none] ∧ H' = H,?_,?_⟩
 ·refine ⟨_,rfl,a,_,rfl,.inl hq,_,_,rfl,rfl,_,rfl,R0 (fun c=>?_) (fun _=>⟨0,rfl,rfl⟩)⟩
  have hpos : 0 < xs.length := by
   have := of_decide_eq_true c
   rw [List.length_map] at this
   omega
  exact ⟨_,rfl,a,_,_,.int xs[0],rfl,rfl,hq,G2 (j := 0) (by rw [List.getElem?_map,List.getElem?_eq_getElem hpos]; rfl),_,_,rfl,rfl,⟨by decide,by decide,by decide⟩,_,_,rfl,rfl,(by show (0 : Int) < 10 ^ 30; decide),_,rfl,rfl⟩
 rintro σ1 H1 ⟨x,rfl,rfl⟩
 refine ⟨_,B2 (D3 (i := 2) W7.nd rfl (Or.inl rfl) (E3 POOL hr2 rfl (A9 (J0 (A9 (G9 U0 (G9 gN (pv 1) B7) B7) B0)) B0))) E5,?_⟩
 refine ⟨_,rfl,_,_,rfl,rfl,.inr ⟨by decide,by decide⟩,_,_,rfl,rfl,S4,fun st0 hst0=>⟨st0,_,rfl,B1,fun H2 ln ns d2 hln0 hln hpl=>?_⟩⟩
 have g2 : Same H1 H2 := fun b o hb=>d2.g b o (C0 hb hst0) (B8 hst0 _ _ _ hb)
 refine ⟨_,B2 (D3 (i := 3) W7.nd rfl (Or.inl rfl) (J0 (A9 (qO M FI hr2 rfl gD bi .nil M8) (A9 (qO M FI hr2 rfl gD bi .nil M8) B0)))) E5,?_⟩
 refine fun d0 x0 h1 h2 n12=>⟨d0,x0,rfl,B1,fun Hb ll0 lr0 hll hlr gb DO0=>⟨rfl,fun d1 x1 h3 h4 n34=>⟨d1,x1,rfl,B1,fun Hc ll1 lr1 hll1 hlr1 gc DO1=>⟨rfl,Q6,fun ld hld=>?_⟩⟩⟩⟩
 have sb : Same H2 Hb := X6 h1 h2 gb
 have sc : Same Hb Hc := X6 h3 h4 gc
 obtain ⟨v0,hv0,_⟩ := DO0.ro
 obtain ⟨v1,hv1,_⟩ := DO1.ro
 have A0 : NA H2 [ln] := ⟨by simp,fun b hb=>by rw [List.mem_singleton.mp hb]; exact ⟨_,hln⟩⟩
 have A1 := A0.add2 (bY hll) (bY hlr) (Ne.symm DO0.ne) sb DO0.li hv0
 have A2 := A1.add2 (bY hll1) (bY hlr1) (Ne.symm DO1.ne) sc DO1.li hv1
 have A3 := A2.new hld (.lst [.ref d0,.ref d1])
 have e3 := B8 hld (.lst [.ref d0,.ref d1])
 have hd3 : B6 Hc ld (.lst [.ref d0,.ref d1]) ld = some (.lst [.ref d0,.ref d1]) := B1
 generalize B6 Hc ld (.lst [.ref d0,.ref d1]) = H3 at A3 e3 hd3 ⊢
 refine ⟨_,B2 (D3 (i := 4) W7.nd rfl (Or.inl rfl) (J0 (A9 (J0 B0) (A9 (J0 B0) B0)))) E5,?_⟩
 refine ⟨Y0,fun w0 hw0=>⟨Y0,fun w1 hw1=>⟨Q6,fun lls hlls=>?_⟩⟩⟩
 have A4 := A3.new hw0 (.lst [])
 have e4 := B8 hw0 (.lst [])
 have A5 := A4.new hw1 (.lst [])
 have e5 := B8 hw1 (.lst [])
 have A6 := A5.new hlls (.lst [.ref w0,.ref w1])
 have e6 := B8 hlls (.lst [.ref w0,.ref w1])
 have hl6 : B6 (B6 (B6 H3 w0 (.lst [])) w1 (.lst [])) lls (.lst [.ref w0,.ref w1]) lls = some (.lst [.ref w0,.ref w1]) := B1
 have hw06 := e6 _ _ (e5 _ _ (B1 (H := H3) (a := w0) (o := .lst [])))
 have hw16 := e6 _ _ (B1 (H := B6 H3 w0 (.lst [])) (a := w1) (o := .lst []))
 have e46 := e4.trans (e5.trans e6)
 generalize B6 (B6 (B6 H3 w0 (.lst [])) w1 (.lst [])) lls (.lst [.ref w0,.ref w1]) = H6 at A6 e46 hl6 hw06 hw16 ⊢
 refine ⟨_,B2 (D3 (i := 5) W7.nd rfl (Or.inl rfl) (J0 B0)) E5,?_⟩
 refine ⟨Y0,fun hl hhl=>?_⟩
 have A7 := A6.new hhl (.lst [])
 have e7 := B8 hhl (.lst [])
 have hh7 : B6 H6 hl (.lst []) hl = some (.lst []) := B1
 generalize B6 H6 hl (.lst []) = H7 at A7 e7 hh7 ⊢
 have g7 : Same Hc H7 := e3.trans (e46.trans e7)
 have g17 : Same H1 H7 := g2.trans (sb.trans (sc.trans g7))
 refine ⟨_,B2 (aB PassesOwn.never rfl (X5 (T0 AH6 (pv 0) (N6 B7) (N6 B7))) (M3 (i := 6) W7.nd rfl (Or.inl rfl)) E5) E5,?_⟩
 refine ⟨_,rfl,_,rfl,_,rfl,a,_,rfl,g17.seq hq,fun sl hsl=>?_⟩
 have ec : Y3 (xs.map V.int) (some 1) (some 20) = ((xs.drop 1).take 19).map V.int := sL V.int xs 1 20
 rw [ec]
 have hms : (((xs.drop 1).take 19).map V.int).length ≤ 19 := by rw [List.length_map,List.length_take]; omega
 have hint : ∀ (i : Nat) v,(((xs.drop 1).take 19).map V.int)[i]? = some v → ∃ z : Int,v = .int z := fun i v hv=>by
  rw [List.getElem?_map,Option.map_eq_some_iff] at hv
  obtain ⟨z,_,rfl⟩ := hv
  exact ⟨z,rfl⟩
 generalize ((xs.drop 1).take 19).map V.int = ms at hms hint ⊢
 have A8 := A7.new hsl (.lst ms)
 have e8 := B8 hsl (.lst ms)
 have hs8 : B6 H7 sl (.lst ms) sl = some (.lst ms) := B1
 generalize B6 H7 sl (.lst ms) = H8 at A8 e8 hs8 ⊢
 have g8 := g7.trans e8
 have LI8 : ∃ dk dx lw ll lr : Nat → Addr,(LA sl hl lls ld ln lw ll lr).Nodup ∧ LI K H8 D sl hl lls ld ln dk dx lw ll lr ns ms (LA sl hl lls ld ln lw ll lr) 0 0 := by
  refine ⟨eY d0 d1,eY x0 x1,eY w0 w1,eY ll0 ll1,eY lr0 lr1,A8.nd,hpl,?_,?_,?_,hs8,⟨[],e8 _ _ hh7,Nat.le_refl _,fun v hv=>by cases hv⟩,fun k hk=>?_⟩
  ·exact g8 _ _ (sc _ _ (sb _ _ hln))
  ·exact e8 _ _ (e7 _ _ (e46 _ _ hd3))
  ·exact e8 _ _ (e7 _ _ hl6)
  ·have : k = 0 ∨ k = 1 := by omega
   rcases this with rfl | rfl
   ·exact ⟨[],[],[],(DO0.same sc).same g8,.nil,e8 _ _ (e7 _ _ hw06),Nat.le_refl _⟩
   ·exact ⟨[],[],[],DO1.same g8,.nil,e8 _ _ (e7 _ _ hw16),Nat.le_refl _⟩
 obtain ⟨dk,dx,lw,ll,lr,ND,J8⟩ := LI8
 refine ⟨sl,rfl,⟨_,SqL.of hs8⟩,?_⟩
 refine kK (xs := ms) (fun i σ H'=>(∃ b6 b7 b8 b9 b10 : Option V,σ = [some (.ref a),some (.int x),some (.ref ln),some (.ref ld),some (.ref lls),some (.ref hl),b6,b7,b8,b9,b10]) ∧ LI K H' D sl hl lls ld ln dk dx lw ll lr ns ms (LA sl hl lls ld ln lw ll lr) i (2 * i))
  ⟨⟨none,none,none,none,none,rfl⟩,J8⟩ (fun i σ H' _ h=>SqL.of h.2.s) (fun i v σ H' hv ⟨⟨b6,b7,b8,b9,b10,e⟩,J⟩=>?_) (fun σ H' ⟨⟨b6,b7,b8,b9,b10,e⟩,J⟩=>?_)
 ·subst e
  obtain ⟨z,rfl⟩ := hint i v hv
  have hi : i < ms.length := (List.getElem?_eq_some_iff.mp hv).1
  refine ⟨_,B2 (D3 (i := 7) W7.nd rfl (Or.inl rfl) (J0 (A9 (G9 U0 (G9 gN (G9 gO (pv 6) (G9 gK B7 B7)) B7) B7) B0)))
   (B2 (D3 (i := 8) W7.nd rfl (Or.inl rfl) (G9 tJ (E3 NX' hr1 rfl (A9 (pv 7) (A9 B7 B0))) B7)) E5),?_⟩
  refine ⟨_,rfl,_,_,rfl,rfl,⟨by decide,by decide,by decide⟩,_,_,rfl,rfl,(by show (0 : Int) < 10 ^ 30; decide),_,_,rfl,rfl,.inr ⟨by decide,by decide⟩,_,_,rfl,rfl,S4,fun st hst=>⟨_,rfl,st,_,3,rfl,B1,by decide,fun y1 r b0 b1=>⟨_,_,rfl,rfl,⟨by decide,by decide⟩,?_⟩⟩⟩
  have N1 : (st :: LA sl hl lls ld ln lw ll lr).Nodup := ((NA.mk ND J.al).new hst (.lst [])).nd
  have J1 := LI.ds (J.start (x := z % 10 ^ (30 : Int).toNat * 7368787 + 1000003) hst) N1 ((DS.start B1).next y1)
  have S1 : ∃ x : Int,B6 (B6 H' st (.lst [.int (z % 10 ^ (30 : Int).toNat * 7368787 + 1000003)])) st (.lst [.int y1]) st = some (.lst [.int x]) := ⟨y1,B1⟩
  generalize B6 (B6 H' st (.lst [.int (z % 10 ^ (30 : Int).toNat * 7368787 + 1000003)])) st (.lst [.int y1]) = H1' at J1 S1 ⊢
  obtain ⟨k,hk,ek⟩ : ∃ k : Nat,k < 2 ∧ r / 2 = (k : Int) := ⟨(r / 2).toNat,by omega,by omega⟩
  dsimp only
  rw [ek]
  obtain ⟨ls,ts,rs,hls,DI⟩ := J1.deed N1 S1 hk
  refine ⟨_,B2 (G3 (dS (O7 (E3 DEED hr rfl (A9 (G5 K5 (pv 3) (pv 8) (fun _ _=>rfl)) (A9 (G5 K5 (pv 4) (pv 8) (fun _ _=>rfl)) (A9 (pv 7) (A9 (pv 2) B0))))))) (B4 (D4 Z3)) E4) E5,?_⟩
  refine ⟨_,rfl,_,rfl,ld,_,_,.ref (dk k),rfl,rfl,SqL.of J1.d,pH hk,_,rfl,_,rfl,lls,_,_,.ref (lw k),rfl,rfl,SqL.of J1.l,pH hk,_,rfl,_,rfl,dk k,dx k,ll k,lr k,lw k,st,ln,ls,ts,rs,ns,rfl,DI,by omega,fun H2' ls' ts' rs' b4 DI' hl'=>⟨_,rfl,F0 ?_⟩⟩
  have J2 := J1.done N1 hk DI b4 DI' (by omega)
  have S2 := DI'.s
  refine ⟨_,B2 (aB PassesOwn.never rfl (aC rfl m2 (A9 B7 B0)) (M3 (i := 9) W7.nd rfl (Or.inl rfl)) E5) E5,?_⟩
  refine ⟨2,rfl,by decide,by decide,?_⟩
  refine cS (fun j σ H''=>(∃ b9 b10 : Option V,σ = [some (.ref a),some (.int x),some (.ref ln),some (.ref ld),some (.ref lls),some (.ref hl),some (.int z),some (.ref st),some (.int (k : Int)),b9,b10]) ∧ (∃ x : Int,H'' st = some (.lst [.int x])) ∧ LI K H'' D sl hl lls ld ln dk dx lw ll lr ns ms (st :: LA sl hl lls ld ln lw ll lr) (i + 1) (2 * i + j))
   ⟨⟨_,_,rfl⟩,S2,J2⟩ (fun j σ H3' hj ⟨⟨b9,b10,e⟩,S3,J3⟩=>?_) (fun σ H3' ⟨⟨b9,b10,e⟩,S3,J3⟩=>?_)
  ·subst e
   have hj2 : j < 2 := by simpa using hj
   obtain ⟨lsj,tsj,rsj,dj,glj,hwj,_⟩ := J3.sd j hj2
   refine ⟨_,B2 (D3 (i := 10) W7.nd rfl (Or.inl rfl) (tG ROWS c.cl hr1 M8 (G5 K5 (pv 3) (pv 9) (fun _ _=>rfl)))) E5,?_⟩
   rw [show (0 : Int) + (j : Int) = (j : Int) by omega]
   refine ⟨_,rfl,_,rfl,ld,_,_,.ref (dk j),rfl,rfl,SqL.of J3.d,pH hj2,dk j,dx j,_,rfl,dj.ob,rfl,dk j,dx j,ll j,lr j,lsj,tsj,rfl,dj,fun lt hlt=>?_⟩
   have e4 := B8 hlt (.lst (ST lsj))
   have J4 := J3.same e4
   refine ⟨_,B2 (G3 (PW.pt (lI (dS (O7 (G1 yJ rfl m3 rS (A9 (pv 10) (A9 (nM (v := .ty "list") rfl m4 jK rfl) B0))))) (lH (E1 (AQ9 hr.units) (pv 10) (G5 K5 (pv 4) (pv 9) (fun _ _=>rfl)) (D9 _))))) (B4 (D4 Z3)) E4) E5,?_⟩
   refine ⟨_,rfl,lt,_,"list",rfl,SqL.of B1,.inl ⟨rfl,_,rfl,F0 ⟨_,rfl,_,rfl,_,rfl,lls,_,_,.ref (lw j),rfl,rfl,SqL.of J4.l,pH hj2,jN lsj,jN lsj,iG B1,iG (e4 _ _ hwj),aT glj.small,aT glj.small,by have := oI lsj; omega,?_⟩⟩⟩
   rw [vL (aT glj.small)]
   refine ⟨_,rfl,F0 ?_⟩
   obtain ⟨hs,hh,hhl,hhs⟩ := J4.h
   refine ⟨_,B4 (G4 (O0 PySem.F.plainAttrs_list PySem.F.slot_list_append PySem.F.type_list_append J7 (pv 5) (A9 (M6 (A9 (pv 10) (A9 (N9 bU rfl m4 jK (A9 (G5 K5 (pv 4) (pv 9) (fun _ _=>rfl)) B0)) B0))) B0))),?_⟩
   refine ⟨_,rfl,.inl ⟨rfl,_,SqL.of hh⟩,_,rfl,_,rfl,_,rfl,lls,_,_,.ref (lw j),rfl,rfl,SqL.of J4.l,pH hj2,lw j,_,rfl,.inl (SqL.of (e4 _ _ hwj)),fun lc hlc=>⟨Q6,fun lp hlp=>?_⟩⟩
   have e5 := B8 hlc (.lst (ST lsj))
   have e6 := B8 hlp (.tup [.ref lt,.ref lc])
   have e56 := e5.trans e6
   have J6 := J4.same e56
   have ht6 := e56 _ _ (B1 (H := H3') (a := lt) (o := .lst (ST lsj)))
   have hc6 := e6 _ _ (B1 (H := B6 H3' lt (.lst (ST lsj))) (a := lc) (o := .lst (ST lsj)))
   have hp6 : B6 (B6 (B6 H3' lt (.lst (ST lsj))) lc (.lst (ST lsj))) lp (.tup [.ref lt,.ref lc]) lp = some (.tup [.ref lt,.ref lc]) := B1
   have hh6 := e56 _ _ hh
   obtain ⟨x3,hx3⟩ := S3
   have hx6 := e56 _ _ (e4 _ _ hx3)
   have nt : lt ∉ st :: LA sl hl lls ld ln lw ll lr := fun z=>by
    rcases List.mem_cons.mp z with rfl | z
    ·rw [hx3] at hlt; cases hlt
    ·obtain ⟨o,e⟩ := J3.al lt z
     rw [e] at hlt; cases hlt
   have nc : lc ∉ st :: LA sl hl lls ld ln lw ll lr := fun z=>by
    rcases List.mem_cons.mp z with rfl | z
    ·rw [e4 _ _ hx3] at hlc; cases hlc
    ·obtain ⟨o,e⟩ := J4.al lc z
     rw [e] at hlc; cases hlc
   generalize B6 (B6 (B6 H3' lt (.lst (ST lsj))) lc (.lst (ST lsj))) lp (.tup [.ref lt,.ref lc]) = H6' at J6 ht6 hc6 hp6 hh6 hx6 ⊢
   refine ⟨hl,_,_,rfl,rfl,hh6,Q7 (by omega),⟨_,_,rfl⟩,⟨x3,?_⟩,J6.held N1 hh6 ⟨lp,lt,lc,lsj,rfl,hp6,ht6,hc6,nt,nc,glj.small⟩⟩
   rw [B5 (Q9 N1 0 2 rfl rfl (by decide))]
   exact hx6
  ·subst e
   obtain ⟨x3,hx3⟩ := S3
   refine ⟨_,B4 (G3 (E1 N4 (E3 NX' hr1 rfl (A9 (pv 7) (A9 B7 B0))) B7 (D9 _)) (B4 (G4 (O0 PySem.F.plainAttrs_list PySem.F.slot_list_append PySem.F.type_list_append J7 (tG ROWS c.cl hr1 M8 (G5 K5 (pv 3) (pv 8) (fun _ _=>rfl))) (A9 B9 B0)))) E4),?_⟩
   refine ⟨_,rfl,st,x3,3,rfl,hx3,by decide,fun y4 r4 c0 c1=>?_⟩
   have J4 := (J3.ds N1 ((DS.start hx3).next y4)).stop.more (show 2 * i + Int.toNat 2 ≤ 2 * (i + 1) by simp; omega)
   refine ⟨rfl,_,rfl,R0 (fun _=>?_) (fun _=>⟨⟨_,_,_,_,_,rfl⟩,J4⟩)⟩
   obtain ⟨lsj,tsj,rsj,dj,glj,hwj,hlj⟩ := J4.sd k hk
   refine ⟨_,rfl,_,rfl,ld,_,_,.ref (dk k),rfl,rfl,SqL.of J4.d,pH hk,dk k,dx k,_,rfl,dj.ob,rfl,dk k,dx k,ll k,lr k,lsj,tsj,rfl,dj,fun lt hlt=>⟨.inl ⟨rfl,_,SqL.of B1⟩,lt,_,_,rfl,rfl,B1,Q7 (by rw [List.length_map]; omega),⟨_,_,_,_,_,rfl⟩,J4.same (fun b o hb=>?_)⟩⟩
   rw [B5 (C0 hb hlt),B5 (C0 hb hlt)]
   exact hb
 ·subst e
  obtain ⟨hs,hh,hhl,hhs⟩ := J.h
  refine ⟨_,B4 (D4 (G1 (fT rfl) rfl m5 yO (A9 (dW (N' := ["_law_one","_law_other"]) (fr := [none,none]) (own := [0,1]) ⟨rfl,rfl,rfl,rfl,rfl,rfl,rfl⟩ rfl (X5 (pv 5))
   (fun _ _ _ _=>qM (n := 2) rfl (Y8 (M3 (i := 0) AF3 rfl (Or.inl rfl)) (Y8 (M3 (i := 1) AF3 rfl (Or.inl rfl)) nK))) (tI (qP 0 1)) (fun _ _ _ _=>Y7) (fun _ _ _ _=>N8 (AJ5 hr.units) (pv 0) (pv 1) (D9 _))) B0))),?_⟩
  refine ⟨_,rfl,hl,rfl,⟨_,SqL.of hh⟩,fun lb hlb=>?_⟩
  refine cZ (xs := hs) (List.replicate hs.length true) hlb (SqL.of hh) (by simp) (by simp; omega) (fun j v b ys H9 N hv hb g fin=>?_) (fun H9 g hL=>?_)
  ·obtain ⟨p,a',b',xs',rfl,hp,ha,hb',_,_,sm⟩ := hhs v (List.mem_of_getElem? hv)
   have eb : b = true := List.eq_of_mem_replicate (List.mem_of_getElem? hb)
   subst eb
   dsimp only [X0,R1]
   refine ⟨p,_,rfl,SqT.of (g _ _ hp),rfl,_,_,rfl,_,_,rfl,rfl,jW ⟨_,rfl,_,rfl,jN xs',jN xs',iG (g _ _ ha),iG (g _ _ hb'),aT sm,aT sm,by have := oI xs'; omega,?_⟩⟩
   rw [vL (aT sm)]
   exact fin _ (Same.refl _)
  ·refine ⟨lb,_,rfl,hL,?_⟩
   rw [show (List.replicate hs.length true).all id = true by simp]
   exact q _
end
end Law
namespace Law
open PySem L2 L2.Sp
theorem all_mk {l : PySem.W.OpenLaw} {w : World} {K : PySem.W.Frag} {h : Heap} {mg : Str → Option Value} {fa : Addr} (X : K.In h) (G : h.Ns mainGlobals mg) (hfa : mg "law" = some (.ref fa))
  {f1 : Addr} {od1 an1 : Option Addr} {sl1 : Array (Option Value)} {oc1 kV1 dc1 pm1 cd1 ct1 : Value}
  {f2 : Addr} {od2 an2 : Option Addr} {sl2 : Array (Option Value)} {oc2 kV2 dc2 pm2 cd2 ct2 : Value}
  {f14 : Addr} {od14 an14 : Option Addr} {sl14 : Array (Option Value)} {oc14 kV14 dc14 pm14 cd14 ct14 : Value}
  {f15 : Addr} {od15 an15 : Option Addr} {sl15 : Array (Option Value)} {oc15 kV15 dc15 pm15 cd15 ct15 : Value}
  {f13 : Addr} {od13 an13 : Option Addr} {sl13 : Array (Option Value)} {oc13 kV13 dc13 pm13 cd13 ct13 : Value}
  {f16 : Addr} {od16 an16 : Option Addr} {sl16 : Array (Option Value)} {oc16 kV16 dc16 pm16 cd16 ct16 : Value}
  {f17 : Addr} {od17 an17 : Option Addr} {sl17 : Array (Option Value)} {oc17 kV17 dc17 pm17 cd17 ct17 : Value}
  {f12 : Addr} {od12 an12 : Option Addr} {sl12 : Array (Option Value)} {oc12 kV12 dc12 pm12 cd12 ct12 : Value}
  {f11 : Addr} {od11 an11 : Option Addr} {sl11 : Array (Option Value)} {oc11 kV11 dc11 pm11 cd11 ct11 : Value}
  {f23 : Addr} {od23 an23 : Option Addr} {sl23 : Array (Option Value)} {oc23 kV23 dc23 pm23 cd23 ct23 : Value}
  {f31 : Addr} {od31 an31 : Option Addr} {sl31 : Array (Option Value)} {oc31 kV31 dc31 pm31 cd31 ct31 : Value}
  {f30 : Addr} {od30 an30 : Option Addr} {sl30 : Array (Option Value)} {oc30 kV30 dc30 pm30 cd30 ct30 : Value}
  {f27 : Addr} {od27 an27 : Option Addr} {sl27 : Array (Option Value)} {oc27 kV27 dc27 pm27 cd27 ct27 : Value}
  {f28 : Addr} {od28 an28 : Option Addr} {sl28 : Array (Option Value)} {oc28 kV28 dc28 pm28 cd28 ct28 : Value}
  {f24 : Addr} {od24 an24 : Option Addr} {sl24 : Array (Option Value)} {oc24 kV24 dc24 pm24 cd24 ct24 : Value}
  {f20 : Addr} {od20 an20 : Option Addr} {sl20 : Array (Option Value)} {oc20 kV20 dc20 pm20 cd20 ct20 : Value}
  {f19 : Addr} {od19 an19 : Option Addr} {sl19 : Array (Option Value)} {oc19 kV19 dc19 pm19 cd19 ct19 : Value}
  {f21 : Addr} {od21 an21 : Option Addr} {sl21 : Array (Option Value)} {oc21 kV21 dc21 pm21 cd21 ct21 : Value}
  {f22 : Addr} {od22 an22 : Option Addr} {sl22 : Array (Option Value)} {oc22 kV22 dc22 pm22 cd22 ct22 : Value}
  {f25 : Addr} {od25 an25 : Option Addr} {sl25 : Array (Option Value)} {oc25 kV25 dc25 pm25 cd25 ct25 : Value}
  {f26 : Addr} {od26 an26 : Option Addr} {sl26 : Array (Option Value)} {oc26 kV26 dc26 pm26 cd26 ct26 : Value}
  {f29 : Addr} {od29 an29 : Option Addr} {sl29 : Array (Option Value)} {oc29 kV29 dc29 pm29 cd29 ct29 : Value}
  {f18 : Addr} {od18 an18 : Option Addr} {sl18 : Array (Option Value)} {oc18 kV18 dc18 pm18 cd18 ct18 : Value}
  {f5 : Addr} {od5 an5 : Option Addr} {sl5 : Array (Option Value)} {oc5 kV5 dc5 pm5 cd5 ct5 : Value}
  {f6 : Addr} {od6 an6 : Option Addr} {sl6 : Array (Option Value)} {oc6 kV6 dc6 pm6 cd6 ct6 : Value}
  {f3 : Addr} {od3 an3 : Option Addr} {sl3 : Array (Option Value)} {oc3 kV3 dc3 pm3 cd3 ct3 : Value}
  {f4 : Addr} {od4 an4 : Option Addr} {sl4 : Array (Option Value)} {oc4 kV4 dc4 pm4 cd4 ct4 : Value}
  {f9 : Addr} {od9 an9 : Option Addr} {sl9 : Array (Option Value)} {oc9 kV9 dc9 pm9 cd9 ct9 : Value}
  {f8 : Addr} {od8 an8 : Option Addr} {sl8 : Array (Option Value)} {oc8 kV8 dc8 pm8 cd8 ct8 : Value}
  {f7 : Addr} {od7 an7 : Option Addr} {sl7 : Array (Option Value)} {oc7 kV7 dc7 pm7 cd7 ct7 : Value}
  {f10 : Addr} {od10 an10 : Option Addr} {sl10 : Array (Option Value)} {oc10 kV10 dc10 pm10 cd10 ct10 : Value}
  {f32 : Addr} {od32 an32 : Option Addr} {sl32 : Array (Option Value)} {oc32 kV32 dc32 pm32 cd32 ct32 : Value}
  {f33 : Addr} {od33 an33 : Option Addr} {sl33 : Array (Option Value)} {oc33 kV33 dc33 pm33 cd33 ct33 : Value}
  {f34 : Addr} {od34 an34 : Option Addr} {sl34 : Array (Option Value)} {oc34 kV34 dc34 pm34 cd34 ct34 : Value}
  {f35 : Addr} {od35 an35 : Option Addr} {sl35 : Array (Option Value)} {oc35 kV35 dc35 pm35 cd35 ct35 : Value}
  {f36 : Addr} {od36 an36 : Option Addr} {sl36 : Array (Option Value)} {oc36 kV36 dc36 pm36 cd36 ct36 : Value}
  {f37 : Addr} {od37 an37 : Option Addr} {sl37 : Array (Option Value)} {oc37 kV37 dc37 pm37 cd37 ct37 : Value}
  {f38 : Addr} {od38 an38 : Option Addr} {sl38 : Array (Option Value)} {oc38 kV38 dc38 pm38 cd38 ct38 : Value}
  {gt : Addr} {dN : Option Addr} {slN : Array (Option Value)} {tA tB : Tok} {nN : Nat}
  {cC cR gp : Addr} {tM tS p0 p1 p2 p3 p4 p5 p6 p7 p8 p9 : Tok} {dP : Option Addr} {slP : Array (Option Value)} {nP : Nat} {f39 : Addr} {od39 an39 : Option Addr} {sl39 : Array (Option Value)} {oc39 kV39 dc39 pm39 cd39 ct39 : Value} {f40 : Addr} {od40 an40 : Option Addr} {sl40 : Array (Option Value)} {oc40 kV40 dc40 pm40 cd40 ct40 : Value} {f41 : Addr} {od41 an41 : Option Addr} {sl41 : Array (Option Value)} {oc41 kV41 dc41 pm41 cd41 ct41 : Value} {f42 : Addr} {od42 an42 : Option Addr} {sl42 : Array (Option Value)} {oc42 kV42 dc42 pm42 cd42 ct42 : Value} {f43 : Addr} {od43 an43 : Option Addr} {sl43 : Array (Option Value)} {oc43 kV43 dc43 pm43 cd43 ct43 : Value} {cG cN cD : Addr} {f_dinit : Addr} {od_dinit an_dinit : Option Addr} {sl_dinit : Array (Option Value)} {oc_dinit kV_dinit dc_dinit pm_dinit cd_dinit ct_dinit : Value} {f_dtell : Addr} {od_dtell an_dtell : Option Addr} {sl_dtell : Array (Option Value)} {oc_dtell kV_dtell dc_dtell pm_dtell cd_dtell ct_dtell : Value} {f_ddrop : Addr} {od_ddrop an_ddrop : Option Addr} {sl_ddrop : Array (Option Value)} {oc_ddrop kV_ddrop dc_ddrop pm_ddrop cd_ddrop ct_ddrop : Value} {f_drows : Addr} {od_drows an_drows : Option Addr} {sl_drows : Array (Option Value)} {oc_drows kV_drows dc_drows pm_drows cd_drows ct_drows : Value}
  (a1 : PySem.W.nsIn K mainGlobals "is_name" = some (some (.ref f1))) (l1 : K.lookup f1 = some ⟨oc1,od1,.func (PySem.W.fnOf "is_name" "is_name" (D6 iR) (D5 iR) (B3 iR) .none kV1 dc1 pm1 an1 cd1 ct1),sl1⟩) (c1 : PySem.W.codeIn K cd1 "is_name" = true) (k1 : PySem.W.keepIn K (.ref f1) = true)
  (a2 : PySem.W.nsIn K mainGlobals "is_sign" = some (some (.ref f2))) (l2 : K.lookup f2 = some ⟨oc2,od2,.func (PySem.W.fnOf "is_sign" "is_sign" (D6 iN) (D5 iN) (B3 iN) .none kV2 dc2 pm2 an2 cd2 ct2),sl2⟩) (c2 : PySem.W.codeIn K cd2 "is_sign" = true) (k2 : PySem.W.keepIn K (.ref f2) = true)
  (a14 : PySem.W.nsIn K mainGlobals "is_letter" = some (some (.ref f14))) (l14 : K.lookup f14 = some ⟨oc14,od14,.func (PySem.W.fnOf "is_letter" "is_letter" (D6 aW) (D5 aW) (B3 aW) .none kV14 dc14 pm14 an14 cd14 ct14),sl14⟩) (c14 : PySem.W.codeIn K cd14 "is_letter" = true) (k14 : PySem.W.keepIn K (.ref f14) = true)
  (a15 : PySem.W.nsIn K mainGlobals "is_figure" = some (some (.ref f15))) (l15 : K.lookup f15 = some ⟨oc15,od15,.func (PySem.W.fnOf "is_figure" "is_figure" (D6 aX) (D5 aX) (B3 aX) .none kV15 dc15 pm15 an15 cd15 ct15),sl15⟩) (c15 : PySem.W.codeIn K cd15 "is_figure" = true) (k15 : PySem.W.keepIn K (.ref f15) = true)
  (a13 : PySem.W.nsIn K mainGlobals "run_end" = some (some (.ref f13))) (l13 : K.lookup f13 = some ⟨oc13,od13,.func (PySem.W.fnOf "run_end" "run_end" (D6 mW) (D5 mW) (B3 mW) .none kV13 dc13 pm13 an13 cd13 ct13),sl13⟩) (c13 : PySem.W.codeIn K cd13 "run_end" = true) (k13 : PySem.W.keepIn K (.ref f13) = true)
  (a16 : PySem.W.nsIn K mainGlobals "number_at" = some (some (.ref f16))) (l16 : K.lookup f16 = some ⟨oc16,od16,.func (PySem.W.fnOf "number_at" "number_at" (D6 nB) (D5 nB) (B3 nB) .none kV16 dc16 pm16 an16 cd16 ct16),sl16⟩) (c16 : PySem.W.codeIn K cd16 "number_at" = true) (k16 : PySem.W.keepIn K (.ref f16) = true)
  (a17 : PySem.W.nsIn K mainGlobals "quoted_at" = some (some (.ref f17))) (l17 : K.lookup f17 = some ⟨oc17,od17,.func (PySem.W.fnOf "quoted_at" "quoted_at" (D6 mZ) (D5 mZ) (B3 mZ) .none kV17 dc17 pm17 an17 cd17 ct17),sl17⟩) (c17 : PySem.W.codeIn K cd17 "quoted_at" = true) (k17 : PySem.W.keepIn K (.ref f17) = true)
  (a12 : PySem.W.nsIn K mainGlobals "word_at" = some (some (.ref f12))) (l12 : K.lookup f12 = some ⟨oc12,od12,.func (PySem.W.fnOf "word_at" "word_at" (D6 iK) (D5 iK) (B3 iK) .none kV12 dc12 pm12 an12 cd12 ct12),sl12⟩) (c12 : PySem.W.codeIn K cd12 "word_at" = true) (k12 : PySem.W.keepIn K (.ref f12) = true)
  (a11 : PySem.W.nsIn K mainGlobals "words_of" = some (some (.ref f11))) (l11 : K.lookup f11 = some ⟨oc11,od11,.func (PySem.W.fnOf "words_of" "words_of" (D6 dG) (D5 dG) (B3 dG) .none kV11 dc11 pm11 an11 cd11 ct11),sl11⟩) (c11 : PySem.W.codeIn K cd11 "words_of" = true) (k11 : PySem.W.keepIn K (.ref f11) = true)
  (a23 : PySem.W.nsIn K mainGlobals "is_number" = some (some (.ref f23))) (l23 : K.lookup f23 = some ⟨oc23,od23,.func (PySem.W.fnOf "is_number" "is_number" (D6 iT) (D5 iT) (B3 iT) .none kV23 dc23 pm23 an23 cd23 ct23),sl23⟩) (c23 : PySem.W.codeIn K cd23 "is_number" = true) (k23 : PySem.W.keepIn K (.ref f23) = true)
  (a31 : PySem.W.nsIn K mainGlobals "name_of" = some (some (.ref f31))) (l31 : K.lookup f31 = some ⟨oc31,od31,.func (PySem.W.fnOf "name_of" "name_of" (D6 aV) (D5 aV) (B3 aV) .none kV31 dc31 pm31 an31 cd31 ct31),sl31⟩) (c31 : PySem.W.codeIn K cd31 "name_of" = true) (k31 : PySem.W.keepIn K (.ref f31) = true)
  (a30 : PySem.W.nsIn K mainGlobals "names_of" = some (some (.ref f30))) (l30 : K.lookup f30 = some ⟨oc30,od30,.func (PySem.W.fnOf "names_of" "names_of" (D6 Y6) (D5 Y6) (B3 Y6) .none kV30 dc30 pm30 an30 cd30 ct30),sl30⟩) (c30 : PySem.W.codeIn K cd30 "names_of" = true) (k30 : PySem.W.keepIn K (.ref f30) = true)
  (a27 : PySem.W.nsIn K mainGlobals "has_another" = some (some (.ref f27))) (l27 : K.lookup f27 = some ⟨oc27,od27,.func (PySem.W.fnOf "has_another" "has_another" (D6 nH) (D5 nH) (B3 nH) .none kV27 dc27 pm27 an27 cd27 ct27),sl27⟩) (c27 : PySem.W.codeIn K cd27 "has_another" = true) (k27 : PySem.W.keepIn K (.ref f27) = true)
  (a28 : PySem.W.nsIn K mainGlobals "takes_end" = some (some (.ref f28))) (l28 : K.lookup f28 = some ⟨oc28,od28,.func (PySem.W.fnOf "takes_end" "takes_end" (D6 iW) (D5 iW) (B3 iW) .none kV28 dc28 pm28 an28 cd28 ct28),sl28⟩) (c28 : PySem.W.codeIn K cd28 "takes_end" = true) (k28 : PySem.W.keepIn K (.ref f28) = true)
  (a24 : PySem.W.nsIn K mainGlobals "span_tree" = some (some (.ref f24))) (l24 : K.lookup f24 = some ⟨oc24,od24,.func (PySem.W.fnOf "span_tree" "span_tree" (D6 dI) (D5 dI) (B3 dI) .none kV24 dc24 pm24 an24 cd24 ct24),sl24⟩) (c24 : PySem.W.codeIn K cd24 "span_tree" = true) (k24 : PySem.W.keepIn K (.ref f24) = true)
  (a20 : PySem.W.nsIn K mainGlobals "one_or_several" = some (some (.ref f20))) (l20 : K.lookup f20 = some ⟨oc20,od20,.func (PySem.W.fnOf "one_or_several" "one_or_several" (D6 nA) (D5 nA) (B3 nA) .none kV20 dc20 pm20 an20 cd20 ct20),sl20⟩) (c20 : PySem.W.codeIn K cd20 "one_or_several" = true) (k20 : PySem.W.keepIn K (.ref f20) = true)
  (a19 : PySem.W.nsIn K mainGlobals "expression" = some (some (.ref f19))) (l19 : K.lookup f19 = some ⟨oc19,od19,.func (PySem.W.fnOf "expression" "expression" (D6 cH) (D5 cH) (B3 cH) .none kV19 dc19 pm19 an19 cd19 ct19),sl19⟩) (c19 : PySem.W.codeIn K cd19 "expression" = true) (k19 : PySem.W.keepIn K (.ref f19) = true)
  (a21 : PySem.W.nsIn K mainGlobals "negated" = some (some (.ref f21))) (l21 : K.lookup f21 = some ⟨oc21,od21,.func (PySem.W.fnOf "negated" "negated" (D6 cF) (D5 cF) (B3 cF) .none kV21 dc21 pm21 an21 cd21 ct21),sl21⟩) (c21 : PySem.W.codeIn K cd21 "negated" = true) (k21 : PySem.W.keepIn K (.ref f21) = true)
  (a22 : PySem.W.nsIn K mainGlobals "single" = some (some (.ref f22))) (l22 : K.lookup f22 = some ⟨oc22,od22,.func (PySem.W.fnOf "single" "single" (D6 X4) (D5 X4) (B3 X4) .none kV22 dc22 pm22 an22 cd22 ct22),sl22⟩) (c22 : PySem.W.codeIn K cd22 "single" = true) (k22 : PySem.W.keepIn K (.ref f22) = true)
  (a25 : PySem.W.nsIn K mainGlobals "list_tree" = some (some (.ref f25))) (l25 : K.lookup f25 = some ⟨oc25,od25,.func (PySem.W.fnOf "list_tree" "list_tree" (D6 Z9) (D5 Z9) (B3 Z9) .none kV25 dc25 pm25 an25 cd25 ct25),sl25⟩) (c25 : PySem.W.codeIn K cd25 "list_tree" = true) (k25 : PySem.W.keepIn K (.ref f25) = true)
  (a26 : PySem.W.nsIn K mainGlobals "record_tree" = some (some (.ref f26))) (l26 : K.lookup f26 = some ⟨oc26,od26,.func (PySem.W.fnOf "record_tree" "record_tree" (D6 cE) (D5 cE) (B3 cE) .none kV26 dc26 pm26 an26 cd26 ct26),sl26⟩) (c26 : PySem.W.codeIn K cd26 "record_tree" = true) (k26 : PySem.W.keepIn K (.ref f26) = true)
  (a29 : PySem.W.nsIn K mainGlobals "field_of" = some (some (.ref f29))) (l29 : K.lookup f29 = some ⟨oc29,od29,.func (PySem.W.fnOf "field_of" "field_of" (D6 aA) (D5 aA) (B3 aA) .none kV29 dc29 pm29 an29 cd29 ct29),sl29⟩) (c29 : PySem.W.codeIn K cd29 "field_of" = true) (k29 : PySem.W.keepIn K (.ref f29) = true)
  (a18 : PySem.W.nsIn K mainGlobals "read_row" = some (some (.ref f18))) (l18 : K.lookup f18 = some ⟨oc18,od18,.func (PySem.W.fnOf "read_row" "read_row" (D6 mX) (D5 mX) (B3 mX) .none kV18 dc18 pm18 an18 cd18 ct18),sl18⟩) (c18 : PySem.W.codeIn K cd18 "read_row" = true) (k18 : PySem.W.keepIn K (.ref f18) = true)
  (a5 : PySem.W.nsIn K mainGlobals "begins" = some (some (.ref f5))) (l5 : K.lookup f5 = some ⟨oc5,od5,.func (PySem.W.fnOf "begins" "begins" (D6 nI) (D5 nI) (B3 nI) .none kV5 dc5 pm5 an5 cd5 ct5),sl5⟩) (c5 : PySem.W.codeIn K cd5 "begins" = true) (k5 : PySem.W.keepIn K (.ref f5) = true)
  (a6 : PySem.W.nsIn K mainGlobals "places_of" = some (some (.ref f6))) (l6 : K.lookup f6 = some ⟨oc6,od6,.func (PySem.W.fnOf "places_of" "places_of" (D6 aU) (D5 aU) (B3 aU) .none kV6 dc6 pm6 an6 cd6 ct6),sl6⟩) (c6 : PySem.W.codeIn K cd6 "places_of" = true) (k6 : PySem.W.keepIn K (.ref f6) = true)
  (a3 : PySem.W.nsIn K mainGlobals "leans" = some (some (.ref f3))) (l3 : K.lookup f3 = some ⟨oc3,od3,.func (PySem.W.fnOf "leans" "leans" (D6 dM) (D5 dM) (B3 dM) .none kV3 dc3 pm3 an3 cd3 ct3),sl3⟩) (c3 : PySem.W.codeIn K cd3 "leans" = true) (k3 : PySem.W.keepIn K (.ref f3) = true)
  (a4 : PySem.W.nsIn K mainGlobals "leans_into" = some (some (.ref f4))) (l4 : K.lookup f4 = some ⟨oc4,od4,.func (PySem.W.fnOf "leans_into" "leans_into" (D6 iU) (D5 iU) (B3 iU) .none kV4 dc4 pm4 an4 cd4 ct4),sl4⟩) (c4 : PySem.W.codeIn K cd4 "leans_into" = true) (k4 : PySem.W.keepIn K (.ref f4) = true)
  (a9 : PySem.W.nsIn K mainGlobals "way_to" = some (some (.ref f9))) (l9 : K.lookup f9 = some ⟨oc9,od9,.func (PySem.W.fnOf "way_to" "way_to" (D6 mV) (D5 mV) (B3 mV) .none kV9 dc9 pm9 an9 cd9 ct9),sl9⟩) (c9 : PySem.W.codeIn K cd9 "way_to" = true) (k9 : PySem.W.keepIn K (.ref f9) = true)
  (a8 : PySem.W.nsIn K mainGlobals "shortest_way" = some (some (.ref f8))) (l8 : K.lookup f8 = some ⟨oc8,od8,.func (PySem.W.fnOf "shortest_way" "shortest_way" (D6 dJ) (D5 dJ) (B3 dJ) .none kV8 dc8 pm8 an8 cd8 ct8),sl8⟩) (c8 : PySem.W.codeIn K cd8 "shortest_way" = true) (k8 : PySem.W.keepIn K (.ref f8) = true)
  (a7 : PySem.W.nsIn K mainGlobals "ring" = some (some (.ref f7))) (l7 : K.lookup f7 = some ⟨oc7,od7,.func (PySem.W.fnOf "ring" "ring" (D6 iO) (D5 iO) (B3 iO) .none kV7 dc7 pm7 an7 cd7 ct7),sl7⟩) (c7 : PySem.W.codeIn K cd7 "ring" = true) (k7 : PySem.W.keepIn K (.ref f7) = true)
  (a10 : PySem.W.nsIn K mainGlobals "refuse_ring" = some (some (.ref f10))) (l10 : K.lookup f10 = some ⟨oc10,od10,.func (PySem.W.fnOf "refuse_ring" "refuse_ring" (D6 mY) (D5 mY) (B3 mY) .none kV10 dc10 pm10 an10 cd10 ct10),sl10⟩) (c10 : PySem.W.codeIn K cd10 "refuse_ring" = true) (k10 : PySem.W.keepIn K (.ref f10) = true)
  (a32 : PySem.W.nsIn K mainGlobals "_law_next" = some (some (.ref f32))) (l32 : K.lookup f32 = some ⟨oc32,od32,.func (PySem.W.fnOf "_law_next" "_law_next" (D6 iQ) (D5 iQ) (B3 iQ) .none kV32 dc32 pm32 an32 cd32 ct32),sl32⟩) (c32 : PySem.W.codeIn K cd32 "_law_next" = true) (k32 : PySem.W.keepIn K (.ref f32) = true)
  (a33 : PySem.W.nsIn K mainGlobals "_law_pool" = some (some (.ref f33))) (l33 : K.lookup f33 = some ⟨oc33,od33,.func (PySem.W.fnOf "_law_pool" "_law_pool" (D6 iP) (D5 iP) (B3 iP) .none kV33 dc33 pm33 an33 cd33 ct33),sl33⟩) (c33 : PySem.W.codeIn K cd33 "_law_pool" = true) (k33 : PySem.W.keepIn K (.ref f33) = true)
  (a34 : PySem.W.nsIn K mainGlobals "_law_line" = some (some (.ref f34))) (l34 : K.lookup f34 = some ⟨oc34,od34,.func (PySem.W.fnOf "_law_line" "_law_line" (D6 nG) (D5 nG) (B3 nG) .none kV34 dc34 pm34 an34 cd34 ct34),sl34⟩) (c34 : PySem.W.codeIn K cd34 "_law_line" = true) (k34 : PySem.W.keepIn K (.ref f34) = true)
  (a35 : PySem.W.nsIn K mainGlobals "_law_no_row" = some (some (.ref f35))) (l35 : K.lookup f35 = some ⟨oc35,od35,.func (PySem.W.fnOf "_law_no_row" "_law_no_row" (D6 nC) (D5 nC) (B3 nC) .none kV35 dc35 pm35 an35 cd35 ct35),sl35⟩) (c35 : PySem.W.codeIn K cd35 "_law_no_row" = true) (k35 : PySem.W.keepIn K (.ref f35) = true)
  (a36 : PySem.W.nsIn K mainGlobals "_law_done" = some (some (.ref f36))) (l36 : K.lookup f36 = some ⟨oc36,od36,.func (PySem.W.fnOf "_law_done" "_law_done" (D6 iY) (D5 iY) (B3 iY) .none kV36 dc36 pm36 an36 cd36 ct36),sl36⟩) (c36 : PySem.W.codeIn K cd36 "_law_done" = true) (k36 : PySem.W.keepIn K (.ref f36) = true)
  (a37 : PySem.W.nsIn K mainGlobals "_law_deed" = some (some (.ref f37))) (l37 : K.lookup f37 = some ⟨oc37,od37,.func (PySem.W.fnOf "_law_deed" "_law_deed" (D6 iZ) (D5 iZ) (B3 iZ) .none kV37 dc37 pm37 an37 cd37 ct37),sl37⟩) (c37 : PySem.W.codeIn K cd37 "_law_deed" = true) (k37 : PySem.W.keepIn K (.ref f37) = true)
  (a38 : PySem.W.nsIn K mainGlobals "law" = some (some (.ref f38))) (l38 : K.lookup f38 = some ⟨oc38,od38,.func (PySem.W.fnOf "law" "law" (D6 eV) (D5 eV) (B3 eV) .none kV38 dc38 pm38 an38 cd38 ct38),sl38⟩) (c38 : PySem.W.codeIn K cd38 "law" = true) (k38 : PySem.W.keepIn K (.ref f38) = true)
  (z44 : PySem.W.nsIn K mainGlobals "all" = some none)
  (z45 : PySem.W.nsIn K mainGlobals "any" = some none)
  (z46 : PySem.W.nsIn K mainGlobals "enumerate" = some none)
  (z47 : PySem.W.nsIn K mainGlobals "int" = some none)
  (z48 : PySem.W.nsIn K mainGlobals "isinstance" = some none)
  (z49 : PySem.W.nsIn K mainGlobals "len" = some none)
  (z50 : PySem.W.nsIn K mainGlobals "list" = some none)
  (z51 : PySem.W.nsIn K mainGlobals "ord" = some none)
  (z52 : PySem.W.nsIn K mainGlobals "range" = some none)
  (z53 : PySem.W.nsIn K mainGlobals "reversed" = some none)
  (z54 : PySem.W.nsIn K mainGlobals "str" = some none)
  (z55 : PySem.W.nsIn K mainGlobals "tuple" = some none)
  (a_NO : PySem.W.nsIn K mainGlobals "NO_SIGNS" = some (some (.ref gt))) (l_NO : K.lookup gt = some ⟨.type "tuple",dN,.seq #[.int 34 tA,.int 37 tB] nN,slN⟩)
  (gNT : PySem.W.nsIn K mainGlobals "NoText" = some (some (.ref cC))) (gRD : PySem.W.nsIn K mainGlobals "Reader" = some (some (.ref cR))) (gMF : PySem.W.nsIn K mainGlobals "MOST_FIGURES" = some (some (.int 60 tM))) (gSS : PySem.W.nsIn K mainGlobals "SINGLE_SIGNS" = some (some (.str (Str.ofString "{}[](),:?&|!@.") tS))) (gPW : PySem.W.nsIn K mainGlobals "PLAIN_WORDS" = some (some (.ref gp))) (lPW : K.lookup gp = some ⟨.type "tuple",dP,.seq #[.str (Str.ofString "none") p0,.str (Str.ofString "yes") p1,.str (Str.ofString "no") p2,.str (Str.ofString "truth") p3,.str (Str.ofString "number") p4,.str (Str.ofString "text") p5,.str (Str.ofString "list") p6,.str (Str.ofString "record") p7,.str (Str.ofString "any") p8,.str (Str.ofString "nothing") p9] nP,slP⟩) (x1cC : PySem.W.excIn K cC [.type "ValueError",.type "Exception",.type "BaseException",.type "object"] "ValueError.__new__" = true) (x2cC : PySem.W.findIn K (.ref cC) "__getattribute__" = some (some (.builtin "BaseException.__getattribute__"))) (x3cC : PySem.W.findIn K (.ref cC) "__getattr__" = some none) (x4cC : PySem.W.findIn K (.ref cC) "__class__" = some (some (.builtin "object.__class__"))) (x5cC : PySem.W.mroIn K cC (.type "object") = some true) (x6cC : PySem.W.mroIn K cC (.type "BaseException") = some true) (y1 : PySem.W.plainGet K cR Str.empty = true) (y2 : PySem.W.hasDictIn K cR = true) (y3 : PySem.W.plainOver K cR = true) (y4 : PySem.W.findIn K (.ref cR) "__setattr__" = some (some (.builtin "object.__setattr__"))) (y5 : PySem.W.findIn K (.ref cR) "words" = some none) (y6 : PySem.W.findIn K (.ref cR) "taken" = some none) (y7 : PySem.W.makesIn K cR = true) (y8 : PySem.W.keepIn K (.ref cR) = true) (a39 : PySem.W.findIn K (.ref cR) "__init__" = some (some (.ref f39))) (l39 : K.lookup f39 = some ⟨oc39,od39,.func (PySem.W.fnOf "__init__" "Reader.__init__" (D6 iV) (D5 iV) (B3 iV) .none kV39 dc39 pm39 an39 cd39 ct39),sl39⟩) (c39 : PySem.W.codeIn K cd39 "Reader.__init__" = true) (k39 : PySem.W.keepIn K (.ref f39) = true) (i39 : PySem.W.isFn K (.ref f39) = true) (a40 : PySem.W.findIn K (.ref cR) "ahead" = some (some (.ref f40))) (l40 : K.lookup f40 = some ⟨oc40,od40,.func (PySem.W.fnOf "ahead" "Reader.ahead" (D6 dR) (D5 dR) (B3 dR) .none kV40 dc40 pm40 an40 cd40 ct40),sl40⟩) (c40 : PySem.W.codeIn K cd40 "Reader.ahead" = true) (k40 : PySem.W.keepIn K (.ref f40) = true) (i40 : PySem.W.isFn K (.ref f40) = true) (a41 : PySem.W.findIn K (.ref cR) "take" = some (some (.ref f41))) (l41 : K.lookup f41 = some ⟨oc41,od41,.func (PySem.W.fnOf "take" "Reader.take" (D6 iM) (D5 iM) (B3 iM) .none kV41 dc41 pm41 an41 cd41 ct41),sl41⟩) (c41 : PySem.W.codeIn K cd41 "Reader.take" = true) (k41 : PySem.W.keepIn K (.ref f41) = true) (i41 : PySem.W.isFn K (.ref f41) = true) (a42 : PySem.W.findIn K (.ref cR) "takes" = some (some (.ref f42))) (l42 : K.lookup f42 = some ⟨oc42,od42,.func (PySem.W.fnOf "takes" "Reader.takes" (D6 dH) (D5 dH) (B3 dH) .none kV42 dc42 pm42 an42 cd42 ct42),sl42⟩) (c42 : PySem.W.codeIn K cd42 "Reader.takes" = true) (k42 : PySem.W.keepIn K (.ref f42) = true) (i42 : PySem.W.isFn K (.ref f42) = true) (a43 : PySem.W.findIn K (.ref cR) "must_take" = some (some (.ref f43))) (l43 : K.lookup f43 = some ⟨oc43,od43,.func (PySem.W.fnOf "must_take" "Reader.must_take" (D6 iS) (D5 iS) (B3 iS) .none kV43 dc43 pm43 an43 cd43 ct43),sl43⟩) (c43 : PySem.W.codeIn K cd43 "Reader.must_take" = true) (k43 : PySem.W.keepIn K (.ref f43) = true) (i43 : PySem.W.isFn K (.ref f43) = true) (gRI : PySem.W.nsIn K mainGlobals "Ring" = some (some (.ref cG))) (gNR : PySem.W.nsIn K mainGlobals "NoRow" = some (some (.ref cN))) (gDK : PySem.W.nsIn K mainGlobals "Desk" = some (some (.ref cD))) (x1cG : PySem.W.excIn K cG [.type "ValueError",.type "Exception",.type "BaseException",.type "object"] "ValueError.__new__" = true) (x2cG : PySem.W.findIn K (.ref cG) "__getattribute__" = some (some (.builtin "BaseException.__getattribute__"))) (x3cG : PySem.W.findIn K (.ref cG) "__getattr__" = some none) (x4cG : PySem.W.findIn K (.ref cG) "__class__" = some (some (.builtin "object.__class__"))) (x5cG : PySem.W.mroIn K cG (.type "object") = some true) (x6cG : PySem.W.mroIn K cG (.type "BaseException") = some true) (x1cN : PySem.W.excIn K cN [.type "ValueError",.type "Exception",.type "BaseException",.type "object"] "ValueError.__new__" = true) (x2cN : PySem.W.findIn K (.ref cN) "__getattribute__" = some (some (.builtin "BaseException.__getattribute__"))) (x3cN : PySem.W.findIn K (.ref cN) "__getattr__" = some none) (x4cN : PySem.W.findIn K (.ref cN) "__class__" = some (some (.builtin "object.__class__"))) (x5cN : PySem.W.mroIn K cN (.type "object") = some true) (x6cN : PySem.W.mroIn K cN (.type "BaseException") = some true) (mcc : PySem.W.mroIn K cC (.ref cC) = some true) (mgc : PySem.W.mroIn K cG (.ref cC) = some false) (mgg : PySem.W.mroIn K cG (.ref cG) = some true) (mnc : PySem.W.mroIn K cN (.ref cC) = some false) (mng : PySem.W.mroIn K cN (.ref cG) = some false) (mnn : PySem.W.mroIn K cN (.ref cN) = some true) (w1 : PySem.W.plainGet K cD Str.empty = true) (w2 : PySem.W.hasDictIn K cD = true) (w3 : PySem.W.plainOver K cD = true) (w4 : PySem.W.findIn K (.ref cD) "__setattr__" = some (some (.builtin "object.__setattr__"))) (w5 : PySem.W.findIn K (.ref cD) "lines" = some none) (w6 : PySem.W.findIn K (.ref cD) "kept_rows" = some none) (w7 : PySem.W.makesIn K cD = true) (w8 : PySem.W.keepIn K (.ref cD) = true) (a_dinit : PySem.W.findIn K (.ref cD) "__init__" = some (some (.ref f_dinit))) (l_dinit : K.lookup f_dinit = some ⟨oc_dinit,od_dinit,.func (PySem.W.fnOf "__init__" "Desk.__init__" (D6 dQ) (D5 dQ) (B3 dQ) .none kV_dinit dc_dinit pm_dinit an_dinit cd_dinit ct_dinit),sl_dinit⟩) (c_dinit : PySem.W.codeIn K cd_dinit "Desk.__init__" = true) (k_dinit : PySem.W.keepIn K (.ref f_dinit) = true) (i_dinit : PySem.W.isFn K (.ref f_dinit) = true) (a_dtell : PySem.W.findIn K (.ref cD) "tell" = some (some (.ref f_dtell))) (l_dtell : K.lookup f_dtell = some ⟨oc_dtell,od_dtell,.func (PySem.W.fnOf "tell" "Desk.tell" (D6 iL) (D5 iL) (B3 iL) .none kV_dtell dc_dtell pm_dtell an_dtell cd_dtell ct_dtell),sl_dtell⟩) (c_dtell : PySem.W.codeIn K cd_dtell "Desk.tell" = true) (k_dtell : PySem.W.keepIn K (.ref f_dtell) = true) (i_dtell : PySem.W.isFn K (.ref f_dtell) = true) (a_ddrop : PySem.W.findIn K (.ref cD) "drop" = some (some (.ref f_ddrop))) (l_ddrop : K.lookup f_ddrop = some ⟨oc_ddrop,od_ddrop,.func (PySem.W.fnOf "drop" "Desk.drop" (D6 iX) (D5 iX) (B3 iX) .none kV_ddrop dc_ddrop pm_ddrop an_ddrop cd_ddrop ct_ddrop),sl_ddrop⟩) (c_ddrop : PySem.W.codeIn K cd_ddrop "Desk.drop" = true) (k_ddrop : PySem.W.keepIn K (.ref f_ddrop) = true) (i_ddrop : PySem.W.isFn K (.ref f_ddrop) = true) (a_drows : PySem.W.findIn K (.ref cD) "rows" = some (some (.ref f_drows))) (l_drows : K.lookup f_drows = some ⟨oc_drows,od_drows,.func (PySem.W.fnOf "rows" "Desk.rows" (D6 dO) (D5 dO) (B3 dO) .none kV_drows dc_drows pm_drows an_drows cd_drows ct_drows),sl_drows⟩) (c_drows : PySem.W.codeIn K cd_drows "Desk.rows" = true) (k_drows : PySem.W.keepIn K (.ref f_drows) = true) (i_drows : PySem.W.isFn K (.ref f_drows) = true) :
  ∃ fd : FuncData,(∀ (s : Shared) (v : Value),BindsTo s fd ⟨[v],[]⟩ [("_law_script",v)]) ∧ ∀ base : Heap,K.In base → base.Ns mainGlobals mg → FnOk l.prog w K mg base K3 42 fa fd ["_law_script"] (pM K) := by
 have e := hfa.symm.trans (PySem.W.mg_of X G a38)
 cases e
 have F1 := E6 (st := iR) l1 c1 k1
 have F2 := E6 (st := iN) l2 c2 k2
 have F14 := E6 (st := aW) l14 c14 k14
 have F15 := E6 (st := aX) l15 c15 k15
 have F13 := E6 (st := mW) l13 c13 k13
 have F16 := E6 (st := nB) l16 c16 k16
 have F17 := E6 (st := mZ) l17 c17 k17
 have F12 := E6 (st := iK) l12 c12 k12
 have F11 := E6 (st := dG) l11 c11 k11
 have F23 := E6 (st := iT) l23 c23 k23
 have F31 := E6 (st := aV) l31 c31 k31
 have F30 := E6 (st := Y6) l30 c30 k30
 have F27 := E6 (st := nH) l27 c27 k27
 have F28 := E6 (st := iW) l28 c28 k28
 have F24 := E6 (st := dI) l24 c24 k24
 have F20 := E6 (st := nA) l20 c20 k20
 have F19 := E6 (st := cH) l19 c19 k19
 have F21 := E6 (st := cF) l21 c21 k21
 have F22 := E6 (st := X4) l22 c22 k22
 have F25 := E6 (st := Z9) l25 c25 k25
 have F26 := E6 (st := cE) l26 c26 k26
 have F29 := E6 (st := aA) l29 c29 k29
 have F18 := E6 (st := mX) l18 c18 k18
 have F5 := E6 (st := nI) l5 c5 k5
 have F6 := E6 (st := aU) l6 c6 k6
 have F3 := E6 (st := dM) l3 c3 k3
 have F4 := E6 (st := iU) l4 c4 k4
 have F9 := E6 (st := mV) l9 c9 k9
 have F8 := E6 (st := dJ) l8 c8 k8
 have F7 := E6 (st := iO) l7 c7 k7
 have F10 := E6 (st := mY) l10 c10 k10
 have F32 := E6 (st := iQ) l32 c32 k32
 have F33 := E6 (st := iP) l33 c33 k33
 have F34 := E6 (st := nG) l34 c34 k34
 have F35 := E6 (st := nC) l35 c35 k35
 have F36 := E6 (st := iY) l36 c36 k36
 have F37 := E6 (st := iZ) l37 c37 k37
 have F38 := E6 (st := eV) l38 c38 k38
 have b1 := F1.binds (ps := ["word"]) fun _ _ _ _ _ _ us hl=>match us,hl with | [_],_=>rfl
 have b2 := F2.binds (ps := ["letter"]) fun _ _ _ _ _ _ us hl=>match us,hl with | [_],_=>rfl
 have b14 := F14.binds (ps := ["sign"]) fun _ _ _ _ _ _ us hl=>match us,hl with | [_],_=>rfl
 have b15 := F15.binds (ps := ["sign"]) fun _ _ _ _ _ _ us hl=>match us,hl with | [_],_=>rfl
 have b13 := F13.binds (ps := ["text","place","fits"]) fun _ _ _ _ _ _ us hl=>match us,hl with | [_,_,_],_=>rfl
 have b16 := F16.binds (ps := ["text","place"]) fun _ _ _ _ _ _ us hl=>match us,hl with | [_,_],_=>rfl
 have b17 := F17.binds (ps := ["text","place"]) fun _ _ _ _ _ _ us hl=>match us,hl with | [_,_],_=>rfl
 have b12 := F12.binds (ps := ["text","place"]) fun _ _ _ _ _ _ us hl=>match us,hl with | [_,_],_=>rfl
 have b11 := F11.binds (ps := ["text"]) fun _ _ _ _ _ _ us hl=>match us,hl with | [_],_=>rfl
 have b23 := F23.binds (ps := ["word"]) fun _ _ _ _ _ _ us hl=>match us,hl with | [_],_=>rfl
 have b31 := F31.binds (ps := ["reader"]) fun _ _ _ _ _ _ us hl=>match us,hl with | [_],_=>rfl
 have b30 := F30.binds (ps := ["reader"]) fun _ _ _ _ _ _ us hl=>match us,hl with | [_],_=>rfl
 have b27 := F27.binds (ps := ["reader","close","count"]) fun _ _ _ _ _ _ us hl=>match us,hl with | [_,_,_],_=>rfl
 have b28 := F28.binds (ps := ["reader","close"]) fun _ _ _ _ _ _ us hl=>match us,hl with | [_,_],_=>rfl
 have b24 := F24.binds (ps := ["reader","low"]) fun _ _ _ _ _ _ us hl=>match us,hl with | [_,_],_=>rfl
 have b20 := F20.binds (ps := ["word","trees"]) fun _ _ _ _ _ _ us hl=>match us,hl with | [_,_],_=>rfl
 have b19 := F19.binds (ps := ["reader","free"]) fun _ _ _ _ _ _ us hl=>match us,hl with | [_,_],_=>rfl
 have b21 := F21.binds (ps := ["reader","free"]) fun _ _ _ _ _ _ us hl=>match us,hl with | [_,_],_=>rfl
 have b22 := F22.binds (ps := ["reader","free"]) fun _ _ _ _ _ _ us hl=>match us,hl with | [_,_],_=>rfl
 have b25 := F25.binds (ps := ["reader"]) fun _ _ _ _ _ _ us hl=>match us,hl with | [_],_=>rfl
 have b26 := F26.binds (ps := ["reader"]) fun _ _ _ _ _ _ us hl=>match us,hl with | [_],_=>rfl
 have b29 := F29.binds (ps := ["reader"]) fun _ _ _ _ _ _ us hl=>match us,hl with | [_],_=>rfl
 have b18 := F18.binds (ps := ["line"]) fun _ _ _ _ _ _ us hl=>match us,hl with | [_],_=>rfl
 have b5 := F5.binds (ps := ["path","longer"]) fun _ _ _ _ _ _ us hl=>match us,hl with | [_,_],_=>rfl
 have b6 := F6.binds (ps := ["trees"]) fun _ _ _ _ _ _ us hl=>match us,hl with | [_],_=>rfl
 have b3 := F3.binds (ps := ["row","other"]) fun _ _ _ _ _ _ us hl=>match us,hl with | [_,_],_=>rfl
 have b4 := F4.binds (ps := ["row","other"]) fun _ _ _ _ _ _ us hl=>match us,hl with | [_,_],_=>rfl
 have b9 := F9.binds (ps := ["came_from","last"]) fun _ _ _ _ _ _ us hl=>match us,hl with | [_,_],_=>rfl
 have b8 := F8.binds (ps := ["nexts","first","last"]) fun _ _ _ _ _ _ us hl=>match us,hl with | [_,_,_],_=>rfl
 have b7 := F7.binds (ps := ["rows"]) fun _ _ _ _ _ _ us hl=>match us,hl with | [_],_=>rfl
 have b10 := F10.binds (ps := ["rows"]) fun _ _ _ _ _ _ us hl=>match us,hl with | [_],_=>rfl
 have b32 := F32.binds (ps := ["_law_state","_law_many"]) fun _ _ _ _ _ _ us hl=>match us,hl with | [_,_],_=>rfl
 have b33 := F33.binds (ps := ["_law_state"]) fun _ _ _ _ _ _ us hl=>match us,hl with | [_],_=>rfl
 have b34 := F34.binds (ps := ["_law_state","_law_names"]) fun _ _ _ _ _ _ us hl=>match us,hl with | [_,_],_=>rfl
 have b35 := F35.binds (ps := ["_law_state","_law_names"]) fun _ _ _ _ _ _ us hl=>match us,hl with | [_,_],_=>rfl
 have b36 := F36.binds (ps := ["_law_desk","_law_line_here","_law_number"]) fun _ _ _ _ _ _ us hl=>match us,hl with | [_,_,_],_=>rfl
 have b37 := F37.binds (ps := ["_law_desk","_law_lines","_law_state","_law_names"]) fun _ _ _ _ _ _ us hl=>match us,hl with | [_,_,_,_],_=>rfl
 have m44 := PySem.W.mg_none_of X G z44
 have m45 := PySem.W.mg_none_of X G z45
 have m46 := PySem.W.mg_none_of X G z46
 have m47 := PySem.W.mg_none_of X G z47
 have m48 := PySem.W.mg_none_of X G z48
 have m49 := PySem.W.mg_none_of X G z49
 have m50 := PySem.W.mg_none_of X G z50
 have m51 := PySem.W.mg_none_of X G z51
 have m52 := PySem.W.mg_none_of X G z52
 have m53 := PySem.W.mg_none_of X G z53
 have m54 := PySem.W.mg_none_of X G z54
 have m55 := PySem.W.mg_none_of X G z55
 have G_no := PySem.W.mg_of X G a_NO
 have K_no : ∀ H : Hp,SqT K H gt [.int 34,.int 37] := fun H=>.inr ⟨_,#[.int 34 tA,.int 37 tB],nN,l_NO,rfl,rfl,(by show 2 ≤ sizeLine; decide),.cons ⟨tA,rfl⟩ (.cons ⟨tB,rfl⟩ .nil)⟩
 have hNT : NT K mg cC := ⟨⟨x1cC,x2cC,x3cC,x4cC,x5cC,x6cC⟩,PySem.W.mg_of X G gNT⟩
 have G_most := PySem.W.mg_of X G gMF
 have G_sing := PySem.W.mg_of X G gSS
 have G_reader := PySem.W.mg_of X G gRD
 have G_plain := PySem.W.mg_of X G gPW
 have hRK : RK K cR := ⟨⟨y1,y2,y3,y4⟩,y5,y6⟩
 have hMk : Mk K cR f39 := ⟨y7,a39,i39,y8⟩
 have K_plain : ∀ H : Hp,SqT K H gp (ST U9) := fun H=>by
  rw [← AB8]
  exact .inr ⟨_,#[.str (Str.ofString "none") p0,.str (Str.ofString "yes") p1,.str (Str.ofString "no") p2,.str (Str.ofString "truth") p3,.str (Str.ofString "number") p4,.str (Str.ofString "text") p5,.str (Str.ofString "list") p6,.str (Str.ofString "record") p7,.str (Str.ofString "any") p8,.str (Str.ofString "nothing") p9],nP,lPW,rfl,rfl,(by show 10 ≤ sizeLine; decide),.cons ⟨p0,rfl⟩ (.cons ⟨p1,rfl⟩ (.cons ⟨p2,rfl⟩ (.cons ⟨p3,rfl⟩ (.cons ⟨p4,rfl⟩ (.cons ⟨p5,rfl⟩ (.cons ⟨p6,rfl⟩ (.cons ⟨p7,rfl⟩ (.cons ⟨p8,rfl⟩ (.cons ⟨p9,rfl⟩ .nil)))))))))⟩
 have F39 := E6 (st := iV) l39 c39 k39
 have b39 := F39.binds (ps := ["self","text"]) fun _ _ _ _ _ _ us hl=>match us,hl with | [_,_],_=>rfl
 have F40 := E6 (st := dR) l40 c40 k40
 have b40 := F40.binds (ps := ["self","steps"]) fun _ _ _ _ _ _ us hl=>match us,hl with | [_,_],_=>rfl
 have F41 := E6 (st := iM) l41 c41 k41
 have b41 := F41.binds (ps := ["self"]) fun _ _ _ _ _ _ us hl=>match us,hl with | [_],_=>rfl
 have F42 := E6 (st := dH) l42 c42 k42
 have b42 := F42.binds (ps := ["self","word"]) fun _ _ _ _ _ _ us hl=>match us,hl with | [_,_],_=>rfl
 have F43 := E6 (st := iS) l43 c43 k43
 have b43 := F43.binds (ps := ["self","word"]) fun _ _ _ _ _ _ us hl=>match us,hl with | [_,_],_=>rfl
 have F_dinit := E6 (st := dQ) l_dinit c_dinit k_dinit
 have b_dinit := F_dinit.binds (ps := ["self"]) fun _ _ _ _ _ _ us hl=>match us,hl with | [_],_=>rfl
 have F_dtell := E6 (st := iL) l_dtell c_dtell k_dtell
 have b_dtell := F_dtell.binds (ps := ["self","line"]) fun _ _ _ _ _ _ us hl=>match us,hl with | [_,_],_=>rfl
 have F_ddrop := E6 (st := iX) l_ddrop c_ddrop k_ddrop
 have b_ddrop := F_ddrop.binds (ps := ["self","number"]) fun _ _ _ _ _ _ us hl=>match us,hl with | [_,_],_=>rfl
 have F_drows := E6 (st := dO) l_drows c_drows k_drows
 have b_drows := F_drows.binds (ps := ["self"]) fun _ _ _ _ _ _ us hl=>match us,hl with | [_],_=>rfl
 have hDC : DC K cD := ⟨⟨w1,w2,w3,w4⟩,w5,w6⟩
 have hMD : Mk K cD f_dinit := ⟨w7,a_dinit,i_dinit,w8⟩
 have hX3 : EX3 K mg cC cG cN := ⟨⟨⟨x1cC,x2cC,x3cC,x4cC,x5cC,x6cC⟩,PySem.W.mg_of X G gNT⟩,⟨⟨x1cG,x2cG,x3cG,x4cG,x5cG,x6cG⟩,PySem.W.mg_of X G gRI⟩,⟨⟨x1cN,x2cN,x3cN,x4cN,x5cN,x6cN⟩,PySem.W.mg_of X G gNR⟩,mcc,mgc,mgg,mnc,mng,mnn⟩
 refine ⟨PySem.W.fnOf "law" "law" (D6 eV) (D5 eV) (B3 eV) .none kV38 dc38 pm38 an38 cd38 ct38,fun s v=>.of_eq rfl,fun base _ _=>?_⟩
 have C1 : Cal l.prog w K mg base 1 "is_name" ["word"] qF := ⟨_,_,AK5 F1 m48 m54 m44 m49,PySem.W.mg_of X G a1,k1,b1⟩
 have C2 : Cal l.prog w K mg base 1 "is_sign" ["letter"] (fun vs H Q _=>W6 U7 vs H Q) := ⟨_,_,AJ9 F2 m51 G_no K_no,PySem.W.mg_of X G a2,k2,b2⟩
 have C14 : Cal l.prog w K mg base 1 "is_letter" ["sign"] (fun vs H Q _=>W6 P4 vs H Q) := ⟨_,_,xC F14,PySem.W.mg_of X G a14,k14,b14⟩
 have C15 : Cal l.prog w K mg base 1 "is_figure" ["sign"] (fun vs H Q _=>W6 K2 vs H Q) := ⟨_,_,xD F15,PySem.W.mg_of X G a15,k15,b15⟩
 have C13 : Cal l.prog w K mg base 2 "run_end" ["text","place","fits"] (kY l.prog w K mg base) := ⟨_,_,AR2 F13 m49,PySem.W.mg_of X G a13,k13,b13⟩
 obtain ⟨vfig,V_fig⟩ := sD C15
 obtain ⟨vsig,V_sig⟩ := sD C2
 have C16 : K8 l.prog w K mg base 3 "number_at" ["text","place"] (cV W8 cC) := ⟨_,_,AR7 F16 C13 hNT V_fig.1 V_fig.2 G_most m49,PySem.W.mg_of X G a16,k16,b16⟩
 have C17 : K8 l.prog w K mg base 3 "quoted_at" ["text","place"] (cV aP cC) := ⟨_,_,AR5 F17 C13 hNT V_sig.1 V_sig.2,PySem.W.mg_of X G a17,k17,b17⟩
 have C12 : K8 l.prog w K mg base 4 "word_at" ["text","place"] (cV N0 cC) := ⟨_,_,AJ6 F12 C13 C14 C15 C16 C17 hNT G_sing,PySem.W.mg_of X G a12,k12,b12⟩
 have C11 : K8 l.prog w K mg base 5 "words_of" ["text"] (mQ K cC) := ⟨_,_,AA1 F11 C12 hNT m49 m48 m54,PySem.W.mg_of X G a11,k11,b11⟩
 have C23 : Cal l.prog w K mg base 2 "is_number" ["word"] fZ := ⟨_,_,AK7 F23 C15,PySem.W.mg_of X G a23,k23,b23⟩
 have M40 : P2 l.prog w K mg base K3 cR 1 "ahead" ["self","steps"] (V4 cR) := ⟨_,_,AB0 F40 hRK m49,⟨a40,i40,k40⟩,b40⟩
 have M41 : P2 l.prog w K mg base K3 cR 2 "take" ["self"] (Z5 cR) := ⟨_,_,AJ8 F41 hRK M40,⟨a41,i41,k41⟩,b41⟩
 have M42 : P2 l.prog w K mg base K3 cR 2 "takes" ["self","word"] (X2 cR) := ⟨_,_,AA2 F42 hRK M40,⟨a42,i42,k42⟩,b42⟩
 have M43 : P2 l.prog w K mg base (M0 l.prog w) cR 3 "must_take" ["self","word"] (bF cR cC) := ⟨_,_,AK6 F43 hRK hNT M41,⟨a43,i43,k43⟩,b43⟩
 have C31 : K8 l.prog w K mg base 3 "name_of" ["reader"] (bE cR cC) := ⟨_,_,xB F31 hRK hNT M41 C1,PySem.W.mg_of X G a31,k31,b31⟩
 have C30 : K8 l.prog w K mg base 4 "names_of" ["reader"] (cA K cR cC) := ⟨_,_,uX F30 hRK C31 M42 m55,PySem.W.mg_of X G a30,k30,b30⟩
 have C27 : K8 l.prog w K mg base 4 "has_another" ["reader","close","count"] (lA cR cC) := ⟨_,_,AS1 F27 hRK M40 M43,PySem.W.mg_of X G a27,k27,b27⟩
 have C28 : K8 l.prog w K mg base 4 "takes_end" ["reader","close"] (gA cR cC) := ⟨_,_,AL1 F28 hRK M42 M43,PySem.W.mg_of X G a28,k28,b28⟩
 have C24 : Cal l.prog w K mg base 3 "span_tree" ["reader","low"] (iH K cR) := ⟨_,_,AA3 F24 hRK M42 M41 M40 C23 m47,PySem.W.mg_of X G a24,k24,b24⟩
 have C20 : Cal l.prog w K mg base 1 "one_or_several" ["word","trees"] (pL K) := ⟨_,_,AR6 F20 m49 m55,PySem.W.mg_of X G a20,k20,b20⟩
 have N19 : Nm K mg "expression" cH ["reader","free"] := ⟨_,_,F19,PySem.W.mg_of X G a19,k19,b19⟩
 have N21 : Nm K mg "negated" cF ["reader","free"] := ⟨_,_,F21,PySem.W.mg_of X G a21,k21,b21⟩
 have N22 : Nm K mg "single" X4 ["reader","free"] := ⟨_,_,F22,PySem.W.mg_of X G a22,k22,b22⟩
 have N25 : Nm K mg "list_tree" Z9 ["reader"] := ⟨_,_,F25,PySem.W.mg_of X G a25,k25,b25⟩
 have N26 : Nm K mg "record_tree" cE ["reader"] := ⟨_,_,F26,PySem.W.mg_of X G a26,k26,b26⟩
 have N29 : Nm K mg "field_of" aA ["reader"] := ⟨_,_,F29,PySem.W.mg_of X G a29,k29,b29⟩
 have hRdg : Rdg l.prog w K mg base cR cC := ⟨hRK,hNT,N19,N21,N22,N25,N26,N29,C27,C28,C31,C30,C23,C24,C20,M40,M41,M42,M43,⟨gp,G_plain,K_plain⟩,m49,m55,m47,m52⟩
 have FIni := AK9 (P := l.prog) (w := w) (base := base) F39 hRK C11
 have C18 : K8 l.prog w K mg base 38 "read_row" ["line"] (kX K cC (aO (P6 6))) := ⟨_,_,AR3 (N := 6) F18 hRdg hMk FIni b39 G_reader,PySem.W.mg_of X G a18,k18,b18⟩
 have C5 : Cal l.prog w K mg base 1 "begins" ["path","longer"] (pN K) := ⟨_,_,AS2 F5 m49,PySem.W.mg_of X G a5,k5,b5⟩
 have C6 : Cal l.prog w K mg base 1 "places_of" ["trees"] (eT K) := ⟨_,_,xA F6 m49 m50,PySem.W.mg_of X G a6,k6,b6⟩
 have C3 : Cal l.prog w K mg base 2 "leans" ["row","other"] (mS K T2) := ⟨_,_,AA6 F3 C5 C6 m45,PySem.W.mg_of X G a3,k3,b3⟩
 have C4 : Cal l.prog w K mg base 2 "leans_into" ["row","other"] (mS K T3) := ⟨_,_,AK8 F4 C5 C6 m45 m49,PySem.W.mg_of X G a4,k4,b4⟩
 have C9 : Cal l.prog w K mg base 1 "way_to" ["came_from","last"] uM := ⟨_,_,AR1 F9 m50 m53,PySem.W.mg_of X G a9,k9,b9⟩
 have C8 : Cal l.prog w K mg base 2 "shortest_way" ["nexts","first","last"] mR := ⟨_,_,AA4 F8 C9 m49,PySem.W.mg_of X G a8,k8,b8⟩
 have C7 : Cal l.prog w K mg base 3 "ring" ["rows"] (kZ K) := ⟨_,_,AK0 F7 C3 C4 C8 m46,PySem.W.mg_of X G a7,k7,b7⟩
 have C10 : K8 l.prog w K mg base 4 "refuse_ring" ["rows"] (uN K cG) := ⟨_,_,AR4 F10 C7 hX3.g,PySem.W.mg_of X G a10,k10,b10⟩
 have C32 : Cal l.prog w K mg base 1 "_law_next" ["_law_state","_law_many"] bD := ⟨_,_,AK3 F32,PySem.W.mg_of X G a32,k32,b32⟩
 have C33 : Cal l.prog w K mg base 2 "_law_pool" ["_law_state"] qE := ⟨_,_,AK2 F33 C32 m52 m47,PySem.W.mg_of X G a33,k33,b33⟩
 have C34 : Cal l.prog w K mg base 2 "_law_line" ["_law_state","_law_names"] uP := ⟨_,_,AR9 F34 C32 m54,PySem.W.mg_of X G a34,k34,b34⟩
 have C35 : Cal l.prog w K mg base 2 "_law_no_row" ["_law_state","_law_names"] (uO K) := ⟨_,_,AR8 F35 C32,PySem.W.mg_of X G a35,k35,b35⟩
 have M_drows : P2 l.prog w K mg base K3 cD 1 "rows" ["self"] (mT K cD) := ⟨_,_,AA8 F_drows hDC m50,⟨a_drows,i_drows,k_drows⟩,b_drows⟩
 have M_drop : P2 l.prog w K mg base (M0 l.prog w) cD 1 "drop" ["self","number"] (qG K cD cN) := ⟨_,_,AL2 F_ddrop hDC hX3.n m49,⟨a_ddrop,i_ddrop,k_ddrop⟩,b_ddrop⟩
 have M_tell : P2 l.prog w K mg base (M0 l.prog w) cD 39 "tell" ["self","line"] (qD K cD cC cG) := ⟨_,_,AJ7 F_dtell hDC C18 C10 m49,⟨a_dtell,i_dtell,k_dtell⟩,b_dtell⟩
 have FDi := AA9 (P := l.prog) (w := w) (mg := mg) (base := base) F_dinit hDC
 have C36 : Cal l.prog w K mg base 40 "_law_done" ["_law_desk","_law_line_here","_law_number"] (qH K cD) := ⟨_,_,AL3 F36 hDC hX3 M_tell M_drop,PySem.W.mg_of X G a36,k36,b36⟩
 have C37 : Cal l.prog w K mg base 41 "_law_deed" ["_law_desk","_law_lines","_law_state","_law_names"] (qI K cD) := ⟨_,_,AL4 F37 C32 C36 C35 C34 C7 C18 m49,PySem.W.mg_of X G a37,k37,b37⟩
 exact AS0 F38 C32 C33 C37 hDC hMD FDi (PySem.W.mg_of X G gDK) b_dinit M_drows m49 m52 m48 m50 m44
theorem walk {l : PySem.W.OpenLaw} {q : Program} {loose : List Str} {XP : (Str → Option Value) → Heap → Prop} {YP : World → Heap → Prop} {d : DefRec} {K : Params → PySem.W.Frag} (hn : l.most = some 63) (hdf : d.params.defaults = [])
  (hY : ∀ (w : World) (h : Heap),YP w h → (K w.params).In h)
  (F : ∀ (w : World) (mg : Str → Option Value) (fa : Addr) (h : Heap),(K w.params).In h → h.Ns mainGlobals mg → mg d.name = some (.ref fa) →
   ∃ fd : FuncData,(∀ (s : Shared) (u : Value),BindsTo s fd ⟨[u],[]⟩ [("_law_script",u)]) ∧ ∀ base : Heap,(K w.params).In base → base.Ns mainGlobals mg → FnOk l.prog w (K w.params) mg base K3 42 fa fd ["_law_script"] (pM (K w.params))) :
  PySem.W.WalkO q loose XP YP l.row.toRowW d [] (fun f vs=>PySem.call f vs) :=
 L2.walk_of (n := 63) (k := 42) (x := "_law_script") (CX := fun _=>K3) (sp := fun w=>pM (K w.params)) hn (by decide) hdf ⟨rfl,by decide,by decide,rfl⟩ hY F (fun _ _ a ns hl _ hS=>⟨a,ns,rfl,hS,hl,fun _=>rfl⟩) fun _ _ _ _ _ z=>z
end Law
def PySem.W.Fast.tw17372831582304732974 : Unit := ()
def PySem.W.Fast.tw17383485174832168719 : Unit := ()
def PySem.W.Fast.tw10242494115697790922 : Unit := ()
def PySem.W.Fast.tw1181557798085841406 : Unit := ()
def PySem.W.Fast.tw16643472120123275657 : Unit := ()
def PySem.W.Fast.tw3341782842360968770 : Unit := ()
def PySem.W.Fast.tw6251312205686505528 : Unit := ()
def PySem.W.Fast.tw8729157982019974170 : Unit := ()
def PySem.W.Fast.tw3093819198293196337 : Unit := ()
def PySem.W.Fast.tw8999526686489420733 : Unit := ()
def PySem.W.Fast.tw12863174568084024461 : Unit := ()
def PySem.W.Fast.tw326014679610832239 : Unit := ()
def PySem.W.Fast.tw16000310080076235872 : Unit := ()
def PySem.W.Fast.tw8577746854451512795 : Unit := ()
open PySem PySem.W PyProof.Rows
set_option maxRecDepth 100000 in
set_option maxHeartbeats 0 in
theorem PySem.Challenge.cw_meetvalue_k71_desk_rows_holds : PySem.Challenge.rw_meetvalue_k71_desk_rows.Holds := by
 w_on; o_law; k_head; (case hw=>w_witness2)
 k_fill
 refine Law.walk (l := PySem.Challenge.rw_meetvalue_k71_desk_rows) rfl rfl (fun w h Y=>PySem.W.kIn_of Y) ?F
 case F =>
  intro w mg fa h KX G hmg
  refine' Law.all_mk KX G hmg ?a1 ?l1 ?c1 ?k1 ?a2 ?l2 ?c2 ?k2 ?a14 ?l14 ?c14 ?k14 ?a15 ?l15 ?c15 ?k15 ?a13 ?l13 ?c13 ?k13 ?a16 ?l16 ?c16 ?k16 ?a17 ?l17 ?c17 ?k17 ?a12 ?l12 ?c12 ?k12 ?a11 ?l11 ?c11 ?k11 ?a23 ?l23 ?c23 ?k23 ?a31 ?l31 ?c31 ?k31 ?a30 ?l30 ?c30 ?k30 ?a27 ?l27 ?c27 ?k27 ?a28 ?l28 ?c28 ?k28 ?a24 ?l24 ?c24 ?k24 ?a20 ?l20 ?c20 ?k20 ?a19 ?l19 ?c19 ?k19 ?a21 ?l21 ?c21 ?k21 ?a22 ?l22 ?c22 ?k22 ?a25 ?l25 ?c25 ?k25 ?a26 ?l26 ?c26 ?k26 ?a29 ?l29 ?c29 ?k29 ?a18 ?l18 ?c18 ?k18 ?a5 ?l5 ?c5 ?k5 ?a6 ?l6 ?c6 ?k6 ?a3 ?l3 ?c3 ?k3 ?a4 ?l4 ?c4 ?k4 ?a9 ?l9 ?c9 ?k9 ?a8 ?l8 ?c8 ?k8 ?a7 ?l7 ?c7 ?k7 ?a10 ?l10 ?c10 ?k10 ?a32 ?l32 ?c32 ?k32 ?a33 ?l33 ?c33 ?k33 ?a34 ?l34 ?c34 ?k34 ?a35 ?l35 ?c35 ?k35 ?a36 ?l36 ?c36 ?k36 ?a37 ?l37 ?c37 ?k37 ?a38 ?l38 ?c38 ?k38 ?z44 ?z45 ?z46 ?z47 ?z48 ?z49 ?z50 ?z51 ?z52 ?z53 ?z54 ?z55 ?a_NO ?l_NO ?gNT ?gRD ?gMF ?gSS ?gPW ?lPW ?x1cC ?x2cC ?x3cC ?x4cC ?x5cC ?x6cC ?y1 ?y2 ?y3 ?y4 ?y5 ?y6 ?y7 ?y8 ?a39 ?l39 ?c39 ?k39 ?i39 ?a40 ?l40 ?c40 ?k40 ?i40 ?a41 ?l41 ?c41 ?k41 ?i41 ?a42 ?l42 ?c42 ?k42 ?i42 ?a43 ?l43 ?c43 ?k43 ?i43 ?gRI ?gNR ?gDK ?x1cG ?x2cG ?x3cG ?x4cG ?x5cG ?x6cG ?x1cN ?x2cN ?x3cN ?x4cN ?x5cN ?x6cN ?mcc ?mgc ?mgg ?mnc ?mng ?mnn ?w1 ?w2 ?w3 ?w4 ?w5 ?w6 ?w7 ?w8 ?a_dinit ?l_dinit ?c_dinit ?k_dinit ?i_dinit ?a_dtell ?l_dtell ?c_dtell ?k_dtell ?i_dtell ?a_ddrop ?l_ddrop ?c_ddrop ?k_ddrop ?i_ddrop ?a_drows ?l_drows ?c_drows ?k_drows ?i_drows
  (case a1=>k_is); (case l1=>k_is); (case c1=>k_is); (case k1=>k_is)
  (case a2=>k_is); (case l2=>k_is); (case c2=>k_is); (case k2=>k_is)
  (case a14=>k_is); (case l14=>k_is); (case c14=>k_is); (case k14=>k_is)
  (case a15=>k_is); (case l15=>k_is); (case c15=>k_is); (case k15=>k_is)
  (case a13=>k_is); (case l13=>k_is); (case c13=>k_is); (case k13=>k_is)
  (case a16=>k_is); (case l16=>k_is); (case c16=>k_is); (case k16=>k_is)
  (case a17=>k_is); (case l17=>k_is); (case c17=>k_is); (case k17=>k_is)
  (case a12=>k_is); (case l12=>k_is); (case c12=>k_is); (case k12=>k_is)
  (case a11=>k_is); (case l11=>k_is); (case c11=>k_is); (case k11=>k_is)
  (case a23=>k_is); (case l23=>k_is); (case c23=>k_is); (case k23=>k_is)
  (case a31=>k_is); (case l31=>k_is); (case c31=>k_is); (case k31=>k_is)
  (case a30=>k_is); (case l30=>k_is); (case c30=>k_is); (case k30=>k_is)
  (case a27=>k_is); (case l27=>k_is); (case c27=>k_is); (case k27=>k_is)
  (case a28=>k_is); (case l28=>k_is); (case c28=>k_is); (case k28=>k_is)
  (case a24=>k_is); (case l24=>k_is); (case c24=>k_is); (case k24=>k_is)
  (case a20=>k_is); (case l20=>k_is); (case c20=>k_is); (case k20=>k_is)
  (case a19=>k_is); (case l19=>k_is); (case c19=>k_is); (case k19=>k_is)
  (case a21=>k_is); (case l21=>k_is); (case c21=>k_is); (case k21=>k_is)
  (case a22=>k_is); (case l22=>k_is); (case c22=>k_is); (case k22=>k_is)
  (case a25=>k_is); (case l25=>k_is); (case c25=>k_is); (case k25=>k_is)
  (case a26=>k_is); (case l26=>k_is); (case c26=>k_is); (case k26=>k_is)
  (case a29=>k_is); (case l29=>k_is); (case c29=>k_is); (case k29=>k_is)
  (case a18=>k_is); (case l18=>k_is); (case c18=>k_is); (case k18=>k_is)
  (case a5=>k_is); (case l5=>k_is); (case c5=>k_is); (case k5=>k_is)
  (case a6=>k_is); (case l6=>k_is); (case c6=>k_is); (case k6=>k_is)
  (case a3=>k_is); (case l3=>k_is); (case c3=>k_is); (case k3=>k_is)
  (case a4=>k_is); (case l4=>k_is); (case c4=>k_is); (case k4=>k_is)
  (case a9=>k_is); (case l9=>k_is); (case c9=>k_is); (case k9=>k_is)
  (case a8=>k_is); (case l8=>k_is); (case c8=>k_is); (case k8=>k_is)
  (case a7=>k_is); (case l7=>k_is); (case c7=>k_is); (case k7=>k_is)
  (case a10=>k_is); (case l10=>k_is); (case c10=>k_is); (case k10=>k_is)
  (case a32=>k_is); (case l32=>k_is); (case c32=>k_is); (case k32=>k_is)
  (case a33=>k_is); (case l33=>k_is); (case c33=>k_is); (case k33=>k_is)
  (case a34=>k_is); (case l34=>k_is); (case c34=>k_is); (case k34=>k_is)
  (case a35=>k_is); (case l35=>k_is); (case c35=>k_is); (case k35=>k_is)
  (case a36=>k_is); (case l36=>k_is); (case c36=>k_is); (case k36=>k_is)
  (case a37=>k_is); (case l37=>k_is); (case c37=>k_is); (case k37=>k_is)
  (case a38=>k_is); (case l38=>k_is); (case c38=>k_is); (case k38=>k_is)
  (case z44=>k_is)
  (case z45=>k_is)
  (case z46=>k_is)
  (case z47=>k_is)
  (case z48=>k_is)
  (case z49=>k_is)
  (case z50=>k_is)
  (case z51=>k_is)
  (case z52=>k_is)
  (case z53=>k_is)
  (case z54=>k_is)
  (case z55=>k_is)
  (case a_NO=>k_is); (case l_NO=>k_is)
  (case gNT=>first | k_is | k_exc | kit_is)
  (case gRD=>first | k_is | k_exc | kit_is)
  (case gMF=>first | k_is | k_exc | kit_is)
  (case gSS=>first | k_is | k_exc | kit_is)
  (case gPW=>first | k_is | k_exc | kit_is)
  (case lPW=>first | k_is | k_exc | kit_is)
  (case x1cC=>first | k_is | k_exc | kit_is)
  (case x2cC=>first | k_is | k_exc | kit_is)
  (case x3cC=>first | k_is | k_exc | kit_is)
  (case x4cC=>first | k_is | k_exc | kit_is)
  (case x5cC=>first | k_is | k_exc | kit_is)
  (case x6cC=>first | k_is | k_exc | kit_is)
  (case y1=>first | k_is | k_exc | kit_is)
  (case y2=>first | k_is | k_exc | kit_is)
  (case y3=>first | k_is | k_exc | kit_is)
  (case y4=>first | k_is | k_exc | kit_is)
  (case y5=>first | k_is | k_exc | kit_is)
  (case y6=>first | k_is | k_exc | kit_is)
  (case y7=>first | k_is | k_exc | kit_is)
  (case y8=>first | k_is | k_exc | kit_is)
  (case a39=>first | k_is | k_exc | kit_is)
  (case l39=>first | k_is | k_exc | kit_is)
  (case c39=>first | k_is | k_exc | kit_is)
  (case k39=>first | k_is | k_exc | kit_is)
  (case i39=>first | k_is | k_exc | kit_is)
  (case a40=>first | k_is | k_exc | kit_is)
  (case l40=>first | k_is | k_exc | kit_is)
  (case c40=>first | k_is | k_exc | kit_is)
  (case k40=>first | k_is | k_exc | kit_is)
  (case i40=>first | k_is | k_exc | kit_is)
  (case a41=>first | k_is | k_exc | kit_is)
  (case l41=>first | k_is | k_exc | kit_is)
  (case c41=>first | k_is | k_exc | kit_is)
  (case k41=>first | k_is | k_exc | kit_is)
  (case i41=>first | k_is | k_exc | kit_is)
  (case a42=>first | k_is | k_exc | kit_is)
  (case l42=>first | k_is | k_exc | kit_is)
  (case c42=>first | k_is | k_exc | kit_is)
  (case k42=>first | k_is | k_exc | kit_is)
  (case i42=>first | k_is | k_exc | kit_is)
  (case a43=>first | k_is | k_exc | kit_is)
  (case l43=>first | k_is | k_exc | kit_is)
  (case c43=>first | k_is | k_exc | kit_is)
  (case k43=>first | k_is | k_exc | kit_is)
  (case i43=>first | k_is | k_exc | kit_is)
  (case gRI=>first | k_is | k_exc | kit_is)
  (case gNR=>first | k_is | k_exc | kit_is)
  (case gDK=>first | k_is | k_exc | kit_is)
  (case x1cG=>first | k_is | k_exc | kit_is)
  (case x2cG=>first | k_is | k_exc | kit_is)
  (case x3cG=>first | k_is | k_exc | kit_is)
  (case x4cG=>first | k_is | k_exc | kit_is)
  (case x5cG=>first | k_is | k_exc | kit_is)
  (case x6cG=>first | k_is | k_exc | kit_is)
  (case x1cN=>first | k_is | k_exc | kit_is)
  (case x2cN=>first | k_is | k_exc | kit_is)
  (case x3cN=>first | k_is | k_exc | kit_is)
  (case x4cN=>first | k_is | k_exc | kit_is)
  (case x5cN=>first | k_is | k_exc | kit_is)
  (case x6cN=>first | k_is | k_exc | kit_is)
  (case mcc=>first | k_is | k_exc | kit_is)
  (case mgc=>first | k_is | k_exc | kit_is)
  (case mgg=>first | k_is | k_exc | kit_is)
  (case mnc=>first | k_is | k_exc | kit_is)
  (case mng=>first | k_is | k_exc | kit_is)
  (case mnn=>first | k_is | k_exc | kit_is)
  (case w1=>first | k_is | k_exc | kit_is)
  (case w2=>first | k_is | k_exc | kit_is)
  (case w3=>first | k_is | k_exc | kit_is)
  (case w4=>first | k_is | k_exc | kit_is)
  (case w5=>first | k_is | k_exc | kit_is)
  (case w6=>first | k_is | k_exc | kit_is)
  (case w7=>first | k_is | k_exc | kit_is)
  (case w8=>first | k_is | k_exc | kit_is)
  (case a_dinit=>first | k_is | k_exc | kit_is)
  (case l_dinit=>first | k_is | k_exc | kit_is)
  (case c_dinit=>first | k_is | k_exc | kit_is)
  (case k_dinit=>first | k_is | k_exc | kit_is)
  (case i_dinit=>first | k_is | k_exc | kit_is)
  (case a_dtell=>first | k_is | k_exc | kit_is)
  (case l_dtell=>first | k_is | k_exc | kit_is)
  (case c_dtell=>first | k_is | k_exc | kit_is)
  (case k_dtell=>first | k_is | k_exc | kit_is)
  (case i_dtell=>first | k_is | k_exc | kit_is)
  (case a_ddrop=>first | k_is | k_exc | kit_is)
  (case l_ddrop=>first | k_is | k_exc | kit_is)
  (case c_ddrop=>first | k_is | k_exc | kit_is)
  (case k_ddrop=>first | k_is | k_exc | kit_is)
  (case i_ddrop=>first | k_is | k_exc | kit_is)
  (case a_drows=>first | k_is | k_exc | kit_is)
  (case l_drows=>first | k_is | k_exc | kit_is)
  (case c_drows=>first | k_is | k_exc | kit_is)
  (case k_drows=>first | k_is | k_exc | kit_is)
  (case i_drows=>first | k_is | k_exc | kit_is)
