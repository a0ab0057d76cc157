import PyProof.Rows.All
import Wide.All
import OpenK.AllK
import Wide.FinOn
import Lean
import PyProof.EqAt
import PyProof.EqKinds
import PyProof.TupleCall
import PySem.Challenge.RW_meetvalue_k11_made_kinds_hold
set_option Elab.async false
set_option linter.all false
set_option maxRecDepth 100000
set_option maxHeartbeats 4000000
namespace L2
open PySem PySem.Spec PyProof.Rows
abbrev G3 := Sum Int Str
def eY : G3 → Value → Bool
 | .inl k,v=>Value.isInt k v
 | .inr x,v=>Value.isStrOf x v
def BF5 (w : World) : G3 → Int
 | .inl k=>hashInt k
 | .inr x=>hashStr w x
theorem O3 : ∀ {k : G3} {v : Value},eY k v = true → (∃ i t,k = Sum.inl i ∧ v = Value.int i t) ∨ (∃ x t,k = Sum.inr x ∧ v = Value.str x t)
 | .inl i,v,h=>by
  obtain ⟨t,e⟩ := Value.isInt_shape (k := i) (v := v) h
  exact .inl ⟨i,t,rfl,e⟩
 | .inr x,v,h=>by
  obtain ⟨t,e⟩ := Value.isStrOf_shape (x := x) (v := v) h
  exact .inr ⟨x,t,rfl,e⟩
theorem yU (i : Int) (t : Tok) : eY (.inl i) (.int i t) = true := by simp [eY,Value.isInt]
theorem yT (x : Str) (t : Tok) : eY (.inr x) (.str x t) = true := by simp [eY,Value.isStrOf]
theorem AW2 (a b : Int) : decide ((Sum.inl a : G3) = Sum.inl b) = (a == b) := by
 by_cases e : a = b
 ·subst e; simp
 ·have h : ¬ (Sum.inl a : G3) = Sum.inl b := fun q=>e (Sum.inl.inj q)
  rw [decide_eq_false h]
  exact (beq_eq_false_iff_ne.mpr e).symm
theorem AV9 (a b : Str) : decide ((Sum.inr a : G3) = Sum.inr b) = decide (a = b) := by
 by_cases e : a = b
 ·subst e; simp
 ·have h : ¬ (Sum.inr a : G3) = Sum.inr b := fun q=>e (Sum.inr.inj q)
  rw [decide_eq_false h,decide_eq_false e]
theorem AW1 (a : Int) (b : Str) : decide ((Sum.inl a : G3) = Sum.inr b) = false := decide_eq_false (fun q=>nomatch q)
theorem AW0 (a : Str) (b : Int) : decide ((Sum.inr a : G3) = Sum.inl b) = false := decide_eq_false (fun q=>nomatch q)
def K3 (prog : Program) (w : World) : PySem.KeyKind prog w G3 where
 is := eY
 hash := BF5 w
 inj := fun v a b ha hb=>by
  rcases O3 ha with ⟨i,t,rfl,rfl⟩ | ⟨x,t,rfl,rfl⟩
  ·rcases O3 hb with ⟨j,u,rfl,e⟩ | ⟨y,u,rfl,e⟩
   ·injection e with e1 _; rw [e1]
   ·exact nomatch e
  ·rcases O3 hb with ⟨j,u,rfl,e⟩ | ⟨y,u,rfl,e⟩
   ·exact nomatch e
   ·injection e with e1 _; rw [e1]
 byValue := fun k v h=>by
  rcases O3 h with ⟨i,t,rfl,rfl⟩ | ⟨x,t,rfl,rfl⟩ <;> rfl
 pyHash := fun hv h=>by
  rcases O3 hv with ⟨i,t,rfl,rfl⟩ | ⟨x,t,rfl,rfl⟩
  ·exact wpAny_pyHash_int h
  ·exact wpAny_pyHash_str h
 eqBool := fun hu hv h=>by
  rcases O3 hu with ⟨i,t,rfl,rfl⟩ | ⟨x,t,rfl,rfl⟩
  ·rcases O3 hv with ⟨j,u,rfl,rfl⟩ | ⟨y,u,rfl,rfl⟩
   ·rw [AW2] at h; exact wpAny_eqBool_int h
   ·rw [AW1] at h; exact SeqAt.EqAt.int_str i t y u _ _ _ _ h
  ·rcases O3 hv with ⟨j,u,rfl,rfl⟩ | ⟨y,u,rfl,rfl⟩
   ·rw [AW0] at h; exact SeqAt.EqAt.str_int x t j u _ _ _ _ h
   ·rw [AV9] at h; exact wpAny_eqBool_str h
 «strs» := fun k x t v h=>by
  rcases O3 h with ⟨i,u,rfl,e⟩ | ⟨y,u,rfl,e⟩
  ·exact nomatch e
  ·injection e with e1 _
   subst e1
   cases v <;> rfl
theorem rS (prog : Program) (w : World) (i : Int) (t : Tok) : (K3 prog w).is (.inl i) (.int i t) = true := yU i t
theorem rR (prog : Program) (w : World) (x : Str) (t : Tok) : (K3 prog w).is (.inr x) (.str x t) = true := yT x t
end L2
namespace L2
open PySem PySem.Spec PyProof.Rows
inductive V where
 | non | bl (b : Bool) | int (i : Int) | str (x : Str) | byt (b : Array UInt8) | flt (b : UInt64) | ref (a : Addr) | ty (n : String)
 deriving DecidableEq
def RelV : V → Value → Prop
 | .non,u=>u = Value.none
 | .bl b,u=>u = Value.bool b
 | .int i,u=>∃ t,u = Value.int i t
 | .str x,u=>∃ t,u = Value.str x t
 | .byt b,u=>∃ t,u = Value.bytes b t
 | .flt b,u=>∃ t,u = Value.float b t
 | .ref a,u=>u = Value.ref a
 | .ty n,u=>u = Value.type n
abbrev Vals : List V → List Value → Prop := Paired RelV
theorem Vals.length {xs : List V} {us : List Value} (r : Vals xs us) : xs.length = us.length := Paired.length r
theorem Vals.get : ∀ {xs : List V} {us : List Value} {i : Nat} {x : V},Vals xs us → xs[i]? = some x → ∃ u,us[i]? = some u ∧ RelV x u
 | _,_,_,_,.nil,e=>by simp at e
 | _,_,0,_,.cons r _,e=>by simp at e; subst e; exact ⟨_,rfl,r⟩
 | _,_,i + 1,x,.cons _ t,e=>by
  obtain ⟨u,h1,h2⟩ := Vals.get (i := i) (x := x) t (by simpa using e)
  exact ⟨u,by simpa using h1,h2⟩
theorem Vals.set {x : V} {u : Value} (r : RelV x u) : ∀ {xs : List V} {us : List Value} (i : Nat),Vals xs us → Vals (xs.set i x) (us.set i u)
 | _,_,_,.nil=>.nil
 | _,_,0,.cons _ t=>.cons r t
 | _,_,i + 1,.cons q t=>.cons q (Vals.set r i t)
theorem Vals.append : ∀ {xs ys : List V} {us ws : List Value},Vals xs us → Vals ys ws → Vals (xs ++ ys) (us ++ ws)
 | _,_,_,_,.nil,s=>s
 | _,_,_,_,.cons r t,s=>.cons r (Vals.append t s)
theorem Vals.take : ∀ {xs : List V} {us : List Value} (n : Nat),Vals xs us → Vals (xs.take n) (us.take n)
 | _,_,0,_=>.nil
 | _,_,_ + 1,.nil=>.nil
 | _,_,n + 1,.cons r t=>.cons r (Vals.take n t)
theorem Vals.drop : ∀ {xs : List V} {us : List Value} (n : Nat),Vals xs us → Vals (xs.drop n) (us.drop n)
 | _,_,0,r=>r
 | _,_,_ + 1,.nil=>.nil
 | _,_,n + 1,.cons _ t=>Vals.drop n t
def RelO : Option V → Option Value → Prop
 | some v,some u=>RelV v u
 | none,none=>True
 | _,_=>False
def KV {κ : Type} : List (κ × V) → List (κ × Value) → Prop := Paired fun (p : κ × V) (q : κ × Value)=>p.1 = q.1 ∧ RelV p.2 q.2
def kV : G3 → V
 | .inl i=>.int i
 | .inr x=>.str x
inductive HO where
 | lst (xs : List V)
 | tup (xs : List V)
 | dK (kvs : List (G3 × V)) | dT (kvs : List (List G3 × V))
 | set (S : Int → Bool) (n : Nat)
 | ins (C dx : Addr) (fs : List (Str × V))
 | own (x : Addr)
 | xd (fs : List (Str × V))
 | met (f x : Addr)
 | rng (lo hi : Int)
 | frz (o : Obj) (u : HO)
 | tbl (ps : Array Value)
 | ext (φ : Heap → Prop)
abbrev Hp := Addr → Option HO
def upd (H : Hp) (a : Addr) (o : HO) : Hp := fun b=>if b = a then some o else H b
theorem A5 {H : Hp} {a : Addr} {o : HO} : upd H a o a = some o := by unfold upd; rw [if_pos rfl]
theorem B7 {H : Hp} {a b : Addr} {o : HO} (h : b ≠ a) : upd H a o b = H b := by unfold upd; rw [if_neg h]
theorem gX {H : Hp} {a : Addr} {o u : HO} : upd (upd H a o) a u = upd H a u := by
 funext b; unfold upd; split <;> rfl
theorem vO {H : Hp} {a b : Addr} {o u : HO} (h : H a = some o) (h' : H b = some u) (d : o ≠ u) : a ≠ b := by
 intro e; subst e; rw [h] at h'; exact d (Option.some.inj h')
theorem E6 {H : Hp} {a b : Addr} {o : HO} (h : H a = some o) (h' : H b = none) : a ≠ b := by
 intro e; subst e; rw [h] at h'; cases h'
section
variable (P : Program) (w : World)
def ObjOk (H : Hp) (h : Heap) (a : Addr) : HO → Prop
 | .lst xs=>xs.length ≤ sizeLine ∧ ∃ (its : List Value) (n : Nat),Vals xs its ∧ h.get? a = some { cls := .type "list",data := .seq its.toArray n }
 | .tup xs=>xs.length ≤ sizeLine ∧ ∃ its : List Value,Vals xs its ∧ IsTup h a its.toArray
 | .dK kvs=>kvs.length ≤ sizeLine ∧ (a == sysModules) = false ∧ ∃ vs,KV kvs vs ∧ h.DictOf (K3 P w) a vs
 | .dT kvs=>kvs.length ≤ sizeLine ∧ (a == sysModules) = false ∧ ∃ xs : List (List G3 × Addr × Value),
   Paired (fun (p : List G3 × V) (q : List G3 × Addr × Value)=>p.1 = q.1 ∧ H q.2.1 = some (.tup (p.1.map kV)) ∧ RelV p.2 q.2.2) kvs xs ∧
   ∃ o es ep,h.get? a = some o ∧ o.ExactDict ∧ o.data = .dict es ep ∧ es.toList = xs.map (entryOfKey (tupleKind (K3 P w))) ∧ (xs.map (·.1)).Nodup
 | .set S n=>h.SetOf (intKind P w) a S n
 | .ins C dx fs=>H dx = some (.own a) ∧ fs.length ≤ 1000 ∧ dx ≠ a ∧ h.get? a = some (PySem.W.instObj C dx) ∧
   ∃ mA,h.Ns1 dx mA ∧ (∀ f,RelO (fs.lookup f) (mA f)) ∧ PySem.Within mA (fs.map (·.1))
 | .own _=>∃ o,h.get? a = some o
 | .xd fs=>∃ mA,h.Ns1 a mA ∧ ∀ f,RelO (fs.lookup f) (mA f)
 | .rng lo hi=>∃ t u v,h.get? a = some { cls := .type "range",data := .fields #[.int lo t,.int hi u,.int 1 v] }
 | .frz o u=>h.get? a = some o ∧ ObjOk H h a u
 | .tbl ps=>h.get? a = some { cls := .none,data := .fields ps }
 | .met f x=>h.get? a = some (PySem.W.methodObj (.ref f) (.ref x))
 | .ext φ=>φ h ∧ (∃ o,h.get? a = some o) ∧ ∀ h1 h2 : Heap,φ h1 → (∀ o,h1.get? a = some o → h2.get? a = some o) → φ h2
def HOk (H : Hp) (h : Heap) : Prop := ∀ a o,H a = some o → ObjOk P w H h a o
end
section
variable {P : Program} {w : World} {H H' : Hp} {h h' : Heap} {a : Addr} {o : HO}
theorem ObjOk.lt (x : ObjOk P w H h a o) : a < h.objs.size := by
 cases o with
 | lst xs=>obtain ⟨_,_,_,_,e⟩ := x; exact Heap.lt_size e
 | tup xs=>obtain ⟨_,_,_,p⟩ := x; exact p.lt
 | dK kvs=>obtain ⟨_,_,_,_,o,_,_,e,_⟩ := x; exact Heap.lt_size e
 | dT kvs=>obtain ⟨_,_,_,_,o,_,_,e,_⟩ := x; exact Heap.lt_size e
 | set S n=>obtain ⟨o,_,_,_,e,_⟩ := x; exact Heap.lt_size e
 | ins C dx fs=>obtain ⟨_,_,_,e,_⟩ := x; exact Heap.lt_size e
 | own y=>obtain ⟨_,e⟩ := x; exact Heap.lt_size e
 | xd fs=>obtain ⟨_,⟨_,_,_,e,_⟩,_⟩ := x; exact Heap.lt_size e
 | rng lo hi=>obtain ⟨_,_,_,e⟩ := x; exact Heap.lt_size e
 | frz ob u=>obtain ⟨e,_⟩ := x; exact Heap.lt_size e
 | tbl ps=>exact Heap.lt_size (show h.get? a = some _ from x)
 | met f y=>exact Heap.lt_size (show h.get? a = some _ from x)
 | ext φ=>obtain ⟨_,⟨_,e⟩,_⟩ := x; exact Heap.lt_size e
theorem Paired.mapP {α β : Type} {F G : α → β → Prop} : ∀ {l₁ : List α} {l₂ : List β},Paired F l₁ l₂ → (∀ a b,F a b → G a b) → Paired G l₁ l₂
 | _,_,.nil,_=>.nil
 | _,_,.cons r t,f=>.cons (f _ _ r) (Paired.mapP t f)
theorem ObjOk.stay (x : ObjOk P w H h a o) (k : ∀ b u,(b = a ∨ H b = some (.own a)) → h.get? b = some u → h'.get? b = some u)
  (ho : ∀ b,H b = some (.own a) → H' b = some (.own a)) (ht : ∀ b xs,H b = some (.tup xs) → H' b = some (.tup xs)) : ObjOk P w H' h' a o := by
 induction o with
 | lst xs=>obtain ⟨z,its,n,r,e⟩ := x; exact ⟨z,its,n,r,k _ _ (.inl rfl) e⟩
 | tup xs=>obtain ⟨z,its,r,ob,e,c⟩ := x; exact ⟨z,its,r,ob,k _ _ (.inl rfl) e,c⟩
 | dK kvs=>obtain ⟨z,y,vs,r,ob,es,ep,e,c⟩ := x; exact ⟨z,y,vs,r,ob,es,ep,k _ _ (.inl rfl) e,c⟩
 | dT kvs =>
  obtain ⟨z,y,xs,r,ob,es,ep,e,c⟩ := x
  exact ⟨z,y,xs,Paired.mapP r fun p q z=>⟨z.1,ht _ _ z.2.1,z.2.2⟩,ob,es,ep,k _ _ (.inl rfl) e,c⟩
 | set S n=>obtain ⟨ob,es,ep,t,e,c⟩ := x; exact ⟨ob,es,ep,t,k _ _ (.inl rfl) e,c⟩
 | ins C dx fs =>
  obtain ⟨d,z,ne,e,mA,⟨od,es,ep,e2,c⟩,r⟩ := x
  exact ⟨ho _ d,z,ne,k _ _ (.inl rfl) e,mA,⟨od,es,ep,k _ _ (.inr d) e2,c⟩,r⟩
 | own y=>obtain ⟨ob,e⟩ := x; exact ⟨ob,k _ _ (.inl rfl) e⟩
 | xd fs=>obtain ⟨mA,⟨od,es,ep,e,c⟩,r⟩ := x; exact ⟨mA,⟨od,es,ep,k _ _ (.inl rfl) e,c⟩,r⟩
 | rng lo hi=>obtain ⟨t,u,v,e⟩ := x; exact ⟨t,u,v,k _ _ (.inl rfl) e⟩
 | frz ob u ih=>obtain ⟨e,q⟩ := x; exact ⟨k _ _ (.inl rfl) e,ih q⟩
 | tbl ps =>
  have e : h.get? a = some { cls := .none,data := .fields ps } := x
  show h'.get? a = some { cls := .none,data := .fields ps }
  exact k a _ (.inl rfl) e
 | met f y =>
  have e : h.get? a = some (PySem.W.methodObj (.ref f) (.ref y)) := x
  show h'.get? a = some (PySem.W.methodObj (.ref f) (.ref y))
  exact k a _ (.inl rfl) e
 | ext φ=>obtain ⟨p,⟨o,e⟩,st⟩ := x; exact ⟨st _ _ p fun o q=>k _ _ (.inl rfl) q,⟨o,k _ _ (.inl rfl) e⟩,st⟩
theorem HOk.lt (x : HOk P w H h) (e : H a = some o) : a < h.objs.size := (x a o e).lt
theorem HOk.fresh (x : HOk P w H h) (e : h.objs.size ≤ a) : H a = none := by
 cases q : H a with
 | none=>rfl
 | some u=>exact absurd (Nat.lt_of_lt_of_le (x.lt q) e) (Nat.lt_irrefl _)
theorem HOk.kept (x : HOk P w H h) (k : ∀ b u,h.get? b = some u → h'.get? b = some u) : HOk P w H h' := fun a o e =>
 (x a o e).stay (fun b u _ q=>k b u q) (fun _ q=>q) fun _ _ q=>q
theorem HOk.laid (x : HOk P w H h) (k : ∀ b u,h.get? b = some u → h'.get? b = some u) (hp : h.objs.size ≤ a) (new : ObjOk P w (upd H a o) h' a o) : HOk P w (upd H a o) h' := fun b u e=>by
 have hn := x.fresh hp
 by_cases hb : b = a
 ·subst hb; rw [A5] at e; cases e; exact new
 ·rw [B7 hb] at e
  exact (x b u e).stay (fun c v _ q=>k c v q) (fun c q=>by rw [B7 (E6 q hn)]; exact q) fun c xs q=>by rw [B7 (E6 q hn)]; exact q
end
def Rd (H : Hp) (a : Addr) (u : HO) : Prop := H a = some u ∨ ∃ o,H a = some (.frz o u)
theorem Rd.ok {P : Program} {w : World} {H : Hp} {h : Heap} {a : Addr} {u : HO} (r : Rd H a u) (x : HOk P w H h) : ObjOk P w H h a u := by
 rcases r with r | ⟨o,r⟩
 ·exact x a u r
 ·obtain ⟨_,q⟩ := x a _ r
  exact q
def Mut : Option HO → Prop
 | some (.lst _)=>True
 | some (.dK _)=>True
 | some (.dT _)=>True
 | some (.set _ _)=>True
 | some (.ins _ _ _)=>True
 | some (.ext _)=>True
 | _=>False
section
variable {P : Program} {w : World} {H : Hp} {h h' : Heap} {x e : Addr} {o' : HO}
theorem HOk.write (ok : HOk P w H h) (mu : Mut (H x)) (he : e = x ∨ H e = some (.own x)) (k : ∀ b u,b ≠ e → h.get? b = some u → h'.get? b = some u) (heo : ∃ u,h'.get? e = some u)
  (new : ObjOk P w (upd H x o') h' x o') : HOk P w (upd H x o') h' := fun b u q=>by
 have nown : ∀ c y,H c = some (.own y) → c ≠ x := fun c y r z=>by subst z; rw [r] at mu; exact mu
 have ntup : ∀ c xs,H c = some (.tup xs) → c ≠ x := fun c xs r z=>by subst z; rw [r] at mu; exact mu
 by_cases hb : b = x
 ·subst hb; rw [A5] at q; cases q; exact new
 ·rw [B7 hb] at q
  by_cases hbe : b = e
  ·have q' : H b = some (.own x) := by
    rcases he with z | z
    ·exact absurd (hbe.trans z) hb
    ·rw [hbe]; exact z
   rw [q] at q'; cases q'
   obtain ⟨v,hv⟩ := heo
   exact ⟨v,by rw [hbe]; exact hv⟩
  ·refine (ok b u q).stay (fun c v hc r=>k c v ?_ r) (fun c r=>by rw [B7 (nown c b r)]; exact r) fun c xs r=>by rw [B7 (ntup c xs r)]; exact r
   rcases hc with rfl | hc
   ·exact hbe
   ·rintro rfl
    rcases he with z | z
    ·exact nown c b hc z
    ·rw [hc] at z; cases z; exact hb rfl
end
structure Un (fs ex : List Addr) (H H' : Hp) (h h' : Heap) : Prop where
 keep : ∀ b o,h.get? b = some o → H b = none → b ∉ fs → b ∉ ex → h'.get? b = some o
 slot : ∀ b o,h.get? b = some o → H b = none → b ∈ fs → b ∉ ex → ∃ sl,h'.get? b = some { o with slots := sl }
 free : ∀ b o,h.get? b = some o → H b = none → b ∉ ex → H' b = none
 there : ∀ b o,h.get? b = some o → b ∉ ex → ∃ o',h'.get? b = some o'
 tups : ∀ b xs,H b = some (.tup xs) → H' b = some (.tup xs)
 frzs : ∀ b o u,H b = some (.frz o u) → H' b = some (.frz o u)
 tbls : ∀ b ps,H b = some (.tbl ps) → ∃ more,H' b = some (.tbl (ps ++ more))
section
variable {fs fs' ex ex' : List Addr} {H H1 H2 : Hp} {h h1 h2 h' : Heap} {a x e : Addr} {o : HO}
theorem Un.any (u : Un fs ex H H1 h h1) {b : Addr} {ob : Obj} (q : h.get? b = some ob) (n : H b = none) (hx : b ∉ ex) : ∃ sl,h1.get? b = some { ob with slots := sl } := by
 by_cases hb : b ∈ fs
 ·exact u.slot b ob q n hb hx
 ·exact ⟨ob.slots,u.keep b ob q n hb hx⟩
theorem Un.kept (k : ∀ b u,h.get? b = some u → h'.get? b = some u) : Un fs ex H H h h' :=
 ⟨fun b ob q _ _ _=>k b ob q,fun b ob q _ _ _=>⟨ob.slots,k b ob q⟩,fun _ _ _ n _=>n,fun b ob q _=>⟨ob,k b ob q⟩,fun _ _ q=>q,fun _ _ _ q=>q,fun _ ps q=>⟨#[],by rw [q]; simp⟩⟩
theorem Un.refl : Un fs ex H H h h := Un.kept fun _ _ q=>q
theorem Un.laid (k : ∀ b u,h.get? b = some u → h'.get? b = some u) (hp : h.objs.size ≤ a) (hn : H a = none) : Un fs ex H (upd H a o) h h' where
 keep := fun b u q _ _ _=>k b u q
 slot := fun b u q _ _ _=>⟨u.slots,k b u q⟩
 free := fun b u q n _=>by rw [B7 (Nat.ne_of_lt (Nat.lt_of_lt_of_le (Heap.lt_size q) hp))]; exact n
 there := fun b u q _=>⟨u,k b u q⟩
 tups := fun b xs q=>by rw [B7 (E6 q hn)]; exact q
 frzs := fun b u xs q=>by rw [B7 (E6 q hn)]; exact q
 tbls := fun b ps q=>⟨#[],by rw [B7 (E6 q hn),q]; simp⟩
theorem Un.write (mu : Mut (H x)) (he : e = x ∨ H e = some (.own x)) (k : ∀ b u,b ≠ e → h.get? b = some u → h'.get? b = some u) (heo : ∃ u,h'.get? e = some u) : Un fs ex H (upd H x o) h h' := by
 have hx : ∀ b,H b = none → b ≠ x := fun b n z=>by subst z; rw [n] at mu; exact mu
 have hb : ∀ b,H b = none → b ≠ e := fun b n z=>by
  subst z
  rcases he with r | r
  ·exact hx b n r
  ·rw [n] at r; cases r
 have hm : ∀ b u,H b = some u → ¬ Mut (some u) → b ≠ x := fun b u q nm z=>by subst z; rw [q] at mu; exact nm mu
 refine ⟨fun b u q n _ _=>k b u (hb b n) q,fun b u q n _ _=>⟨u.slots,k b u (hb b n) q⟩,fun b u q n _=>by rw [B7 (hx b n)]; exact n,fun b u q _=>?_,
  fun b xs q=>by rw [B7 (hm b _ q fun z=>z)]; exact q,fun b u xs q=>by rw [B7 (hm b _ q fun z=>z)]; exact q,fun b ps q=>⟨#[],by rw [B7 (hm b _ q fun z=>z),q]; simp⟩⟩
 by_cases hbe : b = e
 ·subst hbe; exact heo
 ·exact ⟨u,k b u hbe q⟩
end
def trk (h : Heap) (H : Hp) : List Addr := (List.range h.objs.size).filter fun a=>(H a).isSome
def cS (h : Heap) (H : Hp) : Heap := PySem.W.hideAll h (trk h H)
theorem zF (h : Heap) (H : Hp) : (cS h H).objs.size = h.objs.size := PySem.W.hideAll_size _ _
theorem AF2 {h : Heap} {H : Hp} {b : Addr} {o : Obj} (e : h.get? b = some o) (n : H b = none) : (cS h H).get? b = some o :=
 PySem.W.hideAll_get _ e fun hm=>by
  have q : (H b).isSome = true := (List.mem_filter.mp hm).2
  rw [n] at q; simp at q
theorem AO3 {h : Heap} {H : Hp} {b : Addr} {o : Obj} (e : (cS h H).get? b = some o) : h.get? b = some o ∧ H b = none := by
 have e' : h.get? b = some o := PySem.W.of_hideAll (trk h H) e
 refine ⟨e',?_⟩
 cases q : H b with
 | none=>rfl
 | some x =>
  have hm : b ∈ trk h H := List.mem_filter.mpr ⟨List.mem_range.mpr (Heap.lt_size e'),by simp [q]⟩
  have z : (cS h H).get? b = none := PySem.W.hideAll_none (trk h H) hm
  rw [z] at e; cases e
end L2
namespace L2
open PySem PySem.Spec PyProof.Rows
structure Mod (K : PySem.W.Frag) (mg : Str → Option Value) (base : Heap) : Prop where
 kin : K.In base
 glob : base.Ns mainGlobals mg
 blt : ∃ mb,base.Ns builtinsNs mb ∧ ∀ x : Str,x ≠ "__name__" → mb x = bootBuiltins x
 nolimit : base.NoLimit
structure Cx where
 prog : Program
 w : World
 K : PySem.W.Frag
 mg : Str → Option Value
 base : Heap
 A : Around
 N : List Str
 s₀ : Shared
 H₀ : Hp
 env : Env
 outer : List Env
 stack : List Env
 ex : List Addr
 fn : Str → Bool
 calm : Bool
 pn : List (Addr × Obj)
 xe : Value → Shared → Prop
def fH (l : List Env) : List Addr := l.filterMap (·.frame)
abbrev Cx.fs (X : Cx) : List Addr := fH X.outer
def Vis (sc : Scope) (x : Str) : Prop := sc.names.lookup x = some .local ∨ sc.names.lookup x = some .cell ∨ sc.names.lookup x = some .free
def Loc (sc : Scope) (x : Str) : Prop := sc.names.lookup x = some .local ∨ sc.names.lookup x = some .cell
def BG5 (env : Env) (h : Heap) (m : Str → Option Value) (x : Str) (u : Value) : Prop :=
 (env.kindOf x = some .local ∧ m x = some u) ∨ ((env.kindOf x = some .cell ∨ env.kindOf x = some .free) ∧ ∃ c,env.cells.lookup x = some c ∧ h.IsCell c (some u))
structure Cx.Ok (X : Cx) : Prop where
 mod : Mod X.K X.mg X.base
 kind : X.env.scope.kind = .function
 glob : X.env.globals = mainGlobals
 blt : X.env.builtins = builtinsNs
 above : X.s₀.heap.objs.size ≤ X.env.locals
 inj : ∀ x y c,X.env.cells.lookup x = some c → X.env.cells.lookup y = some c → x = y
 has : ∀ x,(X.env.kindOf x = some .cell ∨ X.env.kindOf x = some .free) → ∃ c,X.env.cells.lookup x = some c
 cab : ∀ x c,X.fn x = true → X.env.cells.lookup x = some c → X.s₀.heap.objs.size ≤ c
 hd : X.calm = true → X.A.handled = none
 frames : X.A.frames = some X.stack
 stk : X.stack = X.outer ∨ (X.stack = X.env :: X.outer ∧ X.env.frame = some X.env.locals)
 exf : ∀ b ∈ X.ex,b ≠ X.env.locals ∧ ∀ x c,X.env.cells.lookup x = some c → c ≠ b
 bs : ∀ b o,X.base.get? b = some o → X.s₀.heap.get? b = some o ∧ X.H₀ b = none
 bsz : X.base.objs.size ≤ X.s₀.heap.objs.size
 noex : ∀ b o,X.base.get? b = some o → b ∉ X.ex
 exfs : ∀ b ∈ X.ex,b ∉ X.fs
 funs : X.s₀.heap.FunFrames X.base X.outer
 frf : ∀ b ∈ X.fs,X.H₀ b = none
structure Inv (X : Cx) (pins : List (Addr × Obj)) (σ : List (Option V)) (H : Hp) (s : Shared) : Prop where
 ok : X.Ok
 os : s.os = X.s₀.os
 bare : AllBare s.gens
 base : Un X.fs X.ex X.H₀ H X.s₀.heap s.heap
 loc : ∃ m,s.heap.Ns X.env.locals m ∧ ∀ (i : Nat) (x : Str) (v : V),X.N[i]? = some x → σ[i]? = some (some v) → Vis X.env.scope x → ∃ u,RelV v u ∧ BG5 X.env s.heap m x u
 cell : ∀ x c,X.env.cells.lookup x = some c → ∃ v,s.heap.IsCell c v
 free : H X.env.locals = none
 freeC : ∀ x c,X.env.cells.lookup x = some c → H c = none
 pin : ∀ p ∈ X.pn ++ pins,s.heap.get? p.1 = some p.2 ∧ H p.1 = none ∧ p.1 ≠ X.env.locals ∧ p.1 ∉ X.fs ∧ ∀ v,p.2.data ≠ .cell v
 hok : HOk X.prog X.w H s.heap
 len : σ.length = X.N.length
section
variable {X : Cx} {pins : List (Addr × Obj)} {σ : List (Option V)} {H H' : Hp} {s : Shared} {h' : Heap}
theorem Cx.Ok.nofr (ok : X.Ok) {b : Addr} {o : Obj} (e : X.base.get? b = some o) : b ∉ X.fs := fun hb=>by
 have := (ok.funs.mem hb).1
 rw [e] at this; cases this
theorem Inv.bs (I : Inv X pins σ H s) : ∀ b o,X.base.get? b = some o → s.heap.get? b = some o ∧ H b = none := fun b o e =>
 ⟨I.base.keep b o (I.ok.bs b o e).1 (I.ok.bs b o e).2 (I.ok.nofr e) (I.ok.noex b o e),I.base.free b o (I.ok.bs b o e).1 (I.ok.bs b o e).2 (I.ok.noex b o e)⟩
theorem Inv.bk (I : Inv X pins σ H s) : ∀ b o,X.base.get? b = some o → s.heap.get? b = some o := fun b o e=>(I.bs b o e).1
theorem Inv.mod (I : Inv X pins σ H s) : Mod X.K X.mg X.base := I.ok.mod
theorem Inv.kIn (I : Inv X pins σ H s) : X.K.In s.heap := I.ok.mod.kin.keeps I.bk
theorem Inv.nolimit (I : Inv X pins σ H s) : s.heap.NoLimit := I.ok.mod.nolimit.keeps I.bk
theorem Inv.lt (I : Inv X pins σ H s) : X.env.locals < s.heap.objs.size := let ⟨_,hn,_⟩ := I.loc; hn.lt
theorem Inv.sz (I : Inv X pins σ H s) : X.s₀.heap.objs.size ≤ s.heap.objs.size := Nat.le_trans I.ok.above (Nat.le_of_lt I.lt)
theorem Inv.nofs (I : Inv X pins σ H s) {a : Addr} (h : s.heap.objs.size ≤ a) : a ∉ X.fs := fun hb=>by
 obtain ⟨_,o,ho,_⟩ := I.ok.funs.mem hb
 exact absurd (Nat.lt_of_lt_of_le (Heap.lt_size ho) (Nat.le_trans I.sz h)) (Nat.lt_irrefl _)
theorem Inv.cne (I : Inv X pins σ H s) : ∀ x c,X.env.cells.lookup x = some c → c ≠ X.env.locals := fun x c e z=>by
 obtain ⟨v,o,ho,hd⟩ := I.cell x c e
 obtain ⟨m,⟨o',es,ep,ho',hd',_⟩,_⟩ := I.loc
 rw [z,ho'] at ho; cases ho; rw [hd'] at hd; cases hd
theorem Inv.funs (I : Inv X pins σ H s) : s.heap.FunFrames X.base X.outer := by
 have all : ∀ (l : List Env),(∀ b ∈ fH l,b ∈ X.fs) → X.s₀.heap.FunFrames X.base l → s.heap.FunFrames X.base l := by
  intro l
  induction l with
  | nil=>intro _ _; trivial
  | cons env r ih =>
   intro hs hl
   obtain ⟨hk,⟨L,o,hf,hn,ho,hd⟩,hr⟩ := hl
   have hL : L ∈ X.fs := hs L (by unfold fH; rw [List.filterMap_cons,hf]; exact List.mem_cons_self)
   obtain ⟨sl,e⟩ := I.base.slot L o ho (I.ok.frf L hL) hL fun z=>I.ok.exfs L z hL
   exact ⟨hk,⟨L,_,hf,hn,e,hd⟩,ih (fun b hb=>hs b (by unfold fH; rw [List.filterMap_cons,hf]; exact List.mem_cons_of_mem _ hb)) hr⟩
 exact all X.outer (fun _ hb=>hb) I.ok.funs
theorem Inv.stack (I : Inv X pins σ H s) : s.heap.FunFrames X.base X.stack := by
 rcases I.ok.stk with e | ⟨e,hf⟩
 ·rw [e]; exact I.funs
 ·rw [e]
  obtain ⟨m,hn,_⟩ := I.loc
  refine .cons (by rw [I.ok.kind]; decide) hf hn ?_ I.funs
  exact Heap.get?_none_of_le (Nat.le_trans I.ok.bsz I.ok.above)
theorem Inv.stkSub (I : Inv X pins σ H s) : ∀ b ∈ fH X.stack,b ∈ X.env.locals :: X.fs := fun b hb=>by
 rcases I.ok.stk with e | ⟨e,hf⟩
 ·rw [e] at hb; exact List.mem_cons_of_mem _ hb
 ·rw [e] at hb
  unfold fH at hb
  rw [List.filterMap_cons,hf] at hb
  exact hb
theorem Inv.stkFree (I : Inv X pins σ H s) : ∀ b ∈ fH X.stack,H b = none := fun b hb=>by
 rcases List.mem_cons.mp (I.stkSub b hb) with e | hb
 ·rw [e]; exact I.free
 ·obtain ⟨_,o,ho,_⟩ := I.ok.funs.mem hb
  exact I.base.free b o ho (I.ok.frf b hb) fun z=>I.ok.exfs b z hb
theorem Inv.step {g' : Array GenState} {t' : Nat} {d' : Drawn} {ch : List Addr} (I : Inv X pins σ H s)
  (hch : ∀ b ∈ ch,(b ∈ X.ex ∨ X.s₀.heap.objs.size ≤ b) ∧ b ≠ X.env.locals ∧ (∀ x c,X.env.cells.lookup x = some c → c ≠ b) ∧ ∀ p ∈ X.pn ++ pins,p.1 ≠ b)
  (keep : ∀ b o,b ≠ X.env.locals → b ∉ X.fs → b ∉ ch → s.heap.get? b = some o → H b = none → h'.get? b = some o)
  (slot : ∀ b o,b ≠ X.env.locals → b ∈ X.fs → b ∉ ch → s.heap.get? b = some o → H b = none → ∃ sl,h'.get? b = some { o with slots := sl }) (free : ∀ b o,b ∉ ch → s.heap.get? b = some o → H b = none → H' b = none)
  (there : ∀ b o,b ∉ ch → s.heap.get? b = some o → ∃ o',h'.get? b = some o')
  (tups : ∀ b xs,H b = some (.tup xs) → H' b = some (.tup xs)) (frzs : ∀ b o u,H b = some (.frz o u) → H' b = some (.frz o u)) (tbls : ∀ b ps,H b = some (.tbl ps) → ∃ more,H' b = some (.tbl (ps ++ more)))
  (ns : ∀ m,s.heap.Ns X.env.locals m → h'.Ns X.env.locals m) (hok : HOk X.prog X.w H' h') (hg : AllBare g') :
  Inv X pins σ H' { s with heap := h',gens := g',drawn := d',toks := t' } := by
 have neL : ∀ b o,X.s₀.heap.get? b = some o → b ≠ X.env.locals := fun b o e=>Nat.ne_of_lt (Nat.lt_of_lt_of_le (Heap.lt_size e) I.ok.above)
 have neC : ∀ b o,X.s₀.heap.get? b = some o → b ∉ X.ex → b ∉ ch := fun b o e hx hb=>by
  rcases (hch b hb).1 with z | z
  ·exact hx z
  ·exact absurd (Nat.lt_of_lt_of_le (Heap.lt_size e) z) (Nat.lt_irrefl _)
 have cellK : ∀ x c,X.env.cells.lookup x = some c → ∀ v,s.heap.IsCell c v → h'.IsCell c v := fun x c e v ⟨o,ho,hd⟩=>by
  have nch : c ∉ ch := fun z=>(hch c z).2.2.1 x c e rfl
  by_cases hc : c ∈ X.fs
  ·obtain ⟨sl,q⟩ := slot c o (I.cne x c e) hc nch ho (I.freeC x c e)
   exact ⟨_,q,hd⟩
  ·exact ⟨o,keep c o (I.cne x c e) hc nch ho (I.freeC x c e),hd⟩
 refine ⟨I.ok,I.os,hg,⟨fun b o e n hb hx=>?_,fun b o e n hb hx=>?_,fun b o e n hx=>?_,fun b o e hx=>?_,fun b xs e=>tups b xs (I.base.tups b xs e),fun b o xs e=>frzs b o xs (I.base.frzs b o xs e),fun b ps e=>?_⟩,?_,fun x c e=>?_,?_,fun x c e=>?_,fun p hp=>?_,hok,I.len⟩
 ·exact keep b o (neL b o e) hb (neC b o e hx) (I.base.keep b o e n hb hx) (I.base.free b o e n hx)
 ·obtain ⟨sl,e1⟩ := I.base.slot b o e n hb hx
  obtain ⟨sl',e2⟩ := slot b _ (neL b o e) hb (neC b o e hx) e1 (I.base.free b o e n hx)
  exact ⟨sl',e2⟩
 ·obtain ⟨o',e1⟩ := I.base.there b o e hx
  exact free b o' (neC b o e hx) e1 (I.base.free b o e n hx)
 ·obtain ⟨o',e1⟩ := I.base.there b o e hx
  exact there b o' (neC b o e hx) e1
 ·obtain ⟨m1,e1⟩ := I.base.tbls b ps e
  obtain ⟨m2,e2⟩ := tbls b _ e1
  exact ⟨m1 ++ m2,by rw [e2,Array.append_assoc]⟩
 ·obtain ⟨m,hn,hl⟩ := I.loc
  refine ⟨m,ns m hn,fun i x v e1 e2 e3=>?_⟩
  obtain ⟨u,r,l⟩ := hl i x v e1 e2 e3
  refine ⟨u,r,?_⟩
  rcases l with l | ⟨k,c,e,z⟩
  ·exact .inl l
  ·exact .inr ⟨k,c,e,cellK x c e _ z⟩
 ·obtain ⟨v,z⟩ := I.cell x c e
  exact ⟨v,cellK x c e v z⟩
 ·obtain ⟨m,⟨o,_,_,ho,_⟩,_⟩ := I.loc
  exact free _ o (fun z=>(hch _ z).2.1 rfl) ho I.free
 ·obtain ⟨v,o,ho,hd⟩ := I.cell x c e
  exact free c o (fun z=>(hch c z).2.2.1 x c e rfl) ho (I.freeC x c e)
 ·obtain ⟨e,n,ne,nf,d⟩ := I.pin p hp
  have nch : p.1 ∉ ch := fun z=>(hch p.1 z).2.2.2 p hp rfl
  exact ⟨keep p.1 p.2 ne nf nch e n,free p.1 p.2 nch e n,ne,nf,d⟩
theorem Inv.un {t' : Nat} (I : Inv X pins σ H s) (u : Un X.fs [] H H' s.heap h') (hok : HOk X.prog X.w H' h') : Inv X pins σ H' { s with heap := h',toks := t' } := by
 obtain ⟨m,⟨o,es,ep,ho,r⟩,_⟩ := id I.loc
 obtain ⟨sl,hL⟩ := u.any ho I.free (by simp)
 exact I.step (g' := s.gens) (d' := s.drawn) (ch := []) (fun _ z=>nomatch z) (fun b o _ hb _ e n=>u.keep b o e n hb (by simp)) (fun b o _ hb _ e n=>u.slot b o e n hb (by simp)) (fun b o _ e n=>u.free b o e n (by simp)) (fun b o _ e=>u.there b o e (by simp)) u.tups u.frzs u.tbls (fun m' hm=>by
  obtain ⟨o',es',ep',ho',r'⟩ := hm
  rw [ho] at ho'; cases ho'
  exact ⟨_,es',ep',hL,r'⟩) hok I.bare
theorem Inv.call {g' : Array GenState} {t' : Nat} {d' : Drawn} {ch : List Addr} (I : Inv X pins σ H s) (u : Un (fH X.stack) ch H H' s.heap h') (hok : HOk X.prog X.w H' h') (hg : AllBare g')
  (hch : ∀ b ∈ ch,(b ∈ X.ex ∨ X.s₀.heap.objs.size ≤ b) ∧ b ≠ X.env.locals ∧ (∀ x c,X.env.cells.lookup x = some c → c ≠ b) ∧ ∀ p ∈ X.pn ++ pins,p.1 ≠ b) :
  Inv X pins σ H' { s with heap := h',gens := g',drawn := d',toks := t' } := by
 obtain ⟨m,⟨o,es,ep,ho,r⟩,_⟩ := id I.loc
 obtain ⟨sl,hL⟩ := u.any ho I.free fun z=>(hch _ z).2.1 rfl
 exact I.step (ch := ch) hch (fun b o hL hb hc e n=>u.keep b o e n (fun z=>(List.mem_cons.mp (I.stkSub b z)).elim hL hb) hc) (fun b o _ _ hc e n=>u.any e n hc) (fun b o hc e n=>u.free b o e n hc) (fun b o hc e=>u.there b o e hc) u.tups u.frzs u.tbls (fun m' hm=>by
  obtain ⟨o',es',ep',ho',r'⟩ := hm
  rw [ho] at ho'; cases ho'
  exact ⟨_,es',ep',hL,r'⟩) hok hg
theorem Inv.turned {t' : Nat} {it : Addr} (I : Inv X pins σ H s) (k : ∀ b o,b ≠ it → s.heap.get? b = some o → h'.get? b = some o) (hn : H it = none) (hL : it ≠ X.env.locals)
  (h1 : it ∈ X.ex ∨ X.s₀.heap.objs.size ≤ it) (h2 : ∀ x c,X.env.cells.lookup x = some c → c ≠ it) (h3 : ∀ p ∈ X.pn ++ pins,p.1 ≠ it) : Inv X pins σ H { s with heap := h',toks := t' } := by
 have nit : ∀ b u,H b = some u → b ≠ it := fun b u e z=>by rw [z,hn] at e; cases e
 refine I.step (g' := s.gens) (d' := s.drawn) (ch := [it]) (fun b hb=>?_) (fun b o _ _ hc e _=>k b o (fun z=>hc (by simp [z])) e) (fun b o _ _ hc e _=>⟨o.slots,k b o (fun z=>hc (by simp [z])) e⟩) (fun _ _ _ _ n=>n)
  (fun b o hc e=>⟨o,k b o (fun z=>hc (by simp [z])) e⟩) (fun _ _ e=>e) (fun _ _ _ e=>e) (fun b ps e=>⟨#[],by rw [e]; simp⟩) (fun m hm=>?_) (fun b u e=>?_) I.bare
 ·have e : b = it := by simpa using hb
  subst e
  exact ⟨h1,hL,h2,h3⟩
 ·obtain ⟨o,es,ep,ho,r⟩ := hm
  exact ⟨o,es,ep,k _ o (Ne.symm hL) ho,r⟩
 ·refine (I.hok b u e).stay (fun c v hc q=>k c v ?_ q) (fun _ q=>q) fun _ _ q=>q
  rcases hc with z | z
  ·rw [z]; exact nit b u e
  ·exact nit c _ z
theorem Inv.tok (I : Inv X pins σ H s) (t : Nat) : Inv X pins σ H { s with toks := t } := I.un (h' := s.heap) (t' := t) Un.refl I.hok
theorem Inv.kept {t' : Nat} (I : Inv X pins σ H s) (k : ∀ b u,s.heap.get? b = some u → h'.get? b = some u) : Inv X pins σ H { s with heap := h',toks := t' } := I.un (Un.kept k) (I.hok.kept k)
theorem Inv.laid {a : Addr} {o : HO} {t' : Nat} (I : Inv X pins σ H s) (k : ∀ b u,s.heap.get? b = some u → h'.get? b = some u) (hp : s.heap.objs.size ≤ a) (new : ObjOk X.prog X.w (upd H a o) h' a o) :
  Inv X pins σ (upd H a o) { s with heap := h',toks := t' } := I.un (Un.laid k hp (I.hok.fresh hp)) (I.hok.laid k hp new)
theorem Inv.write {x e : Addr} {o : HO} {t' : Nat} (I : Inv X pins σ H s) (mu : Mut (H x)) (he : e = x ∨ H e = some (.own x)) (k : ∀ b u,b ≠ e → s.heap.get? b = some u → h'.get? b = some u) (heo : ∃ u,h'.get? e = some u)
  (new : ObjOk X.prog X.w (upd H x o) h' x o) : Inv X pins σ (upd H x o) { s with heap := h',toks := t' } := I.un (Un.write mu he k heo) (I.hok.write mu he k heo new)
theorem Inv.weak {σ' : List (Option V)} (I : Inv X pins σ H s) (hl : σ'.length = σ.length) (w : ∀ (i : Nat) v,σ'[i]? = some (some v) → σ[i]? = some (some v)) : Inv X pins σ' H s :=
 ⟨I.ok,I.os,I.bare,I.base,let ⟨m,hn,hl'⟩ := I.loc; ⟨m,hn,fun i x v e1 e2 e3=>hl' i x v e1 (w i v e2) e3⟩,I.cell,I.free,I.freeC,I.pin,I.hok,hl.trans I.len⟩
theorem Inv.pins_of {pins' : List (Addr × Obj)} (I : Inv X pins σ H s) (h : ∀ p ∈ pins',s.heap.get? p.1 = some p.2 ∧ H p.1 = none ∧ p.1 ≠ X.env.locals ∧ p.1 ∉ X.fs ∧ ∀ v,p.2.data ≠ .cell v) : Inv X pins' σ H s :=
 ⟨I.ok,I.os,I.bare,I.base,I.loc,I.cell,I.free,I.freeC,fun p hp=>(List.mem_append.mp hp).elim (fun z=>I.pin p (List.mem_append_left _ z)) (h p),I.hok,I.len⟩
theorem pZ {N : List Str} (hN : N.Nodup) {i j : Nat} {x : Str} (a : N[i]? = some x) (b : N[j]? = some x) : i = j := by
 obtain ⟨h1,e1⟩ := List.getElem?_eq_some_iff.mp a
 obtain ⟨h2,e2⟩ := List.getElem?_eq_some_iff.mp b
 exact (List.getElem_inj hN).mp (e1.trans e2.symm)
theorem mE {M : Model} {A : Around} {E : Value → Shared → Prop} {i : Nat} {x : Str} {v : V} {u : Value} {Q : Unit → Shared → Prop} (I : Inv X pins σ H s) (hN : X.N.Nodup) (hi : X.N[i]? = some x) (hx : Loc X.env.scope x) (r : RelV v u)
  (h : ∀ s',Inv X pins (σ.set i (some v)) H s' → (∃ a,Heap.SameBut a s.heap s'.heap ∧ (a = X.env.locals ∨ X.env.cells.lookup x = some a)) → Q () s') (hf : X.fn x = true ∨ X.env.scope.names.lookup x = some .local := by first | exact .inl rfl | exact .inr rfl | assumption) : wpAny M A (storeName X.env x u) Q E s := by
 obtain ⟨m,hn,hl⟩ := id I.loc
 have hcls : (X.env.scope.kind == .class || (X.env.scope.kind == .module && X.env.locals != X.env.globals)) = false := by rw [I.ok.kind]; rfl
 have hiσ : i < σ.length := by rw [I.len]; exact (List.getElem?_eq_some_iff.mp hi).1
 have cne := I.cne
 have tracked : ∀ {a : Addr} {h' : Heap},(∃ o,s.heap.get? a = some o ∧ H a = none) → Heap.SameBut a s.heap h' → HOk X.prog X.w H h' := fun {a h'} ha hs b ob e=>by
  obtain ⟨_,_,hfree⟩ := ha
  refine (I.hok b ob e).stay (fun c w' hc q=>(hs.2 c ?_).trans q) (fun _ q=>q) fun _ _ q=>q
  rintro rfl
  rcases hc with rfl | hc
  ·rw [hfree] at e; cases e
  ·rw [hfree] at hc; cases hc
 rcases hx with hk | hk
 ·refine wpAny_storeName_local hk hn (fun h' hn' hs=>?_) hcls
  obtain ⟨oL,_,_,hoL,_⟩ := id hn
  refine h _ ⟨I.ok,I.os,I.bare,⟨fun b o e n hb hx=>?_,fun b o e n hb hx=>?_,I.base.free,fun b o e hx=>?_,I.base.tups,I.base.frzs,I.base.tbls⟩,⟨_,hn',fun j y v' e1 e2 e3=>?_⟩,fun y c e=>?_,I.free,I.freeC,fun p hp=>?_,tracked ⟨oL,hoL,I.free⟩ hs,by simpa using I.len⟩ ⟨_,hs,.inl rfl⟩
  ·exact (hs.2 b (Nat.ne_of_lt (Nat.lt_of_lt_of_le (Heap.lt_size e) I.ok.above))).trans (I.base.keep b o e n hb hx)
  ·obtain ⟨sl,e1⟩ := I.base.slot b o e n hb hx
   exact ⟨sl,(hs.2 b (Nat.ne_of_lt (Nat.lt_of_lt_of_le (Heap.lt_size e) I.ok.above))).trans e1⟩
  ·obtain ⟨o',e1⟩ := I.base.there b o e hx
   exact ⟨o',(hs.2 b (Nat.ne_of_lt (Nat.lt_of_lt_of_le (Heap.lt_size e) I.ok.above))).trans e1⟩
  ·by_cases hj : j = i
   ·subst hj
    rw [hi] at e1; cases e1
    rw [List.getElem?_set_self hiσ] at e2
    cases e2
    exact ⟨u,r,.inl ⟨hk,by simp⟩⟩
   ·rw [List.getElem?_set_ne (Ne.symm hj)] at e2
    obtain ⟨u',r',q⟩ := hl j y v' e1 e2 e3
    refine ⟨u',r',?_⟩
    rcases q with ⟨k,e⟩ | ⟨k,c,e,z⟩
    ·refine .inl ⟨k,?_⟩
     have : y ≠ x := fun e=>hj (pZ hN e1 (e ▸ hi))
     simp [this,e]
    ·exact .inr ⟨k,c,e,z.sameBut hs (cne y c e)⟩
  ·obtain ⟨w',z⟩ := I.cell y c e
   exact ⟨w',z.sameBut hs (cne y c e)⟩
  ·obtain ⟨e,n,ne,nf,d⟩ := I.pin p hp
   exact ⟨(hs.2 p.1 ne).trans e,n,ne,nf,d⟩
 ·have hfn : X.fn x = true := by
   rcases hf with z | z
   ·exact z
   ·rw [z] at hk; cases hk
  obtain ⟨c,hc⟩ := I.ok.has x (.inl hk)
  obtain ⟨w',z⟩ := I.cell x c hc
  refine wpAny_storeName_cell I.ok.kind hk hc z (fun h' hc' hs=>?_)
  obtain ⟨oc,hoc,hocd⟩ := id z
  refine h { s with heap := h' } ⟨I.ok,I.os,I.bare,⟨fun b o e n hb hx=>?_,fun b o e n hb hx=>?_,I.base.free,fun b o e hx=>?_,I.base.tups,I.base.frzs,I.base.tbls⟩,⟨m,hn.sameBut hs (Ne.symm (cne x c hc)),fun j y v' e1 e2 e3=>?_⟩,fun y c' e=>?_,I.free,I.freeC,fun p hp=>?_,tracked ⟨oc,hoc,I.freeC x c hc⟩ hs,by simpa using I.len⟩ ⟨c,hs,.inr hc⟩
  ·exact (hs.2 b (Nat.ne_of_lt (Nat.lt_of_lt_of_le (Heap.lt_size e) (I.ok.cab x c hfn hc)))).trans (I.base.keep b o e n hb hx)
  ·obtain ⟨sl,e1⟩ := I.base.slot b o e n hb hx
   exact ⟨sl,(hs.2 b (Nat.ne_of_lt (Nat.lt_of_lt_of_le (Heap.lt_size e) (I.ok.cab x c hfn hc)))).trans e1⟩
  ·obtain ⟨o',e1⟩ := I.base.there b o e hx
   exact ⟨o',(hs.2 b (Nat.ne_of_lt (Nat.lt_of_lt_of_le (Heap.lt_size e) (I.ok.cab x c hfn hc)))).trans e1⟩
  ·by_cases hj : j = i
   ·subst hj
    rw [hi] at e1; cases e1
    rw [List.getElem?_set_self hiσ] at e2
    cases e2
    exact ⟨u,r,.inr ⟨.inl hk,c,hc,hc'⟩⟩
   ·rw [List.getElem?_set_ne (Ne.symm hj)] at e2
    obtain ⟨u',r',q⟩ := hl j y v' e1 e2 e3
    refine ⟨u',r',?_⟩
    rcases q with q | ⟨k,c',e,z'⟩
    ·exact .inl q
    ·refine .inr ⟨k,c',e,z'.sameBut hs ?_⟩
     rintro rfl
     exact hj (pZ hN e1 (I.ok.inj _ _ _ e hc ▸ hi))
  ·by_cases hcc : c' = c
   ·subst hcc; exact ⟨_,hc'⟩
   ·obtain ⟨w2,z2⟩ := I.cell y c' e
    exact ⟨w2,z2.sameBut hs hcc⟩
  ·obtain ⟨e,n,ne,nf,d⟩ := I.pin p hp
   refine ⟨(hs.2 p.1 ?_).trans e,n,ne,nf,d⟩
   intro q
   rw [q,hoc] at e
   have q' : oc = p.2 := Option.some.inj e
   exact d w' (by rw [← q']; exact hocd)
theorem oW {M : Model} {A : Around} {E : Value → Shared → Prop} {i : Nat} {x : Str} {v : V} {u : Value} {Q : Unit → Shared → Prop} (I : Inv X pins σ H s) (hN : X.N.Nodup) (hi : X.N[i]? = some x) (hx : Loc X.env.scope x) (r : RelV v u)
  (h : ∀ s',Inv X pins (σ.set i (some v)) H s' → Q () s') (hf : X.fn x = true ∨ X.env.scope.names.lookup x = some .local := by first | exact .inl rfl | exact .inr rfl | assumption) : wpAny M A (storeName X.env x u) Q E s :=
 mE I hN hi hx r (fun s' I' _=>h s' I') hf
theorem Inv.call' {s' : Shared} {ch : List Addr} (I : Inv X pins σ H s) (ho : s'.os = s.os) (u : Un (fH X.stack) ch H H' s.heap s'.heap) (hok : HOk X.prog X.w H' s'.heap) (hg : AllBare s'.gens)
  (hch : ∀ b ∈ ch,(b ∈ X.ex ∨ X.s₀.heap.objs.size ≤ b) ∧ b ≠ X.env.locals ∧ (∀ x c,X.env.cells.lookup x = some c → c ≠ b) ∧ ∀ p ∈ X.pn ++ pins,p.1 ≠ b) : Inv X pins σ H' s' := by
 obtain ⟨h',g',d',t',o'⟩ := s'
 have e : o' = s.os := ho
 subst e
 exact I.call (g' := g') (t' := t') (d' := d') u hok hg hch
end
abbrev XK := Value → Option Addr → Hp → Prop
abbrev St := List (Option V)
abbrev VK := V → Hp → Prop
abbrev TE := St → Hp → VK → Prop
abbrev TT := St → Hp → (Bool → Hp → Prop) → Prop
abbrev TA := St → Hp → (List V → Hp → Prop) → Prop
structure fF where
 nx : St → Hp → Prop
 rt : VK
 bk : St → Hp → Prop := fun _ _=>False
 ct : St → Hp → Prop := fun _ _=>False
abbrev TS := fF → St → Hp → Prop
def EP (X : Cx) (pins : List (Addr × Obj)) (σ : St) (Q : VK) (u : Value) (s' : Shared) : Prop := ∃ v H',Inv X pins σ H' s' ∧ RelV v u ∧ Q v H'
def TP (X : Cx) (pins : List (Addr × Obj)) (σ : St) (Q : Bool → Hp → Prop) (b : Bool) (s' : Shared) : Prop := ∃ H',Inv X pins σ H' s' ∧ Q b H'
def AP (X : Cx) (pins : List (Addr × Obj)) (σ : St) (Q : List V → Hp → Prop) (us : List Value) (s' : Shared) : Prop := ∃ vs H',Inv X pins σ H' s' ∧ Vals vs us ∧ Q vs H'
def SP (X : Cx) (pins : List (Addr × Obj)) (D : fF) (f : Flow) (s' : Shared) : Prop :=
 match f with
 | .next=>∃ σ' H',Inv X pins σ' H' s' ∧ D.nx σ' H'
 | .brk=>∃ σ' H',Inv X pins σ' H' s' ∧ D.bk σ' H'
 | .cont=>∃ σ' H',Inv X pins σ' H' s' ∧ D.ct σ' H'
 | .ret u=>∃ v σ' H',Inv X pins σ' H' s' ∧ RelV v u ∧ D.rt v H'
def PE (X : Cx) (e : Expr) (t : TE) : Prop :=
 ∀ (pins : List (Addr × Obj)) (s : Shared) (σ : St) (H : Hp) (Q : VK),Inv X pins σ H s → t σ H Q → wpAny (model X.prog X.w) X.A (eval e X.env) (EP X pins σ Q) X.xe s
def PT (X : Cx) (e : Expr) (t : TT) : Prop :=
 ∀ (pins : List (Addr × Obj)) (s : Shared) (σ : St) (H : Hp) (Q : Bool → Hp → Prop),Inv X pins σ H s → t σ H Q → wpAny (model X.prog X.w) X.A (isTrue e X.env (eval e X.env)) (TP X pins σ Q) X.xe s
def PW (X : Cx) (e : Expr) (t : TT) : Prop :=
 ∀ (whole : Sem Value) (pins : List (Addr × Obj)) (s : Shared) (σ : St) (H : Hp) (Q : Bool → Hp → Prop),Inv X pins σ H s → t σ H Q → wpAny (model X.prog X.w) X.A (isTrue e X.env whole) (TP X pins σ Q) X.xe s
theorem PW.pt {X : Cx} {e : Expr} {t : TT} (h : PW X e t) : PT X e t := h _
def PA (X : Cx) (es : List Expr) (t : TA) : Prop :=
 ∀ (pos : Pos) (pins : List (Addr × Obj)) (s : Shared) (σ : St) (H : Hp) (Q : List V → Hp → Prop),Inv X pins σ H s → t σ H Q → wpAny (model X.prog X.w) X.A (spliced (backTo pos (starEach es X.env))) (AP X pins σ Q) X.xe s
def PS (X : Cx) (st : Stmt) (t : TS) : Prop :=
 ∀ (pins : List (Addr × Obj)) (s : Shared) (σ : St) (H : Hp) (D : fF),Inv X pins σ H s → t D σ H → wpAny (model X.prog X.w) X.A (exec st X.env) (SP X pins D) X.xe s
def PSs (X : Cx) (st : List Stmt) (t : TS) : Prop :=
 ∀ (pins : List (Addr × Obj)) (s : Shared) (σ : St) (H : Hp) (D : fF),Inv X pins σ H s → t D σ H → wpAny (model X.prog X.w) X.A (execs st X.env) (SP X pins D) X.xe s
theorem J1 {α : Type} {t : Sem α} {Q Q' : α → Shared → Prop} {M : Model} {A : Around} {E : Value → Shared → Prop} {s : Shared} (h : wpAny M A t Q E s) (hQ : ∀ a s,Q a s → Q' a s) : wpAny M A t Q' E s := wpAny_mono h hQ fun _ _ x=>x
end L2
namespace L2
open PySem PySem.Spec PyProof.Rows
section
variable {X : Cx}
def O4 (i : Nat) : TE := fun σ H Q=>∃ v,σ[i]? = some (some v) ∧ Q v H
def tC (v : V) : TE := fun _ H Q=>Q v H
theorem AT8 {i : Nat} {x : Str} {pos : Pos} (hN : X.N[i]? = some x) (hv : Vis X.env.scope x) (hd : (x == ("__debug__" : Str)) = false := by decide) (hcd : (x == ("__classdict__" : Str)) = false := by decide) : PE X (.Name x pos) (O4 i) := by
 intro pins s σ H Q I h
 obtain ⟨v,e,h⟩ := h
 obtain ⟨m,hn,hl⟩ := I.loc
 obtain ⟨u,r,l⟩ := hl i x v hN e hv
 have fin : EP X pins σ Q u s := ⟨v,H,I,r,h⟩
 rcases l with ⟨hk,hm⟩ | ⟨hk,c,hc,hcell⟩
 ·exact wpAny_Name (wpAny_loadName_local I.ok.kind hk hn hm fin) hd
 ·rcases hk with hk | hk
  ·exact wpAny_Name (wpAny_loadName_cell I.ok.kind hk hc hcell fin) hd
  ·exact wpAny_Name (wpAny_loadName_free I.ok.kind hk hc hcell fin hcd) hd
theorem A7 {i j pos} : PE X (.Constant (.int i) j pos) (tC (.int i)) := fun _ _ _ H _ I h=>wpAny_Constant_int ⟨.int i,H,I.tok _,⟨_,rfl⟩,h⟩
theorem W7 {b j pos} : PE X (.Constant (.bool b) j pos) (tC (.bl b)) := fun _ _ _ H _ I h=>Constant_bool ⟨.bl b,H,I,rfl,h⟩
theorem fZ {j pos} : PE X (.Constant .none j pos) (tC .non) := fun _ _ _ H _ I h=>Constant_none ⟨.non,H,I,rfl,h⟩
theorem E1 {x j pos} : PE X (.Constant (.str x) j pos) (tC (.str x)) := fun _ _ _ H _ I h=>Calls.Constant_str ⟨.str x,H,I.tok _,⟨_,rfl⟩,h⟩
def Gl (X : Cx) (x : Str) : Prop := X.env.kindOf x = some .globalImplicit
theorem tN {E : Value → Shared → Prop} {pins : List (Addr × Obj)} {s : Shared} {σ : St} {H : Hp} {x : Str} {u : Value} {pos : Pos} {Q : Value → Shared → Prop} (I : Inv X pins σ H s) (hg : Gl X x) (hm : X.mg x = some u) (h : Q u s)
  (hd : (x == ("__debug__" : Str)) = false := by decide) : wpAny (model X.prog X.w) X.A (eval (.Name x pos) X.env) Q E s :=
 Calls.Name_function_global I.ok.kind hg (Calls.loadGlobal_global (by rw [I.ok.glob]; exact I.mod.glob.keeps I.bk) hm h) hd
theorem aD {E : Value → Shared → Prop} {pins : List (Addr × Obj)} {s : Shared} {σ : St} {H : Hp} {x : Str} {u : Value} {pos : Pos} {Q : Value → Shared → Prop} (I : Inv X pins σ H s) (hg : Gl X x) (hm : X.mg x = none) (hv : bootBuiltins x = some u) (h : Q u s)
  (hn : x ≠ "__name__" := by decide) (hd : (x == ("__debug__" : Str)) = false := by decide) : wpAny (model X.prog X.w) X.A (eval (.Name x pos) X.env) Q E s := by
 obtain ⟨mb,h1,h2⟩ := I.mod.blt
 exact Calls.Name_function_global I.ok.kind hg (Calls.loadGlobal_builtin (by rw [I.ok.glob]; exact I.mod.glob.keeps I.bk) hm (by rw [I.ok.blt]; exact h1.keeps I.bk) ((h2 x hn).trans hv) h) hd
theorem M3 {x : Str} {v : V} {u : Value} {pos : Pos} (hg : Gl X x) (hm : X.mg x = some u) (r : RelV v u) (hd : (x == ("__debug__" : Str)) = false := by decide) : PE X (.Name x pos) (tC v) :=
 fun _ _ _ H _ I h=>tN I hg hm ⟨v,H,I,r,h⟩ hd
theorem sX {x : Str} {v : V} {u : Value} {pos : Pos} (hg : Gl X x) (hm : X.mg x = none) (hv : bootBuiltins x = some u) (r : RelV v u) (hn : x ≠ "__name__" := by decide) (hd : (x == ("__debug__" : Str)) = false := by decide) : PE X (.Name x pos) (tC v) :=
 fun _ _ _ H _ I h=>aD I hg hm hv ⟨v,H,I,r,h⟩ hn hd
variable {a b : Expr} {ta tb : TE} {pos : Pos}
def PC (X : Cx) (op : CmpOp) (a b : Expr) (t : TE) : Prop :=
 ∀ (pins : List (Addr × Obj)) (s : Shared) (σ : St) (H : Hp) (Q : VK),Inv X pins σ H s → t σ H Q →
  wpAny (model X.prog X.w) X.A (eval a X.env) (fun v s₁=>wpAny (model X.prog X.w) X.A (eval b X.env) (fun u s₂=>wpAny (model X.prog X.w) X.A (compareOp op v u) (EP X pins σ Q) X.xe s₂) X.xe s₁) X.xe s
theorem qA (b : Expr) {op : CmpOp} (h : op ≠ .In) (h2 : op ≠ .NotIn) : behindInMarks op b = false := by
 have e1 : (op == CmpOp.In) = false := by cases op <;> first | rfl | exact absurd rfl h
 have e2 : (op == CmpOp.NotIn) = false := by cases op <;> first | rfl | exact absurd rfl h2
 cases b <;> simp [behindInMarks,e1,e2]
def BD4 (ta : TE) : TE := fun σ H Q=>ta σ H fun x H1=>Q (.bl (decide (x = .non))) H1
theorem RelV.none_iff {x : V} {v : Value} (r : RelV x v) : (v == Value.none) = decide (x = .non) := by
 cases x with
 | non=>cases r; rfl
 | bl _=>cases r; rfl
 | int _=>obtain ⟨t,rfl⟩ := r; rfl
 | str _=>obtain ⟨t,rfl⟩ := r; rfl
 | byt _=>obtain ⟨t,rfl⟩ := r; rfl
 | flt _=>obtain ⟨t,rfl⟩ := r; rfl
 | ref _=>cases r; rfl
 | ty _=>cases r; rfl
theorem pT {j pos'} (ha : PE X a ta) : PC X .Is a (.Constant .none j pos') (BD4 ta) := by
 intro pins s σ H Q I h
 refine J1 (ha pins s σ H _ I h) fun v s1 ⟨x,H1,I1,r1,q1⟩=>?_
 exact Constant_none (is_none_gen ⟨.bl _,H1,I1,by rw [r1.none_iff]; rfl,q1⟩)
def tB (t : TE) : TT := fun σ H Q=>t σ H fun x H1=>∃ c,x = .bl c ∧ Q c H1
theorem xX {op : CmpOp} {t : TE} (h : PC X op a b t) (h1 : behindInMarks op b = false := by first | exact qA _ (by decide) (by decide) | rfl) : PE X (.Compare a [op] [b] pos) t := fun pins s σ H Q I hw=>wpAny_Compare1 (h pins s σ H Q I hw) h1
theorem pO {op : CmpOp} {t : TE} (h : PC X op a b t) (h1 : behindInMarks op b = false := by first | exact qA _ (by decide) (by decide) | rfl) : PT X (.Compare a [op] [b] pos) (tB t) := by
 intro pins s σ H Q I hw
 refine wpAny_isTrue_Compare1 (J1 (h pins s σ H _ I hw) fun v s1 h1=>J1 h1 fun u s2 h2=>J1 h2 fun c s3 ⟨x,H1,I1,r1,q1⟩=>?_) h1
 obtain ⟨d,rfl,q⟩ := q1
 cases r1
 exact wpAny_truthy_bool ⟨H1,I1,q⟩
theorem Q6 {e : Expr} {t : TE} (h : PE X e t) (he : ∀ whole,isTrue e X.env whole = (do let v ← whole; standAt e.pos; holding [v] (truthy v)) := by intro _; rfl) : PT X e (tB t) := by
 intro pins s σ H Q I hw
 refine isTrue_plain (J1 (h pins s σ H _ I hw) fun v s1 ⟨x,H1,I1,r1,q1⟩=>?_) (he _)
 obtain ⟨d,rfl,q⟩ := q1
 cases r1
 exact wpAny_truthy_bool ⟨H1,I1,q⟩
variable {tA tB' : TT} {rest : List Expr}
def AB3 (t u : TT) : TT := fun σ H Q=>t σ H fun c H1=>if c = true then u σ H1 Q else Q false H1
def tOr (t u : TT) : TT := fun σ H Q=>t σ H fun c H1=>if c = true then Q true H1 else u σ H1 Q
def BD3 (t : TT) : TT := fun σ H Q=>t σ H fun c H1=>Q (!c) H1
theorem Y6 (ha : PT X a tA) : PW X (.BoolOp .And [a] pos) tA := by
 intro wh pins s σ H Q I h
 refine isTrue_and (J1 (ha pins s σ H Q I h) fun c s1 e=>?_)
 cases c with
 | true=>exact isTrue_and_nil e
 | false=>exact e
theorem X6 (ha : PT X a tA) : PW X (.BoolOp .Or [a] pos) tA := by
 intro wh pins s σ H Q I h
 refine isTrue_or (J1 (ha pins s σ H Q I h) fun c s1 e=>?_)
 cases c with
 | false=>exact isTrue_or_nil e
 | true=>exact e
theorem Z7 (ha : PT X a tA) (hb : PW X (.BoolOp .And (b :: rest) pos) tB') : PW X (.BoolOp .And (a :: b :: rest) pos) (AB3 tA tB') := by
 intro wh pins s σ H Q I h
 refine isTrue_and (J1 (ha pins s σ H _ I h) fun c s1 ⟨H1,I1,q1⟩=>?_)
 cases c with
 | true=>exact hb wh pins s1 σ H1 Q I1 q1
 | false=>exact ⟨H1,I1,q1⟩
theorem aN (ha : PT X a tA) (hb : PW X (.BoolOp .Or (b :: rest) pos) tB') : PW X (.BoolOp .Or (a :: b :: rest) pos) (tOr tA tB') := by
 intro wh pins s σ H Q I h
 refine isTrue_or (J1 (ha pins s σ H _ I h) fun c s1 ⟨H1,I1,q1⟩=>?_)
 cases c with
 | true=>exact ⟨H1,I1,q1⟩
 | false=>exact hb wh pins s1 σ H1 Q I1 q1
theorem Z8 (ha : PT X a tA) : PT X (.UnaryOp .Not a pos) (BD3 tA) := by
 intro pins s σ H Q I h
 exact isTrue_not (ha pins s σ H (fun c H1=>Q (!c) H1) I h)
def AZ5 (ta tb : TE) : TE := fun σ H Q=>ta σ H fun x H1=>∃ c,x = .bl c ∧ if c = true then tb σ H1 Q else Q (.bl false) H1
def AR2 (ta tb : TE) : TE := fun σ H Q=>ta σ H fun x H1=>∃ c,x = .bl c ∧ if c = true then Q (.bl true) H1 else tb σ H1 Q
theorem T3 {op} {t : TE} (h : PE X a t) : PE X (.BoolOp op [a] pos) t := fun pins s σ H Q I hw=>BoolOp_one (h pins s σ H Q I hw)
theorem bE (ha : PE X a ta) (hb : PE X (.BoolOp .And (b :: rest) pos) tb) : PE X (.BoolOp .And (a :: b :: rest) pos) (AZ5 ta tb) := by
 intro pins s σ H Q I h
 refine BoolOp_and (J1 (ha pins s σ H _ I h) fun v s1 ⟨x,H1,I1,r1,q1⟩=>?_)
 obtain ⟨c,rfl,q1⟩ := q1
 cases r1
 refine wpAny_truthy_bool ?_
 cases c with
 | true=>exact hb pins s1 σ H1 Q I1 q1
 | false=>exact ⟨.bl false,H1,I1,rfl,q1⟩
theorem bW (ha : PE X a ta) (hb : PE X (.BoolOp .Or (b :: rest) pos) tb) : PE X (.BoolOp .Or (a :: b :: rest) pos) (AR2 ta tb) := by
 intro pins s σ H Q I h
 refine BoolOp_or (J1 (ha pins s σ H _ I h) fun v s1 ⟨x,H1,I1,r1,q1⟩=>?_)
 obtain ⟨c,rfl,q1⟩ := q1
 cases r1
 refine wpAny_truthy_bool ?_
 cases c with
 | false=>exact hb pins s1 σ H1 Q I1 q1
 | true=>exact ⟨.bl true,H1,I1,rfl,q1⟩
def tIf (t : TT) (ta tb : TE) : TE := fun σ H Q=>t σ H fun c H1=>if c = true then ta σ H1 Q else tb σ H1 Q
theorem X1 {c : Expr} (hc : PT X c tA) (ha : PE X a ta) (hb : PE X b tb) : PE X (.IfExp c a b pos) (tIf tA ta tb) := by
 intro pins s σ H Q I h
 refine wpAny_IfExp (J1 (hc pins s σ H _ I h) fun d s1 ⟨H1,I1,q1⟩=>?_)
 cases d with
 | true=>exact ha pins s1 σ H1 Q I1 q1
 | false=>exact hb pins s1 σ H1 Q I1 q1
end
end L2
namespace L2
open PySem PySem.Spec PyProof.Rows
def SqL (K : PySem.W.Frag) (H : Hp) (a : Addr) (xs : List V) : Prop :=
 Rd H a (.lst xs) ∨
  ∃ (o : Obj) (its : Array Value) (n : Nat),K.lookup a = some o ∧ o.cls = .type "list" ∧ o.dict = none ∧ o.data = .seq its n ∧ its.size ≤ sizeLine ∧ Vals xs its.toList
def SqT (K : PySem.W.Frag) (H : Hp) (a : Addr) (xs : List V) : Prop :=
 Rd H a (.tup xs) ∨
  ∃ (o : Obj) (its : Array Value) (n : Nat),K.lookup a = some o ∧ o.cls = .type "tuple" ∧ o.data = .seq its n ∧ its.size ≤ sizeLine ∧ Vals xs its.toList
def BG4 : Value → Option V
 | .none=>some .non
 | .bool b=>some (.bl b)
 | .int i _=>some (.int i)
 | .str x _=>some (.str x)
 | .bytes b _=>some (.byt b)
 | .float b _=>some (.flt b)
 | .ref a=>some (.ref a)
 | .type n=>some (.ty n)
 | _=>none
theorem RelV.abs {x : V} {u : Value} (r : RelV x u) : BG4 u = some x := by
 cases x with
 | non=>cases r; rfl
 | bl _=>cases r; rfl
 | int _=>obtain ⟨t,rfl⟩ := r; rfl
 | str _=>obtain ⟨t,rfl⟩ := r; rfl
 | byt _=>obtain ⟨t,rfl⟩ := r; rfl
 | flt _=>obtain ⟨t,rfl⟩ := r; rfl
 | ref _=>cases r; rfl
 | ty _=>cases r; rfl
theorem RelV.inj {x y : V} {u : Value} (r : RelV x u) (q : RelV y u) : x = y := Option.some.inj (r.abs.symm.trans q.abs)
theorem Vals.inj : ∀ {xs ys : List V} {us : List Value},Vals xs us → Vals ys us → xs = ys
 | _,_,_,.nil,.nil=>rfl
 | _,_,_,.cons r t,.cons r' t'=>by rw [r.inj r',Vals.inj t t']
section
variable {X : Cx} {pins : List (Addr × Obj)} {σ : St} {H : Hp} {s : Shared} {a : Addr} {xs ys : List V}
theorem SqL.of {K : PySem.W.Frag} (h : H a = some (.lst xs)) : SqL K H a xs := .inl (.inl h)
theorem SqT.of {K : PySem.W.Frag} (h : H a = some (.tup xs)) : SqT K H a xs := .inl (.inl h)
theorem Inv.list (I : Inv X pins σ H s) (h : SqL X.K H a xs) : ∃ its : List Value,Vals xs its ∧ PlainL s.heap a its.toArray ∧ xs.length ≤ sizeLine := by
 rcases h with h | ⟨o,its,n,hk,hc,hd,hs,hz,r⟩
 ·obtain ⟨z,its,n,r,e⟩ := h.ok I.hok
  exact ⟨its,r,⟨_,n,e,rfl,rfl,rfl⟩,z⟩
 ·refine ⟨its.toList,r,⟨o,n,I.kIn a o hk,hc,hd,by simpa using hs⟩,?_⟩
  have e := r.length
  simp only [Array.length_toList] at e
  omega
theorem Inv.tuple (I : Inv X pins σ H s) (h : SqT X.K H a xs) : ∃ its : List Value,Vals xs its ∧ IsTup s.heap a its.toArray ∧ xs.length ≤ sizeLine := by
 rcases h with h | ⟨o,its,n,hk,hc,hs,hz,r⟩
 ·obtain ⟨z,its,r,p⟩ := h.ok I.hok
  exact ⟨its,r,p,z⟩
 ·refine ⟨its.toList,r,⟨o,I.kIn a o hk,hc,n,by simpa using hs⟩,?_⟩
  have e := r.length
  simp only [Array.length_toList] at e
  omega
theorem Inv.list_inj (I : Inv X pins σ H s) (h : SqL X.K H a xs) (h' : SqL X.K H a ys) : xs = ys := by
 obtain ⟨its,r,⟨o,n,e,_,_,d⟩,_⟩ := I.list h
 obtain ⟨its',r',⟨o',n',e',_,_,d'⟩,_⟩ := I.list h'
 rw [e] at e'; cases e'
 rw [d] at d'
 injection d' with d1 _
 have : its = its' := by simpa using congrArg Array.toList d1
 subst this
 exact r.inj r'
theorem Inv.tuple_inj (I : Inv X pins σ H s) (h : SqT X.K H a xs) (h' : SqT X.K H a ys) : xs = ys := by
 obtain ⟨its,r,⟨o,e,_,n,d⟩,_⟩ := I.tuple h
 obtain ⟨its',r',⟨o',e',_,n',d'⟩,_⟩ := I.tuple h'
 rw [e] at e'; cases e'
 rw [d] at d'
 injection d' with d1 _
 have : its = its' := by simpa using congrArg Array.toList d1
 subst this
 exact r.inj r'
end
abbrev Cx.wish (X : Cx) (E : Value → Shared → Prop) : Cx := { X with xe := E }
abbrev Cx.nox (X : Cx) : Cx := X.wish fun _ _=>False
theorem Cx.Ok.wish {X : Cx} (ok : X.Ok) (E : Value → Shared → Prop) : (X.wish E).Ok :=
 ⟨ok.mod,ok.kind,ok.glob,ok.blt,ok.above,ok.inj,ok.has,ok.cab,ok.hd,ok.frames,ok.stk,ok.exf,ok.bs,ok.bsz,ok.noex,ok.exfs,ok.funs,ok.frf⟩
theorem Cx.Ok.unwish {X : Cx} {E : Value → Shared → Prop} (ok : (X.wish E).Ok) : X.Ok :=
 ⟨ok.mod,ok.kind,ok.glob,ok.blt,ok.above,ok.inj,ok.has,ok.cab,ok.hd,ok.frames,ok.stk,ok.exf,ok.bs,ok.bsz,ok.noex,ok.exfs,ok.funs,ok.frf⟩
section
variable {X : Cx} {pins : List (Addr × Obj)} {σ : St} {H : Hp} {s : Shared} {E : Value → Shared → Prop}
theorem Inv.wish (I : Inv X pins σ H s) (E : Value → Shared → Prop) : Inv (X.wish E) pins σ H s := ⟨I.ok.wish E,I.os,I.bare,I.base,I.loc,I.cell,I.free,I.freeC,I.pin,I.hok,I.len⟩
theorem Inv.unwish (I : Inv (X.wish E) pins σ H s) : Inv X pins σ H s := ⟨I.ok.unwish,I.os,I.bare,I.base,I.loc,I.cell,I.free,I.freeC,I.pin,I.hok,I.len⟩
theorem SP.unwish {D : fF} {f : Flow} {s' : Shared} (h : SP (X.wish E) pins D f s') : SP X pins D f s' := by
 cases f with
 | next=>obtain ⟨σ',H',I,q⟩ := h; exact ⟨σ',H',I.unwish,q⟩
 | brk=>obtain ⟨σ',H',I,q⟩ := h; exact ⟨σ',H',I.unwish,q⟩
 | cont=>obtain ⟨σ',H',I,q⟩ := h; exact ⟨σ',H',I.unwish,q⟩
 | ret u=>obtain ⟨v,σ',H',I,r,q⟩ := h; exact ⟨v,σ',H',I.unwish,r,q⟩
theorem PSs.nox {st : List Stmt} {t : TS} (h : PSs X.nox st t) : PSs X st t := fun pins s σ H D I hw =>
 wpAny_mono (h pins s σ H D (I.wish _) hw) (fun _ _ q=>q.unwish) fun _ _ z=>False.elim z
end
section
variable {X : Cx} {st : Stmt} {rest : List Stmt} {t u : TS} {e : Expr} {te : TE} {pos : Pos}
def AH6 : TS := fun D σ H=>D.nx σ H
def BD2 (t u : TS) : TS := fun D σ H=>t { D with nx := u D } σ H
theorem E7 : PSs X [] AH6 := fun _ _ σ H _ I h=>wpAny_execs_nil ⟨σ,H,I,h⟩
theorem B5 (h1 : PS X st t) (h2 : PSs X rest u) : PSs X (st :: rest) (BD2 t u) := by
 intro pins s σ H D I h
 refine wpAny_execs_cons (J1 (h1 pins s σ H { D with nx := u D } I h) fun f s1 q=>?_)
 cases f with
 | next =>
  obtain ⟨σ',H',I',q⟩ := q
  exact h2 pins s1 σ' H' D I' q
 | ret v=>exact q
 | brk=>exact q
 | cont=>exact q
theorem A9 (h1 : PS X st t) : PSs X [st] t := by
 intro pins s σ H D I h
 refine wpAny_execs_cons (J1 (h1 pins s σ H D I h) fun f s1 q=>?_)
 cases f with
 | next=>exact wpAny_execs_nil q
 | ret v=>exact q
 | brk=>exact q
 | cont=>exact q
theorem Inv.quiet {pins : List (Addr × Obj)} {σ : St} {H : Hp} {s : Shared} (I : Inv X pins σ H s) : interactive X.env = false := by simp [interactive,I.ok.kind]
def AZ2 (te : TE) : TS := fun D σ H=>te σ H fun _ H1=>D.nx σ H1
theorem lI (he : PE X e te) (hs : swapsWith e none pos.line X.env = pure false := by rfl) : PS X (.Expr e pos) (AZ2 te) := by
 intro pins s σ H D I h
 exact wpAny_Expr_any (J1 (he pins s σ H _ I h) fun v s1 ⟨x,H1,I1,r1,q1⟩=>⟨σ,H1,I1,q1⟩) I.quiet hs
def dW (te : TE) : TS := fun D σ H=>te σ H D.rt
theorem D8 (he : PE X e te) : PS X (.Return (some e) pos) (dW te) := by
 intro pins s σ H D I h
 exact wpAny_Return_some (J1 (he pins s σ H _ I h) fun v s1 ⟨x,H1,I1,r1,q1⟩=>⟨x,σ,H1,I1,r1,q1⟩)
def AR4 (c : TT) (t u : TS) : TS := fun D σ H=>c σ H fun b H1=>if b = true then t D σ H1 else u D σ H1
theorem G4 {c : Expr} {a b : List Stmt} {tc : TT} (hc : PT X c tc) (ha : PSs X a t) (hb : PSs X b u) : PS X (.If c a b pos) (AR4 tc t u) := by
 intro pins s σ H D I h
 refine wpAny_If (J1 (hc pins s σ H _ I h) fun d s1 ⟨H1,I1,q1⟩=>?_)
 cases d with
 | true=>exact ha pins s1 σ H1 D I1 q1
 | false=>exact hb pins s1 σ H1 D I1 q1
def AR3 : TS := fun _ _ _=>False
theorem mL {sts : List Stmt} : PSs X sts AR3 := fun _ _ _ _ _ _ h=>h.elim
end
abbrev TG := V → St → Hp → (St → Hp → Prop) → Prop
abbrev kJ := List V → St → Hp → (St → Hp → Prop) → Prop
def PG (X : Cx) (target : Expr) (t : TG) : Prop :=
 ∀ (pins : List (Addr × Obj)) (s : Shared) (σ : St) (H : Hp) (v : V) (u : Value) (Q : St → Hp → Prop),Inv X pins σ H s → RelV v u → t v σ H Q →
  wpAny (model X.prog X.w) X.A (assign target X.env u) (fun _ s'=>∃ σ' H',Inv X pins σ' H' s' ∧ Q σ' H') X.xe s
def PGs (X : Cx) (ts : List Expr) (t : kJ) : Prop :=
 ∀ (pins : List (Addr × Obj)) (s : Shared) (σ : St) (H : Hp) (vs : List V) (us : List Value) (Q : St → Hp → Prop),Inv X pins σ H s → Vals vs us → t vs σ H Q →
  wpAny (model X.prog X.w) X.A (assignInOrder ((assignEach ts X.env).map (·.2)) us) (fun _ s'=>∃ σ' H',Inv X pins σ' H' s' ∧ Q σ' H') X.xe s
abbrev AG5 := V → V → V → Hp → (Hp → Prop) → Prop
def AY3 (X : Cx) (t : AG5) : Prop :=
 ∀ (pins : List (Addr × Obj)) (s : Shared) (σ : St) (H : Hp) (o i v : V) (ov iv u : Value) (Q : Hp → Prop),Inv X pins σ H s → RelV o ov → RelV i iv → RelV v u → t o i v H Q →
  wpAny (model X.prog X.w) X.A (setItem ov iv u) (fun _ s'=>∃ H',Inv X pins σ H' s' ∧ Q H') X.xe s
section
variable {X : Cx} {pos : Pos}
def P6 (i : Nat) : TG := fun v σ H Q=>Q (σ.set i (some v)) H
theorem G5 {i : Nat} {x : Str} (hN : X.N.Nodup) (hi : X.N[i]? = some x) (hx : Loc X.env.scope x) (hf : X.fn x = true ∨ X.env.scope.names.lookup x = some .local := by first | exact .inl rfl | exact .inr rfl | assumption) : PG X (.Name x pos) (P6 i) := by
 intro pins s σ H v u Q I r h
 exact wpAny_assign_Name (oW I hN hi hx r (fun s' I'=>⟨_,H,I',h⟩) hf)
def vW : kJ := fun vs σ H Q=>vs = [] ∧ Q σ H
def cE (t : TG) (u : kJ) : kJ := fun vs σ H Q=>∃ v r,vs = v :: r ∧ t v σ H fun σ' H'=>u r σ' H' Q
theorem T2 : PGs X [] vW := by
 intro pins s σ H vs us Q I r h
 obtain ⟨e,h⟩ := h
 subst e
 cases r
 exact assignInOrder_nil ⟨σ,H,I,h⟩
theorem K1 {e : Expr} {es : List Expr} {t : TG} {u : kJ} (h1 : PG X e t) (h2 : PGs X es u)
  (hs : (assignEach (e :: es) X.env).map (·.2) = assign e X.env :: (assignEach es X.env).map (·.2) := by rfl) : PGs X (e :: es) (cE t u) := by
 intro pins s σ H vs us Q I r h
 obtain ⟨v,vr,e1,h⟩ := h
 subst e1
 cases r with
 | cons r rr =>
  rw [hs]
  refine assignInOrder_cons (J1 (h1 pins s σ H _ _ _ I r h) fun _ s1 ⟨σ1,H1,I1,q1⟩=>?_)
  exact h2 pins s1 σ1 H1 _ _ Q I1 rr q1
def AF3 (K : PySem.W.Frag) (n : Nat) (t : kJ) : TG := fun v σ H Q=>∃ a xs,v = .ref a ∧ SqT K H a xs ∧ xs.length = n ∧ t xs σ H Q
theorem V2 {es : List Expr} {k : Nat} {t : kJ} {n : Nat} (hc : X.calm = true) (h : PGs X es t)
  (hn : (assignEach es X.env).length = n := by rfl) (hst : (assignEach es X.env).findIdx? (·.1) = none := by rfl) : PG X (.Tuple es k pos) (AF3 X.K n t) := by
 intro pins s σ H v u Q I r hw
 obtain ⟨a,xs,e1,hq,hl,hw⟩ := hw
 subst e1
 cases r
 obtain ⟨its,rv,ht,hz⟩ := I.tuple hq
 refine assign_Tuple_tuple (I.ok.hd hc) ht (by simp [hn,← hl,rv.length]) hst fun h' hx=>?_
 have I1 : Inv X pins σ H { s with heap := h' } := I.kept (t' := s.toks) fun b o e=>hx b o (Nat.ne_of_lt (Heap.lt_size e)) e
 exact h pins _ σ H xs _ Q I1 (by simpa using rv) hw
def BG0 (to ti : TE) (t : AG5) : TG := fun v σ H Q=>to σ H fun o H1=>ti σ H1 fun i H2=>t o i v H2 fun H3=>Q σ H3
theorem xV {o i : Expr} {to ti : TE} {t : AG5} (ho : PE X o to) (hi : PE X i ti) (hs : AY3 X t)
  (ha : ∀ v,assign (.Subscript o i pos) X.env v = (do
   let ov ← holding [v] (eval o X.env)
   let iv ← holding [v,ov] (eval i X.env)
   standAt pos
   holding [v,ov,iv] (setItem ov iv v)
   release [v,ov,iv] []) := by intro _; rfl) : PG X (.Subscript o i pos) (BG0 to ti t) := by
 intro pins s σ H v u Q I r h
 rw [ha]
 refine wpAny_bind (wpAny_holding (J1 (ho pins s σ H _ I h) fun ov s1 ⟨x,H1,I1,r1,q1⟩=>?_))
 refine wpAny_bind (wpAny_holding (J1 (hi pins s1 σ H1 _ I1 q1) fun iv s2 ⟨y,H2,I2,r2,q2⟩=>?_))
 refine wpAny_bind (wpAny_standAt (wpAny_bind (wpAny_holding (J1 (hs pins s2 σ H2 x y v ov iv u _ I2 r1 r2 r q2) fun _ s3 ⟨H3,I3,q3⟩=>?_))))
 exact wpAny_release ⟨σ,H3,I3,q3⟩
def AB2 (te : TE) (g : TG) : TS := fun D σ H=>te σ H fun x H1=>g x σ H1 D.nx
theorem xP {tg e : Expr} {te : TE} {g : TG} (he : PE X e te) (hg : PG X tg g) (hs : swapsWithSole [tg] e pos.line X.env = pure false := by rfl) (hw : swappedStores [tg] e X.env = pure none := by rfl)
  (h1 : (assignEach [tg] X.env).map (·.2) = [assign tg X.env] := by rfl) : PS X (.Assign [tg] e pos) (AB2 te g) := by
 intro pins s σ H D I h
 refine wpAny_Assign_stores (J1 (he pins s σ H _ I h) fun v s1 ⟨x,H1,I1,r1,q1⟩=>?_) hs hw
 rw [h1]
 exact J1 (hg pins s1 σ H1 x v _ I1 r1 q1) fun _ s2 q=>q
theorem G2 {i : Nat} {x : Str} {e : Expr} {te : TE} {pos' : Pos} (hN : X.N.Nodup) (hi : X.N[i]? = some x) (hx : Loc X.env.scope x) (he : PE X e te) (hs : swapsWith e (some (.Name x pos')) pos.line X.env = pure false := by rfl) (hf : X.fn x = true ∨ X.env.scope.names.lookup x = some .local := by first | exact .inl rfl | exact .inr rfl | assumption) :
  PS X (.Assign [.Name x pos'] e pos) (AB2 te (P6 i)) := by
 intro pins s σ H D I h
 refine wpAny_Assign_Name (J1 (he pins s σ H _ I h) fun v s1 ⟨y,H1,I1,r1,q1⟩=>?_) hs
 exact oW I1 hN hi hx r1 (fun s2 I2=>⟨_,H1,I2,q1⟩) hf
end
section
variable {X : Cx} {pos : Pos}
def AR0 (c : TT) (tb : TS) : TS := fun D σ H=>∃ W : Nat → St → Hp → Prop,(∃ m,W m σ H) ∧ ∀ m σ H,W m σ H →
 c σ H fun b H1=>if b = true then ∃ N : St → Hp → Prop,(∀ σ' H',N σ' H' → ∃ m',m' < m ∧ W m' σ' H') ∧ tb { D with nx := N,ct := N,bk := D.nx } σ H1 else D.nx σ H1
theorem AC7 {c : Expr} {body : List Stmt} {tc : TT} {tb : TS} (hp : PassesOwn (model X.prog X.w) X.A X.env X.xe) (hc : PT X c tc) (hb : PSs X body tb) : PS X (.While c body [] pos) (AR0 tc tb) := by
 intro pins s σ H D I h
 obtain ⟨W,⟨m0,w0⟩,turn⟩ := h
 refine wpAny_While (codeAny_whileLoop (fun n s'=>∃ σ' H',Inv X pins σ' H' s' ∧ W n σ' H') ?_ m0 ⟨σ,H,I,w0⟩)
 rintro n s1 ⟨σ1,H1,I1,w1⟩
 refine wpAny_passesOwn hp (J1 (hc pins s1 σ1 H1 _ I1 (turn n σ1 H1 w1)) fun b s2 ⟨H2,I2,q2⟩=>?_)
 cases b with
 | true =>
  obtain ⟨N,hN,q2⟩ := q2
  rw [if_pos rfl]
  refine wpAny_passesOwn hp (J1 (hb pins s2 σ1 H2 _ I2 q2) fun f s3 q3=>?_)
  cases f with
  | next =>
   obtain ⟨σ3,H3,I3,n3⟩ := q3
   obtain ⟨m',hm,w3⟩ := hN σ3 H3 n3
   exact ⟨m',hm,σ3,H3,I3,w3⟩
  | cont =>
   obtain ⟨σ3,H3,I3,n3⟩ := q3
   obtain ⟨m',hm,w3⟩ := hN σ3 H3 n3
   exact ⟨m',hm,σ3,H3,I3,w3⟩
  | brk=>exact q3
  | ret v=>exact q3
 | false =>
  rw [if_neg Bool.false_ne_true]
  exact wpAny_execs_nil ⟨σ1,H2,I2,q2⟩
end
structure It where
 go : Nat → Hp → Prop
 yld : Nat → Hp → V → Hp → Prop
 stop : Nat → Hp → Prop
def S8 (X : Cx) (pins : List (Addr × Obj)) (H : Hp) (b : Addr) : Prop :=
 H b = none ∧ b ≠ X.env.locals ∧ b ∉ X.fs ∧ (b ∈ X.ex ∨ X.s₀.heap.objs.size ≤ b) ∧ (∀ x c,X.env.cells.lookup x = some c → c ≠ b) ∧ ∀ p ∈ X.pn ++ pins,p.1 ≠ b
theorem Inv.fpOk {X : Cx} {pins : List (Addr × Obj)} {σ : St} {H H' : Hp} {s : Shared} {b : Addr} (I : Inv X pins σ H s) (hb : s.heap.objs.size ≤ b) (hn : H' b = none) : S8 X pins H' b := by
 refine ⟨hn,Nat.ne_of_gt (Nat.lt_of_lt_of_le I.lt hb),I.nofs hb,.inr (Nat.le_trans I.sz hb),fun x c e z=>?_,fun p hp z=>?_⟩
 ·obtain ⟨v,q⟩ := I.cell x c e
  exact absurd (Nat.lt_of_lt_of_le q.lt (by rw [z]; exact hb)) (Nat.lt_irrefl _)
 ·exact absurd (Nat.lt_of_lt_of_le (Heap.lt_size (I.pin p hp).1) (by rw [z]; exact hb)) (Nat.lt_irrefl _)
structure gR (P : Program) (w : World) (K : PySem.W.Frag) (tg : Expr) (J : It) (fp : List Addr) (it : Addr) (tn : Nat → Heap → Prop) : Prop where
 mem : it ∈ fp
 obj : ∀ i h,tn i h → ∀ b ∈ fp,∃ o,h.get? b = some o ∧ ∀ v,o.data ≠ .cell v
 keep : ∀ i h h',tn i h → (∀ b ∈ fp,∀ o,h.get? b = some o → h'.get? b = some o) → tn i h'
 item : ∀ (X : Cx),X.prog = P → X.w = w → X.K = K → X.calm = true → ∀ (i : Nat) (pins : List (Addr × Obj)) (s : Shared) (σ : St) (H : Hp) (E : Value → Shared → Prop),Inv X pins σ H s → (∀ b ∈ fp,S8 X pins H b) → tn i s.heap → J.go i H →
  wpAny (model P w) X.A (pyNext (.ref it)) (fun r s1=>∃ u,r = some u ∧
   wpAny (model P w) X.A (letOwnedTupleGo tg (.ref it) u) (fun _ s2=>∃ x H',Inv X pins σ H' s2 ∧ RelV x u ∧ J.yld i H x H' ∧ tn (i + 1) s2.heap ∧ ∀ b ∈ fp,H' b = none) E s1) E s
 done : ∀ (X : Cx),X.prog = P → X.w = w → X.K = K → X.calm = true → ∀ (i : Nat) (pins : List (Addr × Obj)) (s : Shared) (σ : St) (H : Hp) (E : Value → Shared → Prop),Inv X pins σ H s → (∀ b ∈ fp,S8 X pins H b) → tn i s.heap → J.stop i H →
  wpAny (model P w) X.A (pyNext (.ref it)) (fun r s1=>r = none ∧ Inv X pins σ H s1) E s
 self : ∀ (A : Around) (i : Nat) (s : Shared) (Q : Value → Shared → Prop) (E : Value → Shared → Prop),tn i s.heap → Q (.ref it) s → wpAny (model P w) A (pyIter (.ref it)) Q E s
abbrev TI := St → Hp → (It → Hp → Prop) → Prop
def PIE (X : Cx) (pins : List (Addr × Obj)) (σ : St) (tg : Expr) (R : It → Hp → Prop) (itv : Value) (s2 : Shared) : Prop :=
 ∃ (it : Addr) (fp : List Addr) (tn : Nat → Heap → Prop) (J : It) (H' : Hp),itv = .ref it ∧ Inv X pins σ H' s2 ∧ gR X.prog X.w X.K tg J fp it tn ∧ tn 0 s2.heap ∧ (∀ b ∈ fp,S8 X pins H' b) ∧ R J H'
def PI (X : Cx) (tg iter : Expr) (wi : TI) : Prop :=
 ∀ (pins : List (Addr × Obj)) (s : Shared) (σ : St) (H : Hp) (R : It → Hp → Prop),Inv X pins σ H s → wi σ H R →
  wpAny (model X.prog X.w) X.A (eval iter X.env) (fun v s1=>wpAny (model X.prog X.w) X.A (pyIter v) (PIE X pins σ tg R) X.xe s1) X.xe s
theorem iL {M : Model} {A : Around} {E : Value → Shared → Prop} {s : Shared} {tg : Expr} {it : Addr} {u : Value} {o : Obj} {n : String} {vs : Array Value} {Q : Unit → Shared → Prop} (ho : s.heap.get? it = some o) (hc : o.cls = .type n) (hd : o.data = .fields vs)
    (hn : ["enumerate", "zip", "dict_itemiterator", "dict_reverseitemiterator", "odict_iterator", "itertools.zip_longest", "itertools.pairwise"].contains n = false) (hQ : Q () s) : wpAny M A (letOwnedTupleGo tg (.ref it) u) Q E s := by
  unfold letOwnedTupleGo
  cases tg <;> first
    | exact wpAny_pure hQ
    | (cases u <;> first
        | exact wpAny_pure hQ
        | (refine wpAny_bind (wpAny_load ho ?_)
           rw [hc, hd]
           show wpAny M A (if (["enumerate", "zip", "dict_itemiterator", "dict_reverseitemiterator", "odict_iterator", "itertools.zip_longest", "itertools.pairwise"].contains n && vs[0]? == some (rawInt _)) = true then _ else _) Q E s
           rw [if_neg (by intro h; rw [hn, Bool.false_and] at h; cases h)]
           exact wpAny_pure hQ))
def uO (K : PySem.W.Frag) (a : Addr) : It :=
 ⟨fun i H=>∃ xs x,SqL K H a xs ∧ xs[i]? = some x,fun i H x H'=>H' = H ∧ ∀ xs,SqL K H a xs → xs[i]? = some x,fun i H=>∃ xs,SqL K H a xs ∧ xs.length ≤ i⟩
def uN (K : PySem.W.Frag) (a : Addr) : It :=
 ⟨fun i H=>∃ xs x,SqT K H a xs ∧ xs[i]? = some x,fun i H x H'=>H' = H ∧ ∀ xs,SqT K H a xs → xs[i]? = some x,fun i H=>∃ xs,SqT K H a xs ∧ xs.length ≤ i⟩
def nM (lo : Int) (n : Nat) : It := ⟨fun i _=>i < n,fun i H x H'=>H' = H ∧ x = .int (lo + i),fun i _=>n ≤ i⟩
theorem wV {P : Program} {w : World} {K : PySem.W.Frag} {tg : Expr} (a it : Addr) : gR P w K tg (uO K a) [it] it (fun i h=>h.IsListIter it a i) where
 mem := by simp
 obj := fun i h st b hb=>by
  have e : b = it := by simpa using hb
  subst e
  obtain ⟨o,e,c,d⟩ := st
  exact ⟨o,e,fun v z=>by rw [d] at z; cases z⟩
 keep := fun i h h' st k=>st.at fun o e=>k it (by simp) o e
 item := by
  intro X hP hw hK hc i pins s σ H E I hf st hg
  subst hP hw hK
  obtain ⟨xs,x,hq,hx⟩ := hg
  obtain ⟨its,rv,p,hz⟩ := I.list hq
  obtain ⟨u,hu,ru⟩ := rv.get hx
  obtain ⟨f0,f1,f2,f3,f4,f5⟩ := hf it (by simp)
  refine wpAny_pyNext_list_item st p.isList (x := u) (by simpa using hu) fun h' st' sb=>?_
  have I1 : Inv X pins σ H { s with heap := h' } := I.turned (t' := s.toks) (fun b o hb e=>(sb.2 b hb).trans e) f0 f1 f3 f4 f5
  obtain ⟨o,e,c,d⟩ := id st'
  exact ⟨u,rfl,iL (s := { s with heap := h' }) e c d (by decide) ⟨x,H,I1,ru,⟨rfl,fun ys hy=>by rw [I.list_inj hy hq]; exact hx⟩,st',fun b hb=>(hf b hb).1⟩⟩
 done := by
  intro X hP hw hK hc i pins s σ H E I hf st hg
  subst hP hw hK
  obtain ⟨xs,hq,hx⟩ := hg
  obtain ⟨its,rv,p,hz⟩ := I.list hq
  obtain ⟨f0,f1,f2,f3,f4,f5⟩ := hf it (by simp)
  have hl := rv.length
  exact wpAny_pyNext_list_end (I.ok.hd hc) st p.isList (by simp; omega) fun h' eb=>⟨rfl,I.turned (t' := s.toks) (fun b o hb e=>eb b o hb e) f0 f1 f3 f4 f5⟩
 self := fun _ _ _ _ _ st h=>wpAny_pyIter_listiter st h
theorem uS {P : Program} {w : World} {K : PySem.W.Frag} {tg : Expr} (a it : Addr) : gR P w K tg (uN K a) [it] it (fun i h=>h.IsTupleIter it a i) where
 mem := by simp
 obj := fun i h st b hb=>by
  have e : b = it := by simpa using hb
  subst e
  obtain ⟨o,e,c,d⟩ := st
  exact ⟨o,e,fun v z=>by rw [d] at z; cases z⟩
 keep := fun i h h' st k=>st.at fun o e=>k it (by simp) o e
 item := by
  intro X hP hw hK hc i pins s σ H E I hf st hg
  subst hP hw hK
  obtain ⟨xs,x,hq,hx⟩ := hg
  obtain ⟨its,rv,p,hz⟩ := I.tuple hq
  obtain ⟨u,hu,ru⟩ := rv.get hx
  obtain ⟨f0,f1,f2,f3,f4,f5⟩ := hf it (by simp)
  refine wpAny_pyNext_tuple_item st (show s.heap.IsTuple a its.toArray from p) (x := u) (by simpa using hu) fun h' st' sb=>?_
  have I1 : Inv X pins σ H { s with heap := h' } := I.turned (t' := s.toks) (fun b o hb e=>(sb.2 b hb).trans e) f0 f1 f3 f4 f5
  obtain ⟨o,e,c,d⟩ := id st'
  exact ⟨u,rfl,iL (s := { s with heap := h' }) e c d (by decide) ⟨x,H,I1,ru,⟨rfl,fun ys hy=>by rw [I.tuple_inj hy hq]; exact hx⟩,st',fun b hb=>(hf b hb).1⟩⟩
 done := by
  intro X hP hw hK hc i pins s σ H E I hf st hg
  subst hP hw hK
  obtain ⟨xs,hq,hx⟩ := hg
  obtain ⟨its,rv,p,hz⟩ := I.tuple hq
  obtain ⟨f0,f1,f2,f3,f4,f5⟩ := hf it (by simp)
  have hl := rv.length
  exact wpAny_pyNext_tuple_end (I.ok.hd hc) st (show s.heap.IsTuple a its.toArray from p) (by simp; omega) fun h' eb=>⟨rfl,I.turned (t' := s.toks) (fun b o hb e=>eb b o hb e) f0 f1 f3 f4 f5⟩
 self := fun _ _ _ _ _ st h=>wpAny_pyIter_tupleiter st h
theorem uT {P : Program} {w : World} {K : PySem.W.Frag} {tg : Expr} (it : Addr) (lo : Int) (n : Nat) : gR P w K tg (nM lo n) [it] it (fun i h=>IsRangeIter h it (lo + (i : Nat) * 1) ((n : Int) - (i : Nat)) 1) where
 mem := by simp
 obj := fun i h st b hb=>by
  have e : b = it := by simpa using hb
  subst e
  exact ⟨_,st,fun v z=>by
   have z' : Data.fields _ = Data.cell v := z
   cases z'⟩
 keep := fun i h h' st k=>k it (by simp) _ st
 item := by
  intro X hP hw hK hc i pins s σ H E I hf st hg
  subst hP hw hK
  obtain ⟨f0,f1,f2,f3,f4,f5⟩ := hf it (by simp)
  have W := Walks.range (prog := X.prog) (w := X.w) (I.ok.hd hc) it lo 1 n
  refine W.item i s _ _ hg st fun v h' tk hv st' kk=>?_
  obtain ⟨t,rfl⟩ := hv
  have I1 : Inv X pins σ H { s with heap := h',toks := tk } := I.turned (fun b o hb e=>kk b o (by simpa using hb) e) f0 f1 f3 f4 f5
  refine ⟨_,rfl,iL (s := { s with heap := h',toks := tk }) (n := "range_iterator") st' rfl rfl (by decide) ⟨.int (lo + i),H,I1,⟨t,?_⟩,⟨rfl,rfl⟩,st',fun b hb=>(hf b hb).1⟩⟩
  rw [Int.mul_one]
 done := by
  intro X hP hw hK hc i pins s σ H E I hf st hg
  subst hP hw hK
  obtain ⟨f0,f1,f2,f3,f4,f5⟩ := hf it (by simp)
  exact wpAny_pyNext_range_end (I.ok.hd hc) st (by have : n ≤ i := hg; omega) fun h' eb=>⟨rfl,I.turned (t' := s.toks) (fun b o hb e=>eb b o hb e) f0 f1 f3 f4 f5⟩
 self := fun _ _ _ _ _ st h=>wpAny_pyIter_rangeiter st h
end L2
namespace L2
open PySem PySem.Spec PyProof.Rows
section
variable {X : Cx} {tg : Expr}
def BB7 (K : PySem.W.Frag) (tl : TE) : TI := fun σ H R=>tl σ H fun x H1=>∃ a,x = .ref a ∧ (∃ xs,SqL K H1 a xs) ∧ R (uO K a) H1
def BF7 (K : PySem.W.Frag) (tl : TE) : TI := fun σ H R=>tl σ H fun x H1=>∃ a,x = .ref a ∧ (∃ xs,SqT K H1 a xs) ∧ R (uN K a) H1
theorem U5 {l : Expr} {tl : TE} (hl : PE X l tl) : PI X tg l (BB7 X.K tl) := by
 intro pins s σ H R I h
 refine J1 (hl pins s σ H _ I h) fun v s1 ⟨x,H1,I1,r1,q1⟩=>?_
 obtain ⟨a,e,⟨xs,hq⟩,q⟩ := q1
 subst e
 cases r1
 obtain ⟨its,rv,p,hz⟩ := I1.list hq
 refine wpAny_pyIter_list p.isList ?_
 refine ⟨s1.heap.objs.size,[s1.heap.objs.size],_,_,H1,rfl,I1.kept (t' := s1.toks) fun b o e=>Heap.get?_push_of_some _ e,wV a _,⟨_,Heap.get?_push_size _ rfl,rfl,rfl⟩,fun b hb=>?_,q⟩
 have e : b = s1.heap.objs.size := by simpa using hb
 subst e
 exact I1.fpOk (Nat.le_refl _) (I1.hok.fresh (Nat.le_refl _))
theorem bC {l : Expr} {tl : TE} (hl : PE X l tl) : PI X tg l (BF7 X.K tl) := by
 intro pins s σ H R I h
 refine J1 (hl pins s σ H _ I h) fun v s1 ⟨x,H1,I1,r1,q1⟩=>?_
 obtain ⟨a,e,⟨xs,hq⟩,q⟩ := q1
 subst e
 cases r1
 obtain ⟨its,rv,p,hz⟩ := I1.tuple hq
 refine wpAny_pyIter_tuple (show s1.heap.IsTuple a its.toArray from p) ?_
 refine ⟨s1.heap.objs.size,[s1.heap.objs.size],_,_,H1,rfl,I1.kept (t' := s1.toks) fun b o e=>Heap.get?_push_of_some _ e,uS a _,⟨_,Heap.get?_push_size _ rfl,rfl,rfl⟩,fun b hb=>?_,q⟩
 have e : b = s1.heap.objs.size := by simpa using hb
 subst e
 exact I1.fpOk (Nat.le_refl _) (I1.hok.fresh (Nat.le_refl _))
theorem pL {pins : List (Addr × Obj)} {σ : St} {H : Hp} {s : Shared} {R : It → Hp → Prop} {E : Value → Shared → Prop} {lo hi : Int} {t u v : Tok} {tk : Nat} (I : Inv X pins σ H s) (h1 : -(2 ^ 62) ≤ lo) (h2 : lo < 2 ^ 62) (h3 : -(2 ^ 62) ≤ hi) (h4 : hi < 2 ^ 62)
  (q : R (nM lo (hi - lo).toNat) H) : wpAny (model X.prog X.w) X.A (pyIter (.ref s.heap.objs.size)) (PIE X pins σ tg R) E { s with heap := s.heap.push { cls := .type "range",data := .fields #[.int lo t,.int hi u,.int 1 v] },toks := tk } := by
 refine wpAny_pyIter_range (IsRange.new ..) (small_one h1 h2 h3 h4) ?_
 have I1 : Inv X pins σ H { s with heap := s.heap.push { cls := .type "range",data := .fields #[.int lo t,.int hi u,.int 1 v] },toks := tk } := I.kept fun b o e=>Heap.get?_push_of_some _ e
 refine ⟨(s.heap.push { cls := .type "range",data := .fields #[.int lo t,.int hi u,.int 1 v] }).objs.size,[(s.heap.push { cls := .type "range",data := .fields #[.int lo t,.int hi u,.int 1 v] }).objs.size],_,_,H,rfl,
  I1.kept (t' := tk) fun b o e=>Heap.get?_push_of_some _ e,uT _ lo (hi - lo).toNat,?_,fun b hb=>?_,q⟩
 ·have e1 : lo + ((0 : Nat) : Int) * 1 = lo := by simp
  have e2 : (((hi - lo).toNat : Nat) : Int) - ((0 : Nat) : Int) = Builtin.Range.rangeSize lo hi 1 := by rw [rangeSize_one]; split <;> omega
  show IsRangeIter _ _ (lo + ((0 : Nat) : Int) * 1) ((((hi - lo).toNat : Nat) : Int) - ((0 : Nat) : Int)) 1
  rw [e1,e2]
  exact Heap.get?_push_size _ rfl
 ·have e : b = (s.heap.push { cls := .type "range",data := .fields #[.int lo t,.int hi u,.int 1 v] }).objs.size := by simpa using hb
  subst e
  exact I1.fpOk (Nat.le_refl _) (I1.hok.fresh (Nat.le_refl _))
def BB6 (ta : TA) : TI := fun σ H R=>ta σ H fun vs H1=>∃ j : Int,vs = [.int j] ∧ -(2 ^ 62) ≤ j ∧ j < 2 ^ 62 ∧ R (nM 0 j.toNat) H1
def BB5 (ta : TA) : TI := fun σ H R=>ta σ H fun vs H1=>∃ i j : Int,vs = [.int i,.int j] ∧ (-(2 ^ 62) ≤ i ∧ i < 2 ^ 62 ∧ -(2 ^ 62) ≤ j ∧ j < 2 ^ 62) ∧ R (nM i (j - i).toNat) H1
theorem X4 {a : Expr} {ta : TA} {p pos : Pos} (hg : Gl X "range") (hm : X.mg "range" = none) (ha : PA X [a] ta) (hs : starEach [a] X.env = [(false,eval a X.env)] := by rfl) : PI X tg (.Call (.Name "range" p) [a] [] pos) (BB6 ta) := by
 intro pins s σ H R I h
 refine Call_ (aD I hg hm boot_range (PyProof.Rows.callWith_type1 (J1 (ha pos pins s σ H _ I h) fun us s1 ⟨vs,H1,I1,r1,q1⟩=>?_) hs rfl))
 obtain ⟨j,e,q1,q2,q⟩ := q1
 subst e
 cases r1 with
 | cons r rr =>
  cases rr
  obtain ⟨t,rfl⟩ := r
  exact call_range_1 (pL I1 (by omega) (by omega) q1 q2 (by simpa using q))
theorem xU {a b : Expr} {ta : TA} {p pos : Pos} (hg : Gl X "range") (hm : X.mg "range" = none) (ha : PA X [a,b] ta) (hs : starEach [a,b] X.env = [(false,eval a X.env),(false,eval b X.env)] := by rfl) (hs2 : starEach [b] X.env = [(false,eval b X.env)] := by rfl) :
  PI X tg (.Call (.Name "range" p) [a,b] [] pos) (BB5 ta) := by
 intro pins s σ H R I h
 refine Call_ (aD I hg hm boot_range (PyProof.Rows.callWith_type1 (J1 (ha pos pins s σ H _ I h) fun us s1 ⟨vs,H1,I1,r1,q1⟩=>?_) (by rw [hs,hs2]) (by rw [hs2]; rfl)))
 obtain ⟨i,j,e,⟨q1,q2,q3,q4⟩,q⟩ := q1
 subst e
 cases r1 with
 | cons r rr =>
  cases rr with
  | cons r' rr =>
   cases rr
   obtain ⟨t,rfl⟩ := r
   obtain ⟨t',rfl⟩ := r'
   exact call_range_2 (pL I1 q1 q2 q3 q4 q)
def BD5 (wi : TI) (g : TG) (tb : TS) : TS := fun D σ H=>wi σ H fun J H1=>∃ W : Nat → Nat → St → Hp → Prop,(∃ m,W 0 m σ H1) ∧ ∀ i m σ H,W i m σ H →
 (J.stop i H ∧ D.nx σ H) ∨ (J.go i H ∧ ∃ N : St → Hp → Prop,(∀ σ' H',N σ' H' → ∃ m',m' < m ∧ W (i + 1) m' σ' H') ∧ ∀ x H',J.yld i H x H' → g x σ H' fun σ2 H2=>tb { D with nx := N,ct := N,bk := D.nx } σ2 H2)
def bB (fp : List Addr) (h : Heap) : List (Addr × Obj) := fp.filterMap fun b=>(h.get? b).map fun o=>(b,o)
theorem aQ {fp : List Addr} {h : Heap} {b : Addr} {o : Obj} (hb : b ∈ fp) (e : h.get? b = some o) : (b,o) ∈ bB fp h := List.mem_filterMap.mpr ⟨b,hb,by rw [e]; rfl⟩
theorem yF {fp : List Addr} {h : Heap} {p : Addr × Obj} (hp : p ∈ bB fp h) : p.1 ∈ fp ∧ h.get? p.1 = some p.2 := by
 obtain ⟨b,hb,e⟩ := List.mem_filterMap.mp hp
 cases q : h.get? b with
 | none=>rw [q] at e; cases e
 | some o =>
  rw [q] at e
  have e' : (b,o) = p := Option.some.inj e
  subst e'
  exact ⟨hb,q⟩
theorem Inv.pinned {pins : List (Addr × Obj)} {σ : St} {H : Hp} {s : Shared} {fp : List Addr} (I : Inv X pins σ H s) (hf : ∀ b ∈ fp,S8 X pins H b) (ho : ∀ b ∈ fp,∃ o,s.heap.get? b = some o ∧ ∀ v,o.data ≠ .cell v) : Inv X (pins ++ bB fp s.heap) σ H s :=
 I.pins_of fun p hp=>(List.mem_append.mp hp).elim (fun z=>I.pin p (List.mem_append_right _ z)) fun z=>by
  obtain ⟨hb,e⟩ := yF z
  obtain ⟨f0,f1,f2,_⟩ := hf p.1 hb
  obtain ⟨o,e',d⟩ := ho p.1 hb
  rw [e] at e'; cases e'
  exact ⟨e,f0,f1,f2,d⟩
theorem Inv.unpinned {pins pl : List (Addr × Obj)} {σ : St} {H : Hp} {s : Shared} (I : Inv X (pins ++ pl) σ H s) : Inv X pins σ H s := I.pins_of fun p hp=>I.pin p (List.mem_append_right _ (List.mem_append_left _ hp))
theorem R9 {iter : Expr} {body : List Stmt} {wi : TI} {g : TG} {tb : TS} {pos : Pos} (hp : PassesOwn (model X.prog X.w) X.A X.env X.xe) (hc : X.calm = true) (hi : PI X tg iter wi) (hg : PG X tg g) (hb : PSs X body tb)
  (hs : ∀ x,foldedSetIterable iter X.env x = pure x := by intro _; rfl) : PS X (.For tg iter body [] pos) (BD5 wi g tb) := by
 intro pins s σ H D I h
 refine wpAny_For (J1 (hi pins s σ H _ I h) fun v s1 h1=>J1 h1 fun itv s2 h2=>?_) hs
 obtain ⟨it,fp,tn,J,H2,e,I2,T,st2,f2,W,⟨m0,w0⟩,turn⟩ := h2
 subst e
 have stat : ∀ {H' : Hp},(∀ b ∈ fp,H' b = none) → ∀ b ∈ fp,S8 X pins H' b := fun hn b hb=>⟨hn b hb,(f2 b hb).2⟩
 refine codeAny_forLoop_any (fun n s'=>∃ i σ' H',Inv X pins σ' H' s' ∧ tn i s'.heap ∧ (∀ b ∈ fp,H' b = none) ∧ W i n σ' H') ?_ m0 ⟨0,σ,H2,I2,st2,fun b hb=>(f2 b hb).1,w0⟩
 rintro n s3 ⟨i,σ3,H3,I3,st3,fr3,w3⟩
 rcases turn i n σ3 H3 w3 with ⟨stop,qn⟩ | ⟨go,N,hN,step⟩
 ·refine wpAny_passesOwn hp (J1 (T.done X rfl rfl rfl hc i pins s3 σ3 H3 X.xe I3 (stat fr3) st3 stop) fun r s4 ⟨hr,I4⟩=>?_)
  subst hr
  exact wpAny_execs_nil ⟨σ3,H3,I4,qn⟩
 ·refine wpAny_passesOwn hp (J1 (T.item X rfl rfl rfl hc i pins s3 σ3 H3 X.xe I3 (stat fr3) st3 go) fun r s4 ⟨u,hr,h4⟩=>?_)
  subst hr
  refine wpAny_passesOwn hp (J1 h4 fun _ s5 ⟨x,H5,I5,r5,y5,st5,fr5⟩=>?_)
  have I5' := I5.pinned (stat fr5) (T.obj _ _ st5)
  refine wpAny_passesOwn hp (J1 (hg _ s5 σ3 H5 x u _ I5' r5 (step x H5 y5)) fun _ s6 ⟨σ6,H6,I6,q6⟩=>?_)
  refine wpAny_passesOwn hp (J1 (hb _ s6 σ6 H6 _ I6 q6) fun f s7 q7=>?_)
  have again : ∀ {σ7 : St} {H7 : Hp},Inv X (pins ++ bB fp s5.heap) σ7 H7 s7 → N σ7 H7 → ∃ m,m < n ∧ ∃ i σ' H',Inv X pins σ' H' s7 ∧ tn i s7.heap ∧ (∀ b ∈ fp,H' b = none) ∧ W i m σ' H' := fun {σ7 H7} I7 n7=>by
   obtain ⟨m',hm,w7⟩ := hN σ7 H7 n7
   refine ⟨m',hm,i + 1,σ7,H7,I7.unpinned,T.keep _ _ _ st5 fun b hb o e=>(I7.pin (b,o) (List.mem_append_right _ (List.mem_append_right _ (aQ hb e)))).1,fun b hb=>?_,w7⟩
   obtain ⟨o,e,d⟩ := T.obj _ _ st5 b hb
   exact (I7.pin (b,o) (List.mem_append_right _ (List.mem_append_right _ (aQ hb e)))).2.1
  cases f with
  | next=>obtain ⟨σ7,H7,I7,n7⟩ := q7; exact again I7 n7
  | cont=>obtain ⟨σ7,H7,I7,n7⟩ := q7; exact again I7 n7
  | brk=>obtain ⟨σ7,H7,I7,q7⟩ := q7; exact ⟨σ7,H7,I7.unpinned,q7⟩
  | ret v=>obtain ⟨x7,σ7,H7,I7,r7,q7⟩ := q7; exact ⟨x7,σ7,H7,I7.unpinned,r7,q7⟩
end
theorem Y9 {K : PySem.W.Frag} {a : Addr} {xs : List V} {g : TG} {tb : TS} {D : fF} {σ : St} {H : Hp} (Pv : Nat → St → Hp → Prop) (h0 : Pv 0 σ H) (hl : ∀ i σ H,i ≤ xs.length → Pv i σ H → SqL K H a xs)
  (hs : ∀ i x σ H,xs[i]? = some x → Pv i σ H → g x σ H fun σ2 H2=>tb { D with nx := Pv (i + 1),ct := Pv (i + 1),bk := D.nx } σ2 H2) (hd : ∀ σ H,Pv xs.length σ H → D.nx σ H) :
  ∃ W : Nat → Nat → St → Hp → Prop,(∃ m,W 0 m σ H) ∧ ∀ i m σ H,W i m σ H →
   ((uO K a).stop i H ∧ D.nx σ H) ∨ ((uO K a).go i H ∧ ∃ N : St → Hp → Prop,(∀ σ' H',N σ' H' → ∃ m',m' < m ∧ W (i + 1) m' σ' H') ∧ ∀ x H',(uO K a).yld i H x H' → g x σ H' fun σ2 H2=>tb { D with nx := N,ct := N,bk := D.nx } σ2 H2) := by
 refine ⟨fun i m σ H=>m = xs.length - i ∧ i ≤ xs.length ∧ Pv i σ H,⟨xs.length,by simp,Nat.zero_le _,h0⟩,?_⟩
 rintro i m σ H ⟨rfl,hi,p⟩
 have q := hl i σ H hi p
 by_cases hlt : i < xs.length
 ·refine .inr ⟨⟨xs,xs[i],q,by simp [hlt]⟩,Pv (i + 1),fun σ' H' p'=>⟨xs.length - (i + 1),by omega,rfl,hlt,p'⟩,fun x H' y=>?_⟩
  obtain ⟨e,y⟩ := y
  subst e
  exact hs i x σ _ (y xs q) p
 ·have e : i = xs.length := by omega
  subst e
  exact .inl ⟨⟨xs,q,Nat.le_refl _⟩,hd σ H p⟩
theorem iM {K : PySem.W.Frag} {a : Addr} {xs : List V} {g : TG} {tb : TS} {D : fF} {σ : St} {H : Hp} (Pv : Nat → St → Hp → Prop) (h0 : Pv 0 σ H) (hl : ∀ i σ H,i ≤ xs.length → Pv i σ H → SqT K H a xs)
  (hs : ∀ i x σ H,xs[i]? = some x → Pv i σ H → g x σ H fun σ2 H2=>tb { D with nx := Pv (i + 1),ct := Pv (i + 1),bk := D.nx } σ2 H2) (hd : ∀ σ H,Pv xs.length σ H → D.nx σ H) :
  ∃ W : Nat → Nat → St → Hp → Prop,(∃ m,W 0 m σ H) ∧ ∀ i m σ H,W i m σ H →
   ((uN K a).stop i H ∧ D.nx σ H) ∨ ((uN K a).go i H ∧ ∃ N : St → Hp → Prop,(∀ σ' H',N σ' H' → ∃ m',m' < m ∧ W (i + 1) m' σ' H') ∧ ∀ x H',(uN K a).yld i H x H' → g x σ H' fun σ2 H2=>tb { D with nx := N,ct := N,bk := D.nx } σ2 H2) := by
 refine ⟨fun i m σ H=>m = xs.length - i ∧ i ≤ xs.length ∧ Pv i σ H,⟨xs.length,by simp,Nat.zero_le _,h0⟩,?_⟩
 rintro i m σ H ⟨rfl,hi,p⟩
 have q := hl i σ H hi p
 by_cases hlt : i < xs.length
 ·refine .inr ⟨⟨xs,xs[i],q,by simp [hlt]⟩,Pv (i + 1),fun σ' H' p'=>⟨xs.length - (i + 1),by omega,rfl,hlt,p'⟩,fun x H' y=>?_⟩
  obtain ⟨e,y⟩ := y
  subst e
  exact hs i x σ _ (y xs q) p
 ·have e : i = xs.length := by omega
  subst e
  exact .inl ⟨⟨xs,q,Nat.le_refl _⟩,hd σ H p⟩
theorem cF {lo : Int} {n : Nat} {g : TG} {tb : TS} {D : fF} {σ : St} {H : Hp} (Pv : Nat → St → Hp → Prop) (h0 : Pv 0 σ H)
  (hs : ∀ i σ H,i < n → Pv i σ H → g (.int (lo + i)) σ H fun σ2 H2=>tb { D with nx := Pv (i + 1),ct := Pv (i + 1),bk := D.nx } σ2 H2) (hd : ∀ σ H,Pv n σ H → D.nx σ H) :
  ∃ W : Nat → Nat → St → Hp → Prop,(∃ m,W 0 m σ H) ∧ ∀ i m σ H,W i m σ H →
   ((nM lo n).stop i H ∧ D.nx σ H) ∨ ((nM lo n).go i H ∧ ∃ N : St → Hp → Prop,(∀ σ' H',N σ' H' → ∃ m',m' < m ∧ W (i + 1) m' σ' H') ∧ ∀ x H',(nM lo n).yld i H x H' → g x σ H' fun σ2 H2=>tb { D with nx := N,ct := N,bk := D.nx } σ2 H2) := by
 refine ⟨fun i m σ H=>m = n - i ∧ i ≤ n ∧ Pv i σ H,⟨n,by simp,Nat.zero_le _,h0⟩,?_⟩
 rintro i m σ H ⟨rfl,hi,p⟩
 by_cases hlt : i < n
 ·refine .inr ⟨hlt,Pv (i + 1),fun σ' H' p'=>⟨n - (i + 1),by omega,rfl,hlt,p'⟩,fun x H' y=>?_⟩
  obtain ⟨e,y⟩ := y
  subst e y
  exact hs i σ _ hlt p
 ·have e : i = n := by omega
  subst e
  exact .inl ⟨Nat.le_refl _,hd σ H p⟩
end L2
namespace L2
open PySem PySem.Spec PyProof.Rows
abbrev R2 := V → V → Hp → VK → Prop
def Q1 (X : Cx) (f : Value → Value → Sem Value) (r : R2) : Prop :=
 ∀ (pins : List (Addr × Obj)) (s : Shared) (σ : St) (H : Hp) (x y : V) (v u : Value) (Q : VK),Inv X pins σ H s → RelV x v → RelV y u → r x y H Q →
  wpAny (model X.prog X.w) X.A (f v u) (EP X pins σ Q) X.xe s
def UnR (X : Cx) (f : Value → Sem Value) (r : V → Hp → VK → Prop) : Prop :=
 ∀ (pins : List (Addr × Obj)) (s : Shared) (σ : St) (H : Hp) (x : V) (v : Value) (Q : VK),Inv X pins σ H s → RelV x v → r x H Q →
  wpAny (model X.prog X.w) X.A (f v) (EP X pins σ Q) X.xe s
def S3 (X : Cx) (f : Value) (r : List V → Hp → VK → Prop) : Prop :=
 ∀ (pins : List (Addr × Obj)) (s : Shared) (σ : St) (H : Hp) (xs : List V) (us : List Value) (Q : VK),Inv X pins σ H s → Vals xs us → r xs H Q →
  wpAny (model X.prog X.w) X.A (call f us) (EP X pins σ Q) X.xe s
def U8 (r : R2) (ta tb : TE) : TE := fun σ H Q=>ta σ H fun x H1=>tb σ H1 fun y H2=>r x y H2 Q
def tUn (r : V → Hp → VK → Prop) (ta : TE) : TE := fun σ H Q=>ta σ H fun x H1=>r x H1 Q
def rI (C : Int → Int → Prop) (g : Int → Int → V) : R2 := fun x y H Q=>∃ i j,x = .int i ∧ y = .int j ∧ C i j ∧ Q (g i j) H
def iR (g : Int → Int → V) : R2 := fun x y H Q=>∃ i j,x = .int i ∧ y = .int j ∧ Q (g i j) H
def rU (g : Int → V) : V → Hp → VK → Prop := fun x H Q=>∃ i,x = .int i ∧ Q (g i) H
section
variable {X : Cx} {a b c : Expr} {ta tb tc : TE} {pos : Pos}
theorem AG2 (ha : PE X a ta) (hb : PE X b tb) {pins : List (Addr × Obj)} {s : Shared} {σ : St} {H : Hp} {R : V → V → Hp → Prop} (I : Inv X pins σ H s)
  (h : ta σ H fun x H1=>tb σ H1 fun y H2=>R x y H2) {Q : Value → Shared → Prop} {f : Value → Value → Sem Value}
  (hf : ∀ v u s2 x y H2,Inv X pins σ H2 s2 → RelV x v → RelV y u → R x y H2 → wpAny (model X.prog X.w) X.A (f v u) Q X.xe s2) :
  wpAny (model X.prog X.w) X.A (eval a X.env) (fun v s₁=>wpAny (model X.prog X.w) X.A (eval b X.env) (fun u s₂=>wpAny (model X.prog X.w) X.A (f v u) Q X.xe s₂) X.xe s₁) X.xe s := by
 refine J1 (ha pins s σ H _ I h) fun v s1 ⟨x,H1,I1,r1,q1⟩=>?_
 refine J1 (hb pins s1 σ H1 _ I1 q1) fun u s2 ⟨y,H2,I2,r2,q2⟩=>?_
 exact hf v u s2 x y H2 I2 r1 r2 q2
theorem J0 {op : Operator} {r : R2} (ho : Q1 X (binaryOp op) r) (ha : PE X a ta) (hb : PE X b tb) : PE X (.BinOp a op b pos) (U8 r ta tb) := by
 intro pins s σ H Q I h
 exact wpAny_BinOp (AG2 ha hb I h fun v u s2 x y H2 I2 rx ry q=>ho pins s2 σ H2 x y v u Q I2 rx ry q)
theorem oD {op : UnaryOp} {r : V → Hp → VK → Prop} (ho : UnR X (unaryOp op) r) (ha : PE X a ta) : PE X (.UnaryOp op a pos) (tUn r ta) := by
 intro pins s σ H Q I h
 exact UnaryOp_ (J1 (ha pins s σ H _ I h) fun v s1 ⟨x,H1,I1,r1,q1⟩=>ho pins s1 σ H1 x v Q I1 r1 q1)
theorem opI {f : Value → Value → Sem Value} {C : Int → Int → Prop} {g : Int → Int → Int}
  (rule : ∀ (i j : Int) (t u : Tok) (s : Shared) (Q : Value → Shared → Prop) (E : Value → Shared → Prop),C i j → Q (.int (g i j) s.toks) { s with toks := s.toks + 1 } → wpAny (model X.prog X.w) X.A (f (.int i t) (.int j u)) Q E s) :
  Q1 X f (rI C fun i j=>.int (g i j)) := by
 intro pins s σ H x y v u Q I rx ry h
 obtain ⟨i,j,rfl,rfl,hc,q⟩ := h
 obtain ⟨t,rfl⟩ := rx
 obtain ⟨t',rfl⟩ := ry
 exact rule i j t t' s _ _ hc ⟨.int (g i j),H,I.tok _,⟨_,rfl⟩,q⟩
theorem AU2 {f : Value → Value → Sem Value} {g : Int → Int → Int}
  (rule : ∀ (i j : Int) (t u : Tok) (s : Shared) (Q : Value → Shared → Prop) (E : Value → Shared → Prop),Q (.int (g i j) s.toks) { s with toks := s.toks + 1 } → wpAny (model X.prog X.w) X.A (f (.int i t) (.int j u)) Q E s) :
  Q1 X f (iR fun i j=>.int (g i j)) := by
 intro pins s σ H x y v u Q I rx ry h
 obtain ⟨i,j,rfl,rfl,q⟩ := h
 obtain ⟨t,rfl⟩ := rx
 obtain ⟨t',rfl⟩ := ry
 exact rule i j t t' s _ _ ⟨.int (g i j),H,I.tok _,⟨_,rfl⟩,q⟩
theorem AD2 {f : Value → Value → Sem Value} {g : Int → Int → Bool}
  (rule : ∀ (i j : Int) (t u : Tok) (s : Shared) (Q : Value → Shared → Prop) (E : Value → Shared → Prop),Q (.bool (g i j)) s → wpAny (model X.prog X.w) X.A (f (.int i t) (.int j u)) Q E s) :
  Q1 X f (iR fun i j=>.bl (g i j)) := by
 intro pins s σ H x y v u Q I rx ry h
 obtain ⟨i,j,rfl,rfl,q⟩ := h
 obtain ⟨t,rfl⟩ := rx
 obtain ⟨t',rfl⟩ := ry
 exact rule i j t t' s _ _ ⟨.bl (g i j),H,I,rfl,q⟩
def BG7 (i j : Int) : Prop := 0 < j ∧ j < 1073741824
def BG6 (i j : Int) : Prop := 0 ≤ j ∧ j ≤ 1000000 ∧ i.natAbs < 2 ^ 64
def CMul (i j : Int) : Prop := (-(2 ^ 64) < i ∧ i < 2 ^ 64) ∨ (-(2 ^ 64) < j ∧ j < 2 ^ 64)
theorem CMul.ok {i j : Int} (h : CMul i j) : IntMulOk i j := by
 rcases h with ⟨h1,h2⟩ | ⟨h1,h2⟩
 ·exact .of_left (intBits_le_64 h1 h2)
 ·exact .of_right (intBits_le_64 h1 h2)
theorem U3 : Q1 X (binaryOp .Add) (iR fun i j=>.int (i + j)) := AU2 fun _ _ _ _ _ _ _ q=>add_int q
theorem bF : Q1 X (binaryOp .Sub) (iR fun i j=>.int (i - j)) := AU2 fun _ _ _ _ _ _ _ q=>sub_int q
theorem Z9 : Q1 X (binaryOp .Mult) (rI CMul fun i j=>.int (i * j)) := opI fun _ _ _ _ _ _ _ hc q=>mul_int q hc.ok
theorem AM6 : Q1 X (binaryOp .FloorDiv) (rI BG7 fun i j=>.int (i / j)) := opI fun i j _ _ _ _ _ hc q=>by
 have h1 : (0 : Int) < j := hc.1
 have h2 : j < 1073741824 := hc.2
 exact floordiv_int (by omega) (by rw [Int.fdiv_eq_ediv_of_nonneg i (by omega)]; exact q) (.inl (PyProof.noPylong_small (by omega)))
theorem X7 : Q1 X (binaryOp .Mod) (rI (fun _ j=>0 < j) fun i j=>.int (i % j)) := opI fun i j _ _ _ _ _ hc q=>by
 have h1 : (0 : Int) < j := hc
 exact mod_int' (by omega) (by rw [Int.fmod_eq_emod_of_nonneg i (by omega)]; exact q)
theorem jQ : Q1 X (binaryOp .Pow) (rI BG6 fun i j=>.int (i ^ j.toNat)) := opI fun _ _ _ _ _ _ _ hc q=>pow_int_small hc.1 hc.2.1 hc.2.2 q
theorem unI {f : Value → Sem Value} {g : Int → Int}
  (rule : ∀ (i : Int) (t : Tok) (s : Shared) (Q : Value → Shared → Prop) (E : Value → Shared → Prop),Q (.int (g i) s.toks) { s with toks := s.toks + 1 } → wpAny (model X.prog X.w) X.A (f (.int i t)) Q E s) :
  UnR X f (rU fun i=>.int (g i)) := by
 intro pins s σ H x v Q I rx h
 obtain ⟨i,rfl,q⟩ := h
 obtain ⟨t,rfl⟩ := rx
 exact rule i t s _ _ ⟨.int (g i),H,I.tok _,⟨_,rfl⟩,q⟩
theorem jJ : UnR X (unaryOp .USub) (rU fun i=>.int (-i)) := unI fun _ _ _ _ _ q=>neg_int q
end
def AS1 : V → V → Bool
 | .non,.non=>true | .non,.int _=>true | .int _,.non=>true | .non,.bl _=>true | .bl _,.non=>true | .non,.str _=>true | .str _,.non=>true
 | .int _,.int _=>true | .bl _,.bl _=>true | .str _,.str _=>true | .byt _,.byt _=>true
 | .int _,.str _=>true | .str _,.int _=>true | .bl _,.str _=>true | .str _,.bl _=>true
 | _,_=>false
def rEq : R2 := fun x y H Q=>AS1 x y = true ∧ Q (.bl (decide (x = y))) H
def rNe : R2 := fun x y H Q=>AS1 x y = true ∧ Q (.bl (!decide (x = y))) H
theorem tZ {i j : Int} : decide (V.int i = V.int j) = (i == j) := by
 rw [Bool.eq_iff_iff]
 simp
theorem zN {i j : Bool} : decide (V.bl i = V.bl j) = (i == j) := by
 rw [Bool.eq_iff_iff]
 simp
theorem tY {i j : Str} : decide (V.str i = V.str j) = (i == j) := by
 rw [Bool.eq_iff_iff]
 simp
theorem uA {i j : Array UInt8} : decide (V.byt i = V.byt j) = (i.toList == j.toList) := by
 rw [Bool.eq_iff_iff]
 cases i
 cases j
 simp
section
variable {X : Cx} {a b c : Expr} {ta tb tc : TE} {pos : Pos}
theorem K7 {pins : List (Addr × Obj)} {σ : St} {H : Hp} {s : Shared} {Q : VK} {k k' : Bool} (I : Inv X pins σ H s) (q : Q (.bl k) H) (e : k = k') : EP X pins σ Q (.bool k') s := by
 subst e
 exact ⟨.bl k,H,I,rfl,q⟩
theorem J4 : Q1 X (compareOp .Eq) rEq := by
 intro pins s σ H x y v u Q I rx ry h
 obtain ⟨hs,q⟩ := h
 cases x with
 | non =>
  cases rx
  cases y with
  | non=>cases ry; exact PySem.EqNone.eq_none_none (K7 I q (by simp))
  | bl j=>cases ry; exact PySem.EqNone.eq_none_bool (K7 I q (by simp))
  | int j=>obtain ⟨t',rfl⟩ := ry; exact PySem.EqNone.eq_none_int (K7 I q (by simp))
  | str j=>obtain ⟨t',rfl⟩ := ry; exact PySem.EqNone.eq_none_str (K7 I q (by simp))
  | _=>exact absurd (show false = true from hs) Bool.false_ne_true
 | bl i =>
  cases rx
  cases y with
  | non=>cases ry; exact PySem.EqNone.eq_bool_none (K7 I q (by simp))
  | bl j=>cases ry; exact eq_bool (K7 I q zN)
  | str j=>obtain ⟨t',rfl⟩ := ry; exact PySem.EqMixed.eq_bool_str (K7 I q (by simp))
  | _=>exact absurd (show false = true from hs) Bool.false_ne_true
 | int i =>
  obtain ⟨t,rfl⟩ := rx
  cases y with
  | non=>cases ry; exact PySem.EqNone.eq_int_none (K7 I q (by simp))
  | int j=>obtain ⟨t',rfl⟩ := ry; exact eq_int (K7 I q tZ)
  | str j=>obtain ⟨t',rfl⟩ := ry; exact PySem.EqMixed.eq_int_str (K7 I q (by simp))
  | _=>exact absurd (show false = true from hs) Bool.false_ne_true
 | str i =>
  obtain ⟨t,rfl⟩ := rx
  cases y with
  | non=>cases ry; exact PySem.EqNone.eq_str_none (K7 I q (by simp))
  | bl j=>cases ry; exact PySem.EqMixed.eq_str_bool (K7 I q (by simp))
  | int j=>obtain ⟨t',rfl⟩ := ry; exact PySem.EqMixed.eq_str_int (K7 I q (by simp))
  | str j=>obtain ⟨t',rfl⟩ := ry; exact eq_str (K7 I q tY)
  | _=>exact absurd (show false = true from hs) Bool.false_ne_true
 | byt i =>
  obtain ⟨t,rfl⟩ := rx
  cases y with
  | byt j=>obtain ⟨t',rfl⟩ := ry; exact PySem.W.eq_bytes (K7 I q uA)
  | _=>exact absurd (show false = true from hs) Bool.false_ne_true
 | _=>cases y <;> exact absurd (show false = true from hs) Bool.false_ne_true
theorem AI3 : Q1 X (compareOp .NotEq) rNe := by
 intro pins s σ H x y v u Q I rx ry h
 obtain ⟨hs,q⟩ := h
 cases x with
 | non =>
  cases rx
  cases y with
  | non=>cases ry; exact PySem.EqNone.ne_none_none (K7 I q (by simp))
  | bl j=>cases ry; exact PySem.EqNone.ne_none_bool (K7 I q (by simp))
  | int j=>obtain ⟨t',rfl⟩ := ry; exact PySem.EqNone.ne_none_int (K7 I q (by simp))
  | str j=>obtain ⟨t',rfl⟩ := ry; exact PySem.EqNone.ne_none_str (K7 I q (by simp))
  | _=>exact absurd (show false = true from hs) Bool.false_ne_true
 | bl i =>
  cases rx
  cases y with
  | non=>cases ry; exact PySem.EqNone.ne_bool_none (K7 I q (by simp))
  | bl j=>cases ry; exact ne_bool (K7 I q (congrArg not zN))
  | str j=>obtain ⟨t',rfl⟩ := ry; exact PySem.EqMixed.ne_bool_str (K7 I q (by simp))
  | _=>exact absurd (show false = true from hs) Bool.false_ne_true
 | int i =>
  obtain ⟨t,rfl⟩ := rx
  cases y with
  | non=>cases ry; exact PySem.EqNone.ne_int_none (K7 I q (by simp))
  | int j=>obtain ⟨t',rfl⟩ := ry; exact ne_int (K7 I q (congrArg not tZ))
  | str j=>obtain ⟨t',rfl⟩ := ry; exact PySem.EqMixed.ne_int_str (K7 I q (by simp))
  | _=>exact absurd (show false = true from hs) Bool.false_ne_true
 | str i =>
  obtain ⟨t,rfl⟩ := rx
  cases y with
  | non=>cases ry; exact PySem.EqNone.ne_str_none (K7 I q (by simp))
  | bl j=>cases ry; exact PySem.EqMixed.ne_str_bool (K7 I q (by simp))
  | int j=>obtain ⟨t',rfl⟩ := ry; exact PySem.EqMixed.ne_str_int (K7 I q (by simp))
  | str j=>obtain ⟨t',rfl⟩ := ry; exact ne_str (K7 I q (congrArg not tY))
  | _=>exact absurd (show false = true from hs) Bool.false_ne_true
 | byt i =>
  obtain ⟨t,rfl⟩ := rx
  cases y with
  | byt j=>obtain ⟨t',rfl⟩ := ry; exact PySem.W.ne_bytes (K7 I q (congrArg not uA))
  | _=>exact absurd (show false = true from hs) Bool.false_ne_true
 | _=>cases y <;> exact absurd (show false = true from hs) Bool.false_ne_true
theorem Z3 : Q1 X (compareOp .Lt) (iR fun i j=>.bl (decide (i < j))) := AD2 fun _ _ _ _ _ _ _ q=>lt_int q
theorem jS : Q1 X (compareOp .LtE) (iR fun i j=>.bl (decide (i ≤ j))) := AD2 fun _ _ _ _ _ _ _ q=>le_int q
theorem bY : Q1 X (compareOp .Gt) (iR fun i j=>.bl (decide (j < i))) := AD2 fun _ _ _ _ _ _ _ q=>gt_int q
theorem AU0 : Q1 X (compareOp .Is) (fun x y H Q=>y = .non ∧ Q (.bl (decide (x = .non))) H) := by
 intro pins s σ H x y v u Q I rx ry h
 obtain ⟨rfl,q⟩ := h
 cases ry
 refine is_none_gen (K7 I q ?_)
 cases x <;> first
  | (cases rx; rfl)
  | (obtain ⟨t,rfl⟩ := rx; rfl)
theorem sY : Q1 X (compareOp .IsNot) (fun x y H Q=>y = .non ∧ Q (.bl (!decide (x = .non))) H) := by
 intro pins s σ H x y v u Q I rx ry h
 obtain ⟨rfl,q⟩ := h
 cases ry
 refine isnot_none_gen (K7 I q ?_)
 cases x <;> first
  | (cases rx; rfl)
  | (obtain ⟨t,rfl⟩ := rx; rfl)
theorem D7 (b : Expr) {op : CmpOp} (h : op ≠ .In := by decide) (h2 : op ≠ .NotIn := by decide) : behindInMarks op b = false := by
 have e1 : (op == CmpOp.In) = false := by cases op <;> first | rfl | exact absurd rfl h
 have e2 : (op == CmpOp.NotIn) = false := by cases op <;> first | rfl | exact absurd rfl h2
 cases b <;> simp [behindInMarks,e1,e2]
theorem J5 {op : CmpOp} {r : R2} (ho : Q1 X (compareOp op) r) (ha : PE X a ta) (hb : PE X b tb) (hm : behindInMarks op b = false) : PE X (.Compare a [op] [b] pos) (U8 r ta tb) := by
 intro pins s σ H Q I h
 exact wpAny_Compare1 (AG2 ha hb I h fun v u s2 x y H2 I2 rx ry q=>ho pins s2 σ H2 x y v u Q I2 rx ry q) hm
def gY (t : TE) : TT := fun σ H Q=>t σ H fun x H'=>∃ k,x = .bl k ∧ Q k H'
theorem E2 {op : CmpOp} {r : R2} (ho : Q1 X (compareOp op) r) (ha : PE X a ta) (hb : PE X b tb) (hm : behindInMarks op b = false) : PT X (.Compare a [op] [b] pos) (gY (U8 r ta tb)) := by
 intro pins s σ H Q I h
 refine wpAny_isTrue_Compare1 (J1 (ha pins s σ H _ I h) fun v s1 ⟨x,H1,I1,r1,q1⟩=>J1 (hb pins s1 σ H1 _ I1 q1) fun u s2 ⟨y,H2,I2,r2,q2⟩ =>
  J1 (ho pins s2 σ H2 x y v u _ I2 r1 r2 q2) fun c s3 ⟨z,H3,I3,r3,k,e,q3⟩=>?_) hm
 subst e
 cases r3
 exact wpAny_truthy_bool ⟨H3,I3,q3⟩
def AR8 (r r' : R2) (ta tb tc : TE) : TE := fun σ H Q=>ta σ H fun x H1=>tb σ H1 fun y H2=>r x y H2 fun z H3=>∃ k,z = .bl k ∧
 (if k = true then tc σ H3 fun w' H4=>r' y w' H4 Q else Q (.bl false) H3)
theorem AD1 {op op' : CmpOp} {r r' : R2} (ho : Q1 X (compareOp op) r) (ho' : Q1 X (compareOp op') r') (ha : PE X a ta) (hb : PE X b tb) (hc : PE X c tc)
  (hm : lastMarks [op,op'] [b,c] = false := by with_unfolding_all rfl) : PE X (.Compare a [op,op'] [b,c] pos) (AR8 r r' ta tb tc) := by
 intro pins s σ H Q I h
 refine Compare_chain (J1 (ha pins s σ H _ I h) fun v s1 ⟨x,H1,I1,r1,q1⟩=>chain_link (J1 (hb pins s1 σ H1 _ I1 q1) fun u s2 ⟨y,H2,I2,r2,q2⟩ =>
  J1 (ho pins s2 σ H2 x y v u _ I2 r1 r2 q2) fun d s3 ⟨z,H3,I3,r3,k,e,q3⟩=>?_)) hm
 subst e
 cases r3
 refine wpAny_truthy_bool ?_
 cases k with
 | false=>exact ite_ff ⟨.bl false,H3,I3,rfl,q3⟩
 | true=>exact ite_tt (chain_last (J1 (hc pins s3 σ H3 _ I3 q3) fun w' s4 ⟨z',H4,I4,r4,q4⟩=>ho' pins s4 σ H4 y z' u w' Q I4 r2 r4 q4))
theorem gH : (sizeLine : Nat) < 2 ^ 63 := by rw [sizeLine_eq]; decide
theorem aO : Q1 X (binaryOp .Add) (fun x y H Q=>∃ i j,x = .str i ∧ y = .str j ∧ i.length + j.length ≤ sizeLine ∧ Q (.str (i ++ j)) H) := by
 intro pins s σ H x y v u Q I rx ry h
 obtain ⟨i,j,rfl,rfl,hz,q⟩ := h
 obtain ⟨t,rfl⟩ := rx
 obtain ⟨t',rfl⟩ := ry
 exact add_str (fun t' tk=>⟨.str (i ++ j),H,I.tok _,⟨_,rfl⟩,q⟩) hz
theorem dQ {x : V} {us : List Value} (r : Vals [x] us) : ∃ u,us = [u] ∧ RelV x u := by
 cases r with
 | cons r1 r2=>cases r2; exact ⟨_,rfl,r1⟩
theorem jI {x y : V} {us : List Value} (r : Vals [x,y] us) : ∃ u w',us = [u,w'] ∧ RelV x u ∧ RelV y w' := by
 cases r with
 | cons r1 r2 =>
  cases r2 with
  | cons r3 r4=>cases r4; exact ⟨_,_,rfl,r1,r3⟩
theorem zV (hc : X.calm = true) : S3 X (.builtin "min") (fun xs H Q=>∃ i j,xs = [.int i,.int j] ∧ Q (.int (if j < i then j else i)) H) := by
 intro pins s σ H xs us Q I r h
 obtain ⟨i,j,rfl,q⟩ := h
 obtain ⟨u,w',rfl,⟨t,rfl⟩,⟨t',rfl⟩⟩ := jI r
 refine min_two_ints (I.ok.hd hc) fun h' tk k=>⟨_,H,I.kept k,?_,q⟩
 by_cases hj : j < i
 ·rw [if_pos hj,if_pos hj]; exact ⟨_,rfl⟩
 ·rw [if_neg hj,if_neg hj]; exact ⟨_,rfl⟩
theorem AG1 : S3 X (.builtin "ord") (fun xs H Q=>∃ x,xs = [.str x] ∧ x.length = 1 ∧ Q (.int (x.cps.getD 0 0 : Nat)) H) := by
 intro pins s σ H xs us Q I r h
 obtain ⟨x,rfl,hz,q⟩ := h
 obtain ⟨u,rfl,t,rfl⟩ := dQ r
 exact ord_of_one hz ⟨.int _,H,I.tok _,⟨_,rfl⟩,q⟩
end
end L2
namespace L2
open PySem PySem.Spec PyProof.Rows
section
variable {prog : Program} {w : World} {A : Around} {E : Value → Shared → Prop} {s : Shared} {K : PySem.W.Frag} {x dx C f : Addr} {mA : Str → Option Value} {name : Str} {v : Value}
end
theorem RelO.some_of {v : V} {o : Option Value} (r : RelO (some v) o) : ∃ u,o = some u ∧ RelV v u := by
 cases o with
 | none=>exact (show False from r).elim
 | some u=>exact ⟨u,rfl,r⟩
section
variable {P : Program} {w : World} {H H' : Hp} {h h' : Heap} {a C dx : Addr} {fs fs' : List (Str × V)}
end
section
variable {X : Cx} {pins : List (Addr × Obj)} {σ : St} {H : Hp} {s : Shared} {a C dx : Addr} {fs : List (Str × V)} {f : Str} {v : V} {A : Around} {E : Value → Shared → Prop}
end
section
variable {X : Cx} {o e value : Expr} {f : Str} {pos pos' tpos : Pos} {ta tv : TE}
end
section
variable {X : Cx} {pins : List (Addr × Obj)} {σ : St} {H : Hp} {s : Shared} {A : Around} {E : Value → Shared → Prop} {Q : Value → Shared → Prop} {c : Value} {b : Bool}
end
end L2
namespace L2
open PySem PySem.Spec PyProof.Rows
structure Room (k : Nat) (A : Around) : Prop where
 hd : A.handled = none
 dp : A.depth + 3 * k + 5 < recursionLimit
 un : A.units + 16 * k + 200 < cLine
theorem Room.mono {j k : Nat} {A : Around} (r : Room k A) (h : j ≤ k) : Room j A := ⟨r.hd,by have := r.dp; omega,by have := r.un; omega⟩
theorem Room.deeper {k : Nat} {A : Around} (r : Room (k + 1) A) (env : Env) : Room k (A.deeper env) :=
 ⟨r.hd,by have := r.dp; show A.depth + 1 + 3 * k + 5 < _; omega,by have := r.un; show A.units + 3 + 16 * k + 200 < _; omega⟩
theorem Room.depth {k : Nat} {A : Around} (r : Room k A) : A.depth < recursionLimit := by have := r.dp; omega
theorem Room.units {k : Nat} {A : Around} (r : Room k A) : A.units + 64 < cLine := by have := r.un; omega
def Y3 : TA := fun _ H Q=>Q [] H
def N5 (ta : TE) (tr : TA) : TA := fun σ H Q=>ta σ H fun x H1=>tr σ H1 fun xs H2=>Q (x :: xs) H2
section
variable {X : Cx} {e : Expr} {es : List Expr} {te : TE} {t : TA} {pos : Pos}
theorem A6 : PA X [] Y3 := fun _ _ _ _ H Q I h=>Calls.spliced_nil ⟨[],H,I,.nil,h⟩
theorem A0 (ha : PE X e te) (hr : PA X es t) (hs : starEach (e :: es) X.env = (false,eval e X.env) :: starEach es X.env := by rfl) : PA X (e :: es) (N5 te t) := by
 intro pos pins s σ H Q I h
 rw [hs]
 show wpAny _ _ (spliced ((false,eval e X.env) :: backTo pos (starEach es X.env))) _ _ s
 refine Calls.spliced_cons (J1 (ha pins s σ H _ I h) fun u s1 ⟨x,H1,I1,r1,q1⟩=>?_)
 exact J1 (hr pos pins s1 σ H1 _ I1 q1) fun us s2 ⟨xs,H2,I2,r2,q2⟩=>⟨x :: xs,H2,I2,.cons r1 r2,q2⟩
def fM (t : TA) : TE := fun σ H Q=>t σ H fun xs H1=>xs.length ≤ sizeLine ∧ ∀ p,H1 p = none → Q (.ref p) (upd H1 p (.tup xs))
def uU (t : TA) : TE := fun σ H Q=>t σ H fun xs H1=>xs.length ≤ sizeLine ∧ ∀ p,H1 p = none → Q (.ref p) (upd H1 p (.lst xs))
theorem G1 {x1} (h : PA X es t) : PE X (.Tuple es x1 pos) (fM t) := by
 intro pins s σ H Q I hq
 refine wpAny_Tuple_spliced (J1 (h pos pins s σ H _ I hq) fun us s1 ⟨xs,H1,I1,r,z,q⟩=>⟨by rw [← r.length]; exact z,?_⟩)
 have hf : H1 s1.heap.objs.size = none := I1.hok.fresh (Nat.le_refl _)
 refine ⟨.ref s1.heap.objs.size,upd H1 s1.heap.objs.size (.tup xs),I1.laid (t' := s1.toks) (fun b u e=>Heap.get?_push_of_some _ e) (Nat.le_refl _) ?_,rfl,q _ hf⟩
 exact ⟨z,us,r,⟨_,Heap.get?_push_size _ rfl,rfl,_,rfl⟩⟩
theorem P8 (h : PA X es t) : PE X (.List es pos) (uU t) := by
 intro pins s σ H Q I hq
 refine wpAny_List_spliced (J1 (h pos pins s σ H _ I hq) fun us s1 ⟨xs,H1,I1,r,z,q⟩=>⟨by rw [← r.length]; exact z,?_⟩)
 have hf : H1 s1.heap.objs.size = none := I1.hok.fresh (Nat.le_refl _)
 refine ⟨.ref s1.heap.objs.size,upd H1 s1.heap.objs.size (.lst xs),I1.laid (t' := s1.toks) (fun b u e=>Heap.get?_push_of_some _ e) (Nat.le_refl _) ?_,rfl,q _ hf⟩
 exact ⟨z,us,0,r,Heap.get?_push_size _ rfl⟩
end
abbrev Sp := List V → Hp → VK → XK → Prop
abbrev iV := List Env → Hp → Shared → XK → Value → Shared → Prop
structure wE (P : Program) (w : World) (K : PySem.W.Frag) (mg : Str → Option Value) (base : Heap) (A : Around) (outer : List Env) (s : Shared) (H : Hp) : Prop where
 frames : A.frames = some outer
 mod : Mod K mg base
 bs : ∀ b o,base.get? b = some o → s.heap.get? b = some o ∧ H b = none
 bsz : base.objs.size ≤ s.heap.objs.size
 funs : s.heap.FunFrames base outer
 frf : ∀ b ∈ fH outer,H b = none
 hok : HOk P w H s.heap
 bare : AllBare s.gens
def CE (outer : List Env) (P : Program) (w : World) (H : Hp) (s : Shared) (Q : VK) (u : Value) (s' : Shared) : Prop :=
 ∃ v H',s'.os = s.os ∧ AllBare s'.gens ∧ Un (fH outer) [] H H' s.heap s'.heap ∧ HOk P w H' s'.heap ∧ RelV v u ∧ Q v H'
def CR (CX : iV) (outer : List Env) (P : Program) (w : World) (H : Hp) (s : Shared) (Q : VK) (E : XK) (r : Result) (s' : Shared) : Prop :=
 match r with
 | .ok (.ret u)=>CE outer P w H s Q u s'
 | .ok _=>False
 | .error e=>CX outer H s E e s'
structure FnOk (P : Program) (w : World) (K : PySem.W.Frag) (mg : Str → Option Value) (base : Heap) (CX : iV) (k : Nat) (f : Addr) (fd : FuncData) (ps : List Str) (sp : Sp) : Prop where
 len : ∀ vs H Q E,sp vs H Q E → vs.length = ps.length
 run : ∀ (A : Around) (outer : List Env) (s : Shared) (H : Hp) (args : Args) (us : List Value) (vs : List V) (Q : VK) (E : XK),Room k A → wE P w K mg base A outer s H → BindsTo s fd args (ps.zip us) → Vals vs us → sp vs H Q E →
  codeAny (model P w) A (.call (.ref f) args) (CR CX outer P w H s Q E) s
theorem FnOk.mono {P : Program} {w : World} {K : PySem.W.Frag} {mg : Str → Option Value} {base : Heap} {CX : iV} {j k : Nat} {f : Addr} {fd : FuncData} {ps : List Str} {sp : Sp} (F : FnOk P w K mg base CX j f fd ps sp) (h : j ≤ k) :
  FnOk P w K mg base CX k f fd ps sp := ⟨F.len,fun A outer s H args us vs Q E hr=>F.run A outer s H args us vs Q E (hr.mono h)⟩
section
variable {X : Cx} {pins : List (Addr × Obj)} {σ : St} {H : Hp} {s s' : Shared}
theorem Inv.env0 (I : Inv X pins σ H s) : wE X.prog X.w X.K X.mg X.base X.A X.stack s H :=
 ⟨I.ok.frames,I.ok.mod,I.bs,Nat.le_trans I.ok.bsz I.sz,I.stack,I.stkFree,I.hok,I.bare⟩
theorem Inv.after {Q : VK} {u : Value} (I : Inv X pins σ H s) (h : CE X.stack X.prog X.w H s Q u s') : EP X pins σ Q u s' := by
 obtain ⟨v,H',os,bare,un,hok,r,q⟩ := h
 obtain ⟨hh,g,d,t,os'⟩ := s'
 obtain rfl : os' = s.os := os
 exact ⟨v,H',I.call (h' := hh) (g' := g) (d' := d) (t' := t) (ch := []) un hok bare (fun b z=>absurd z (by simp)),r,q⟩
end
def gZ (sp : Sp) (dvs : List V) (E : XK) (t : TA) : TE := fun σ H Q=>t σ H fun vs H1=>sp (vs ++ dvs) H1 Q E
def Binds (K : PySem.W.Frag) (fd : FuncData) (ps : List Str) (ds : List Value) : Prop :=
 ∀ (s : Shared) (us : List Value),K.In s.heap → (us ++ ds).length = ps.length → BindsTo s fd ⟨us,[]⟩ (ps.zip (us ++ ds))
theorem Binds.all {K : PySem.W.Frag} {fd : FuncData} {ps : List Str} (h : ∀ us : List Value,us.length = ps.length → bindArgs fd ⟨us,[]⟩ = pure (ps.zip us)) : Binds K fd ps [] := fun s us _ hl=>by
 rw [List.append_nil] at hl ⊢
 exact .of_eq (h us hl)
def rK (CX : iV) (X : Cx) (E : XK) : Prop := ∀ (pins : List (Addr × Obj)) (σ : St) (H : Hp) (s : Shared) (e : Value) (s' : Shared),Inv X pins σ H s → CX X.stack H s E e s' → X.xe e s'
section
variable {X : Cx} {CX : iV} {k : Nat} {f C : Addr} {fd : FuncData} {ps : List Str} {sp : Sp} {dvs : List V} {ds : List Value} {E : XK} {x m : Str} {p pos apos : Pos} {e o : Expr} {es : List Expr} {ta : TE} {t : TA}
theorem AT1 {pins : List (Addr × Obj)} {σ : St} {H : Hp} {s : Shared} {Q : VK} {us : List Value} {vs : List V} (F : FnOk X.prog X.w X.K X.mg X.base CX k f fd ps sp) (hr : Room k X.A) (hb : Binds X.K fd ps ds) (hd : Vals dvs ds) (hx : rK CX X E)
  (I : Inv X pins σ H s) (r : Vals vs us) (h : sp (vs ++ dvs) H Q E) : wpAny (model X.prog X.w) X.A (call (.ref f) us) (EP X pins σ Q) X.xe s := by
 have r2 : Vals (vs ++ dvs) (us ++ ds) := r.append hd
 have hl : (us ++ ds).length = ps.length := by rw [← r2.length]; exact F.len _ _ _ _ h
 refine wpAny_call (codeAny_mono (F.run X.A X.stack s H ⟨us,[]⟩ (us ++ ds) (vs ++ dvs) Q E hr I.env0 (hb s us I.kIn hl) r2 h) fun r s' hq=>?_)
 cases r with
 | error e=>exact hx pins σ H s e s' I hq
 | ok fl =>
  cases fl with
  | ret u=>exact I.after hq
  | next=>exact False.elim hq
  | brk=>exact False.elim hq
  | cont=>exact False.elim hq
theorem sW (F : FnOk X.prog X.w X.K X.mg X.base CX k f fd ps sp) (hr : Room k X.A) (hg : Gl X x) (hm : X.mg x = some (.ref f)) (hk : PySem.W.keepIn X.K (.ref f) = true) (hb : Binds X.K fd ps ds) (hd : Vals dvs ds) (hx : rK CX X E)
  (ha : PA X (e :: es) t) (hdb : (x == ("__debug__" : Str)) = false := by decide) (he : starEach (e :: es) X.env = (false,eval e X.env) :: starEach es X.env := by rfl) (hpl : (backTo pos (starEach es X.env)).any (·.1) = false := by rfl) :
  PE X (.Call (.Name x p) (e :: es) [] pos) (gZ sp dvs E t) := by
 intro pins s σ H Q I h
 refine wpAny_Call_Name_kw (tN I hg hm ?_ hdb)
 refine PySem.W.callWith_K (h₀ := X.base) I.ok.mod.kin hk (J1 (ha pos pins s σ H _ I h) fun us s1 ⟨vs,H1,I1,r,q⟩=>⟨I1.kIn,?_⟩) he hpl
 exact AT1 F hr hb hd hx I1 r q
end
section
variable {X : Cx} {CX : iV} {k : Nat} {f C : Addr} {fd : FuncData} {ps ks : List Str} {sp : Sp} {E : XK} {x m : Str} {p pos apos kpos : Pos} {e o : Expr} {es : List Expr} {kws : List Keyword} {te ta : TE} {t tk : TA} {nm : Option Str}
variable {g : List Value → List Value → List Value} {gV : List V → List V → List V}
end
structure G0 (N P : List Str) (sc : Scope) : Prop where
 kind : sc.kind = .function
 co : sc.isCoroutine = false
 gen : sc.isGenerator = false
 nd : N.Nodup
 pre : N.take P.length = P
 par : ∀ x ∈ P,sc.names.lookup x = some .local ∨ sc.names.lookup x = some .cell
 nofree : ∀ y ∈ sc.names,y.2 ≠ .free
theorem nB {kindOf : Str → Option NameKind} {x : Str} : ∀ {binds : List (Str × Value)} {m : Str → Option Value},(∀ v,(x,v) ∉ binds) → bindL kindOf binds m x = m x
 | [],_,_=>rfl
 | (n,v) :: r,m,h=>by
  unfold bindL
  rw [nB fun w hw=>h w (List.mem_cons_of_mem _ hw)]
  split
  ·have : x ≠ n := by rintro rfl; exact h v List.mem_cons_self
   simp [this]
  ·rfl
theorem nD {kindOf : Str → Option NameKind} {x : Str} : ∀ {binds : List (Str × Value)} {m : Str → Option Value},(∀ v,(x,v) ∉ binds) → bindC kindOf binds m x = m x
 | [],_,_=>rfl
 | (n,v) :: r,m,h=>by
  unfold bindC
  rw [nD fun w hw=>h w (List.mem_cons_of_mem _ hw)]
  split
  ·rfl
  ·have : x ≠ n := by rintro rfl; exact h v List.mem_cons_self
   simp [this]
theorem nC {kindOf : Str → Option NameKind} {x : Str} {v : Value} : ∀ {P : List Str} {vs : List Value} {i : Nat} {m : Str → Option Value},P.Nodup → P[i]? = some x → vs[i]? = some v → kindOf x = some .local →
  bindL kindOf (P.zip vs) m x = some v
 | [],_,_,_,_,h,_,_=>by simp at h
 | _ :: _,[],_,_,_,_,h,_=>by simp at h
 | p :: P,w :: vs,0,m,nd,h1,h2,hk=>by
  simp at h1 h2; subst h1; subst h2
  show bindL kindOf ((p,w) :: P.zip vs) m p = _
  unfold bindL
  rw [nB fun v hv=>(List.nodup_cons.mp nd).1 (List.of_mem_zip hv).1,if_pos hk]
  simp
 | p :: P,w :: vs,i + 1,m,nd,h1,h2,hk=>by
  show bindL kindOf ((p,w) :: P.zip vs) m x = _
  unfold bindL
  exact nC (i := i) (List.nodup_cons.mp nd).2 (by simpa using h1) (by simpa using h2) hk
theorem nE {kindOf : Str → Option NameKind} {x : Str} {v : Value} : ∀ {P : List Str} {vs : List Value} {i : Nat} {m : Str → Option Value},P.Nodup → P[i]? = some x → vs[i]? = some v → kindOf x ≠ some .local →
  bindC kindOf (P.zip vs) m x = some v
 | [],_,_,_,_,h,_,_=>by simp at h
 | _ :: _,[],_,_,_,_,h,_=>by simp at h
 | p :: P,w :: vs,0,m,nd,h1,h2,hk=>by
  simp at h1 h2; subst h1; subst h2
  show bindC kindOf ((p,w) :: P.zip vs) m p = _
  unfold bindC
  rw [nD fun v hv=>(List.nodup_cons.mp nd).1 (List.of_mem_zip hv).1,if_neg hk]
  simp
 | p :: P,w :: vs,i + 1,m,nd,h1,h2,hk=>by
  show bindC kindOf ((p,w) :: P.zip vs) m x = _
  unfold bindC
  exact nE (i := i) (List.nodup_cons.mp nd).2 (by simpa using h1) (by simpa using h2) hk
def start (N : List Str) (vs : List V) : St := vs.map some ++ List.replicate (N.length - vs.length) none
def jD (CX : iV) (P : Program) (w : World) (K : PySem.W.Frag) (mg : Str → Option Value) (base : Heap) (N : List Str) (qual : Str) (scope : Scope) (f : Addr) (cd : Value) (A : Around) (outer : List Env) (s : Shared) (H : Hp) (E : XK) : Cx where
 prog := P
 w := w
 K := K
 mg := mg
 base := base
 A := A.deeper (envOfC qual scope s.heap.objs.size f cd)
 N := N
 s₀ := s
 H₀ := H
 env := envOfC qual scope s.heap.objs.size f cd
 outer := outer
 stack := envOfC qual scope s.heap.objs.size f cd :: outer
 ex := []
 calm := true
 fn := fun _=>true
 pn := []
 xe := fun e s'=>wpAny (model P w) (A.deeper (envOfC qual scope s.heap.objs.size f cd)) (leaving (envOfC qual scope s.heap.objs.size f cd) e) (fun _ s''=>CX outer H s E e s'') (fun e' s''=>CX outer H s E e' s'') s'
theorem rB {sc : Scope} {n : Nat} {x : Str} (h : sc.names.lookup x = some .cell) : ∃ c,(cellsFrom n sc.names []).lookup x = some c := by
 have q := PySem.W.cellsFrom_some sc.names n [] (.inl h)
 exact Option.isSome_iff_exists.mp q
theorem yY {CX : iV} {P : Program} {w : World} {K : PySem.W.Frag} {mg : Str → Option Value} {base : Heap} {N ps : List Str} {qual : Str} {scope : Scope} {f : Addr} {cd : Value} {A : Around} {outer : List Env} {s s1 : Shared} {H : Hp} {E : XK} {us : List Value} {vs : List V}
  (S : G0 N ps scope) (hd : A.handled = none) (e0 : wE P w K mg base A outer s H) (hl : vs.length = ps.length) (r : Vals vs us)
  (x : InCallC s s.heap.objs.size (bindL (envOfC qual scope s.heap.objs.size f cd).kindOf (ps.zip us) fun _=>none) (cellsFrom (s.heap.objs.size + 1) scope.names []) (bindC (envOfC qual scope s.heap.objs.size f cd).kindOf (ps.zip us) fun _=>none) s1) :
  Inv (jD CX P w K mg base N qual scope f cd A outer s H E) [] (start N vs) H s1 := by
 have hpl : ps.length ≤ N.length := by have := congrArg List.length S.pre; rw [List.length_take] at this; omega
 obtain ⟨h1,tk,rfl,hk⟩ := x.done
 have noA : ∀ b : Addr,b ∉ (jD CX P w K mg base N qual scope f cd A outer s H E).ex := fun b z=>absurd (show b ∈ ([] : List Addr) from z) (by simp)
 refine ⟨⟨e0.mod,S.kind,rfl,rfl,Nat.le_refl _,fun y z c h1 h2=>?_,fun y hy=>?_,fun y c _ h=>?_,fun _=>hd,Around.frames_deeper e0.frames,.inr ⟨rfl,rfl⟩,fun b z=>absurd z (noA b),e0.bs,e0.bsz,fun b _ _=>noA b,fun b z=>absurd z (noA b),e0.funs,e0.frf⟩,
  rfl,e0.bare,Un.kept hk,⟨_,x.toInCall.ns,fun i y v h1 h2 h3=>?_⟩,fun y c h=>⟨_,x.cell y c h⟩,e0.hok.fresh (Nat.le_refl _),fun y c h=>?_,fun p hp=>absurd (show p ∈ ([] : List (Addr × Obj)) from hp) (by simp),e0.hok.kept hk,?_⟩
 ·exact name_of_addr x.apart (PySem.mem_of_lookup h1) (PySem.mem_of_lookup h2)
 ·have hy : scope.names.lookup y = some .cell ∨ scope.names.lookup y = some .free := hy
  rcases hy with hy | hy
  ·exact rB hy
  ·exact absurd rfl (S.nofree _ (PySem.mem_of_lookup hy))
 ·exact Nat.le_of_lt (x.above y c (PySem.mem_of_lookup h))
 ·have hi : i < vs.length := by
   unfold start at h2
   by_cases hi : i < vs.length
   ·exact hi
   ·rw [List.getElem?_append_right (by simpa using hi)] at h2
    rw [List.getElem?_replicate] at h2
    split at h2 <;> cases h2
  have ha : vs[i]? = some v := by
   unfold start at h2
   rw [List.getElem?_append_left (by simpa using hi),List.getElem?_map] at h2
   cases e : vs[i]? with
   | none=>rw [e] at h2; cases h2
   | some a=>rw [e] at h2; cases h2; rfl
  obtain ⟨u,hu,rv⟩ := r.get ha
  have hp : ps[i]? = some y := by
   rw [← S.pre,List.getElem?_take_of_lt (by omega)]; exact h1
  have ndP : ps.Nodup := by rw [← S.pre]; exact S.nd.sublist (List.take_sublist _ _)
  refine ⟨u,rv,?_⟩
  rcases S.par y (List.mem_of_getElem? hp) with k | k
  ·exact .inl ⟨k,nC ndP hp hu k⟩
  ·obtain ⟨c,e⟩ := rB (n := s.heap.objs.size + 1) k
   refine .inr ⟨.inl k,c,e,?_⟩
   have q := x.cell y c e
   rw [nE ndP hp hu (by show scope.names.lookup y ≠ _; rw [k]; decide)] at q
   exact q
 ·exact e0.hok.fresh (Nat.le_of_lt (x.above y c (PySem.mem_of_lookup h)))
 ·unfold start
  show _ = N.length
  rw [List.length_append,List.length_map,List.length_replicate]
  omega
theorem AJ5 {CX : iV} {P : Program} {w : World} {K : PySem.W.Frag} {mg : Str → Option Value} {base : Heap} {k : Nat} {f : Addr} {name qual : Str} {params : Arguments} {body : List Stmt} {scope : Scope} {dV kV doc pm cdv ct oc : Value} {an od : Option Addr}
  {osl : Array (Option Value)} {N ps : List Str} {sp : Sp} (lk : K.lookup f = some ⟨oc,od,.func (PySem.W.fnOf name qual params body scope dV kV doc pm an cdv ct),osl⟩) (hcd : PySem.W.codeIn K cdv qual = true) (S : G0 N ps scope)
  (len : ∀ vs H Q E,sp vs H Q E → vs.length = ps.length)
  (hbody : ∀ (A : Around) (outer : List Env) (s : Shared) (H : Hp) (vs : List V) (Q : VK) (E : XK),Room k (A.deeper (envOfC qual scope s.heap.objs.size f cdv)) → sp vs H Q E →
   ∃ t,PSs (jD CX P w K mg base N qual scope f cdv A outer s H E) body t ∧ t { nx := fun _ H'=>Q .non H',rt := Q } (start N vs) H) :
  FnOk P w K mg base CX (k + 1) f (PySem.W.fnOf name qual params body scope dV kV doc pm an cdv ct) ps sp := by
 refine ⟨len,fun A outer s H args us vs Q E hr e0 hb r hsp=>?_⟩
 have hl := len _ _ _ _ hsp
 have KX : K.In s.heap := e0.mod.kin.keeps fun b o e=>(e0.bs b o e).1
 have lim : s.heap.NoLimit := e0.mod.nolimit.keeps fun b o e=>(e0.bs b o e).1
 have hkind : ∀ y ∈ ps.zip us,scope.names.lookup y.1 = some .local ∨ (scope.names.lookup y.1 = some .cell ∧ ((cellsFrom (s.heap.objs.size + 1) scope.names []).lookup y.1).isSome = true) := fun ⟨n,v⟩ hy=>by
  rcases S.par n (List.of_mem_zip hy).1 with q | q
  ·exact .inl q
  ·exact .inr ⟨q,PySem.W.cellsFrom_some _ _ _ (.inl q)⟩
 refine codeAny_call_function hr.depth (KX _ _ lk) rfl S.co S.gen rfl (PySem.W.codeRec_of KX hcd) (hb _ _ _ _ ?_)
 refine wpAny_newFunctionEnv_cells S.kind hkind fun env he s1 x=>?_
 subst he
 refine ⟨lim.keeps x.toInCall.keep,codeAny_func ?_⟩
 obtain ⟨t,ht,hq⟩ := hbody A outer s H vs Q E (hr.deeper _) hsp
 have I : Inv (jD CX P w K mg base N qual scope f cdv A outer s H E) [] (start N vs) H s1 := yY S hr.hd e0 hl r x
 refine wpAny_mono (ht [] s1 (start N vs) H _ I hq) (fun fl s' hs=>?_) fun e s' hs=>hs
 have fin : ∀ {σ' : St} {H' : Hp} {v : V} {u : Value},Inv (jD CX P w K mg base N qual scope f cdv A outer s H E) [] σ' H' s' → RelV v u → Q v H' → CE outer P w H s Q u s' :=
  fun {σ' H' v u} J rv q=>⟨v,H',J.os,J.bare,J.base,J.hok,rv,q⟩
 cases fl with
 | ret u =>
  obtain ⟨v,σ',H',J,rv,q⟩ := hs
  exact fin J rv q
 | next =>
  obtain ⟨σ',H',J,q⟩ := hs
  exact fin (v := V.non) (u := Value.none) J rfl q
 | brk =>
  obtain ⟨_,_,_,q⟩ := hs
  exact False.elim q
 | cont =>
  obtain ⟨_,_,_,q⟩ := hs
  exact False.elim q
end L2
namespace L2
open PySem PySem.Spec PyProof.Rows
section
variable {X : Cx} {x : Str} {p pos : Pos} {e : Expr} {es : List Expr} {t : TA} {id T : String} {r : List V → Hp → VK → Prop}
def tCB (r : List V → Hp → VK → Prop) (t : TA) : TE := fun σ H Q=>t σ H fun vs H1=>r vs H1 Q
theorem K6 (hc : S3 X (.builtin id) r) (hg : Gl X x) (hm : X.mg x = none) (hv : bootBuiltins x = some (.builtin id)) (ha : PA X (e :: es) t) (hn : x ≠ "__name__" := by decide) (hdb : (x == ("__debug__" : Str)) = false := by decide)
  (he : starEach (e :: es) X.env = (false,eval e X.env) :: starEach es X.env := by rfl) (hpl : (backTo pos (starEach es X.env)).any (·.1) = false := by rfl) : PE X (.Call (.Name x p) (e :: es) [] pos) (tCB r t) := by
 intro pins s σ H Q I h
 refine wpAny_Call_Name_kw (aD I hg hm hv ?_ hn hdb)
 exact PyProof.Rows.callWith_builtin1 (J1 (ha pos pins s σ H _ I h) fun us s1 ⟨vs,H1,I1,r1,q1⟩=>hc pins s1 σ H1 vs us Q I1 r1 q1) he hpl
theorem O8 (hc : S3 X (.type T) r) (hg : Gl X x) (hm : X.mg x = none) (hv : bootBuiltins x = some (.type T)) (ha : PA X (e :: es) t) (hn : x ≠ "__name__" := by decide) (hdb : (x == ("__debug__" : Str)) = false := by decide)
  (he : starEach (e :: es) X.env = (false,eval e X.env) :: starEach es X.env := by rfl) (hpl : (backTo pos (starEach es X.env)).any (·.1) = false := by rfl) : PE X (.Call (.Name x p) (e :: es) [] pos) (tCB r t) := by
 intro pins s σ H Q I h
 refine wpAny_Call_Name_kw (aD I hg hm hv ?_ hn hdb)
 exact PyProof.Rows.callWith_type1 (J1 (ha pos pins s σ H _ I h) fun us s1 ⟨vs,H1,I1,r1,q1⟩=>hc pins s1 σ H1 vs us Q I1 r1 q1) he hpl
end
end L2
namespace HT
open PySem PyProof.Rows
def lexLt : List Int → List Int → Bool
 | [],[]=>false
 | [],_ :: _=>true
 | _ :: _,[]=>false
 | x :: xs,y :: ys=>if x = y then lexLt xs ys else decide (x < y)
theorem vS (x y : Int) (xs ys : List Int) : lexLt (x :: xs) (y :: ys) = if x = y then lexLt xs ys else decide (x < y) := rfl
theorem nQ : lexLt [] [] = false := rfl
theorem lP (y : Int) (ys : List Int) : lexLt [] (y :: ys) = true := rfl
theorem lQ (x : Int) (xs : List Int) : lexLt (x :: xs) [] = false := rfl
theorem eqAt_int (A : Around) (s : Shared) (a : Int) (t : Tok) (c : Int) (u : Tok) : ∃ e,SeqAt.EqAt A s (.int a t) (.int c u) e ∧ (e = true ↔ a = c) :=
 ⟨(a == c),SeqAt.EqAt.int_int a t c u,by simp⟩
theorem AC4 (A : Around) (s : Shared) (a : Int) (t : Tok) (c : Int) (u : Tok) (prog : Program) (w : World) (E : Value → Shared → Prop) (Q : Value → Shared → Prop) (h : Q (.bool (decide (a < c))) s) :
  wpAny (model prog w) A (richCompare .Lt (.int a t) (.int c u)) Q E s :=
 (PyProof.Rows.lt_int h : wpAny (model prog w) A (compareOp .Lt (.int a t) (.int c u)) Q E s)
section
open PySem.SeqAt
open PySem.AutoSeq1 (wpAny_loadPart')
open PySem.MeetsSeq PySem.MeetsSeq2 PySem.MeetsSeq3
theorem nO (l b : Addr) (items items2 : Array Value) (n n2 : Nat) (dd dd2 : Option Addr) (sl sl2 : Array (Option Value)) (ns ms : List Int) (hi : IntsAre items.toList ns) (hj : IntsAre items2.toList ms) :
  Meets (Builtin.«tuple.__lt__» ⟨[.ref l,.ref b],[]⟩)
   (fun _ R s=>s.heap.get? l = some { cls := .type "tuple",dict := dd,data := .seq items n,slots := sl } ∧ s.heap.get? b = some { cls := .type "tuple",dict := dd2,data := .seq items2 n2,slots := sl2 } ∧
    R (.ok (.ret (.bool (lexLt ns ms)))) s) :=
 .of_wp fun prog w A R s h=>by
  obtain ⟨hp,g,d,tk,os⟩ := s; obtain ⟨hl,hb,h⟩ := h
  have f2 := AutoSeq1.sub_tuple_tuple
  have z1 : items.size = ns.length := by rw [← hi.length]; simp
  have z2 : items2.size = ms.length := by rw [← hj.length]; simp
  wp_walk using wpAny_loadPart' hl,wpAny_loadPart' hb,wpAny_forIn_list _ (fun rest b s'=>b.1 = none ∧ s' = ⟨hp,g,d,tk,os⟩ ∧ ∃ (vs ws : List Value) (ns' ms' : List Int),rest = vs.zip ws ∧
   IntsAre vs ns' ∧ IntsAre ws ms' ∧ ns'.length + items2.size = ms'.length + items.size ∧ R (.ok (.ret (.bool (lexLt ns' ms')))) ⟨hp,g,d,tk,os⟩) _
  case turn =>
   rintro ⟨y,x⟩ rest b s' ⟨hb',rfl,vs,ws,ns',ms',hz,hvi,hwi,hlen,hR⟩
   cases hvi with
   | nil=>rw [List.zip_nil_left] at hz; cases hz
   | cons a t hvi' =>
    cases hwi with
    | nil=>rw [List.zip_nil_right] at hz; cases hz
    | cons c u hwi' =>
     rw [List.zip_cons_cons] at hz
     injection hz with hyx hrest
     injection hyx with hy hx
     subst hy hx
     rw [vS] at hR
     simp only [List.length_cons] at hlen
     obtain ⟨e,he,hiff⟩ := eqAt_int A.in1 ⟨hp,g,d,tk,os⟩ a t c u
     refine wpAny_bind (he prog w _ _ ?_)
     cases e with
     | true =>
      rw [if_pos (hiff.mp rfl)] at hR
      wp_walk
      exact ⟨rfl,rfl,_,_,_,_,hrest,hvi',hwi',by omega,hR⟩
     | false =>
      rw [if_neg (fun q=>absurd (hiff.mpr q) Bool.false_ne_true)] at hR
      have hri := AC4 A.in1 ⟨hp,g,d,tk,os⟩ a t c u prog w
      wp_walk using hri
      exact ⟨_,rfl,by simpa using hR⟩
  case fin =>
   rintro ⟨b1,b2⟩ s' ⟨hb',rfl,vs,ws,ns',ms',hz,hvi,hwi,hlen,hR⟩
   simp only at hb'
   subst hb'
   have hv : lexLt ns' ms' = decide (items.size < items2.size) := by
    cases hvi with
    | nil =>
     cases hwi with
     | nil =>
      simp only [List.length_nil] at hlen
      rw [nQ]
      exact (decide_eq_false (by omega)).symm
     | cons c u hw =>
      simp only [List.length_nil,List.length_cons] at hlen
      rw [lP]
      exact (decide_eq_true (by omega)).symm
    | cons a t hv =>
     cases hwi with
     | nil =>
      simp only [List.length_nil,List.length_cons] at hlen
      rw [lQ]
      exact (decide_eq_false (by omega)).symm
     | cons c u hw =>
      rw [List.zip_cons_cons] at hz
      cases hz
   rw [hv] at hR
   wp_walk
   exact ⟨_,rfl,by simpa [Builtin.Tuple.tupleCompareSizes] using hR⟩
  case h =>
   exact ⟨rfl,rfl,items.toList,items2.toList,ns,ms,rfl,hi,hj,by omega,h⟩
end
section
variable {prog : Program} {w : World} {A : Around} {E : Value → Shared → Prop} {s : Shared}
theorem lt_tupInts {l b : Addr} {items items2 : Array Value} {ns ms : List Int} {Q : Value → Shared → Prop} (hl : IsTup s.heap l items) (hb : IsTup s.heap b items2) (hi : IntsAre items.toList ns) (hj : IntsAre items2.toList ms)
  (hu : A.units < cLine) (h : Q (.bool (lexLt ns ms)) s) : wpAny (model prog w) A (compareOp .Lt (.ref l) (.ref b)) Q E s := by
 obtain ⟨⟨cls,dd,data,sl⟩,ho,hc,n,hd⟩ := id hl
 obtain ⟨⟨cls2,dd2,data2,sl2⟩,ho2,hc2,n2,hd2⟩ := id hb
 simp only at hc hd hc2 hd2
 subst hc hd hc2 hd2
 exact richCompare_meets_room (op := .Lt) ⟨_,ho,rfl⟩ ⟨_,ho2,rfl⟩ PySem.F.slot_tuple_lt PySem.F.entry_tuple_lt (PySem.F.args_tuple_lt_2 _ _) (nO l b items items2 n n2 dd dd2 sl sl2 ns ms hi hj)
  ⟨ho,ho2,show Value.bool (lexLt ns ms) ≠ Value.notImplemented ∧ Q (.bool (lexLt ns ms)) s from ⟨(fun x=>nomatch x),h⟩⟩ hu
theorem cat_tup {t b : Addr} {vs ws : List Value} {Q : Value → Shared → Prop} (ht : IsTup s.heap t vs.toArray) (hb : IsTup s.heap b ws.toArray) (hv : vs ≠ [])
  (h1 : ws = [] → Q (.ref t) s) (h2 : ws ≠ [] → Q (.ref s.heap.objs.size) { s with heap := s.heap.push { cls := .type "tuple",data := .seq (vs ++ ws).toArray } })
  (hsz : vs.length + ws.length ≤ sizeLine) : wpAny (model prog w) A (binaryOp .Add (.ref t) (.ref b)) Q E s := by
 obtain ⟨⟨cls,dd,data,sl⟩,ho,hc,n,hd⟩ := id ht
 obtain ⟨⟨cls2,dd2,data2,sl2⟩,ho2,hc2,n2,hd2⟩ := id hb
 simp only at hc hd hc2 hd2
 subst hc hd hc2 hd2
 have e : vs.toArray ++ ws.toArray = (vs ++ ws).toArray := by simp
 by_cases hw : ws = []
 ·exact concat_meets ⟨_,ho,rfl⟩ ⟨_,ho2,rfl⟩ noFill_tuple_add seq_tuple_add PySem.F.slot_tuple_add PySem.F.entry_tuple_add (PySem.F.args_tuple_add_2 _ _)
   (tuple_addW1 t b vs.toArray ws.toArray n n2 dd dd2 sl sl2 (by simpa using hv) (by simp [hw])) ⟨ho,ho2,h1 hw⟩
 ·refine concat_meets ⟨_,ho,rfl⟩ ⟨_,ho2,rfl⟩ noFill_tuple_add seq_tuple_add PySem.F.slot_tuple_add PySem.F.entry_tuple_add (PySem.F.args_tuple_add_2 _ _)
   (tuple_addW2 t b vs.toArray ws.toArray n n2 dd dd2 sl sl2 (by simpa using hv) (by simpa using hw) (by rw [List.size_toArray,List.size_toArray]; exact hsz)) ⟨ho,ho2,?_⟩
  rw [e]
  exact h2 hw
def sIx (n d : Nat) : Option Int → Nat
 | none=>d
 | some v=>if v < 0 then (v + (n : Int)).toNat else min v.toNat n
theorem sIx_none (n d : Nat) : sIx n d none = d := rfl
theorem sIx_nat (n d k : Nat) : sIx n d (some (k : Int)) = min k n := by
 show (if (k : Int) < 0 then ((k : Int) + (n : Int)).toNat else min (k : Int).toNat n) = min k n
 rw [if_neg (by omega),Int.toNat_natCast]
theorem AT0 (n d : Nat) (hd : d ≤ n) (o : Option Int) : sIx n d o ≤ n := by
 cases o with
 | none=>exact hd
 | some v =>
  show (if v < 0 then (v + (n : Int)).toNat else min v.toNat n) ≤ n
  by_cases hv : v < 0
  ·rw [if_pos hv]; omega
  ·rw [if_neg hv]; exact Nat.min_le_right _ _
theorem uD (v : Int) (n d : Nat) : (if v < 0 then max (v + (n : Int)) 0 else min v (n : Int)) = ((sIx n d (some v) : Nat) : Int) := by
 show (if v < 0 then max (v + (n : Int)) 0 else min v (n : Int)) = (((if v < 0 then (v + (n : Int)).toNat else min v.toNat n) : Nat) : Int)
 by_cases hv : v < 0
 ·simp only [if_pos hv]; omega
 ·simp only [if_neg hv]; omega
theorem wA (lo hi : Option Int) (n : Nat) : Builtin.Slice.sliceAdjust lo hi 1 (n : Int) = (((sIx n 0 lo : Nat) : Int),((sIx n n hi : Nat) : Int)) := by
 have h1 : ¬ ((1 : Int) < 0) := by omega
 unfold Builtin.Slice.sliceAdjust
 simp only [h1,if_false]
 refine Prod.ext ?_ ?_
 ·cases lo with
  | none=>rfl
  | some v=>exact uD v n 0
 ·cases hi with
  | none=>rfl
  | some v=>exact uD v n n
theorem vK (i j : Nat) : Builtin.Slice.slicePlaces (i : Int) (j : Int) 1 = j - i := by
 unfold Builtin.Slice.slicePlaces
 have h1 : (1 : Int) > 0 := by omega
 simp only [h1,if_true,Int.ediv_one]
 split <;> omega
theorem jL {v : Value} {o : Option Int} {Q : Option Int → Shared → Prop} (p : IsPart v o) (h : Q o s) : wpAny (model prog w) A (Builtin.Slice.slicePartIndex v) Q E s := by
 cases p with
 | none=>exact slicePart_none h
 | int i t=>exact slicePart_int h
theorem sliceApplied_gen {sl : Addr} {vl vu : Value} {lo hi : Option Int} {n : Nat} {Q : Int × Int × Nat → Shared → Prop} (hs : s.heap.IsSliceOf sl vl vu .none) (pl : IsPart vl lo) (pu : IsPart vu hi)
  (h : Q (((sIx n 0 lo : Nat) : Int),1,sIx n n hi - sIx n 0 lo) s) : wpAny (model prog w) A (Builtin.Slice.sliceApplied (.ref sl) (pure (n : Int))) Q E s := by
 obtain ⟨os,hos,hcs,hds⟩ := id hs
 unfold Builtin.Slice.sliceApplied Builtin.Slice.sliceFields
 refine wpAny_bind (wpAny_bind (wpAny_field hos hds (x := vl) rfl (wpAny_bind (wpAny_field hos hds (x := vu) rfl (wpAny_bind (wpAny_field hos hds (x := .none) rfl (wpAny_pure ?_)))))))
 refine wpAny_bind (slicePart_none ?_)
 show wpAny _ _ (if ((1 : Int) == 0) = true then _ else _) _ _ s
 rw [if_neg (by decide)]
 refine wpAny_bind (jL pl (wpAny_bind (jL pu (wpAny_bind (wpAny_pure ?_)))))
 show wpAny _ _ (match Builtin.Slice.sliceAdjust lo hi 1 (n : Int) with | (lo,hi)=>pure (lo,(1 : Int),Builtin.Slice.slicePlaces lo hi 1)) _ _ s
 rw [wA lo hi n]
 show wpAny _ _ (pure (((sIx n 0 lo : Nat) : Int),(1 : Int),Builtin.Slice.slicePlaces ((sIx n 0 lo : Nat) : Int) ((sIx n n hi : Nat) : Int) 1)) _ _ s
 rw [vK]
 exact wpAny_pure h
theorem AC8 (xs : Array Value) (i k : Nat) : ((List.range k).filterMap fun (m : Nat)=>xs[((i : Int) + (m : Int) * 1).toNat]?).toArray = ((xs.toList.drop i).take k).toArray := by
 have e : (fun (m : Nat)=>xs[((i : Int) + (m : Int) * 1).toNat]?) = fun m=>xs[i + m]? := by
  funext m
  have : ((i : Int) + (m : Int) * 1).toNat = i + m := by omega
  rw [this]
 rw [e]
 have := pick_run xs i k
 rw [List.filterMap_map] at this
 have e2 : ((fun x=>xs[x]?) ∘ fun x=>i + x) = fun m=>xs[i + m]? := rfl
 rw [e2] at this
 rw [this]
theorem getItem_tuple_cut {t sl : Addr} {items : Array Value} {vl vu : Value} {lo hi : Option Int} {Q : Value → Shared → Prop} (ht : IsTup s.heap t items) (hs : s.heap.IsSliceOf sl vl vu .none) (pl : IsPart vl lo) (pu : IsPart vu hi)
  (hw : ¬ (sIx items.size 0 lo = 0 ∧ sIx items.size items.size hi = items.size))
  (h : Q (.ref s.heap.objs.size) { s with heap := s.heap.push { cls := .type "tuple",data := .seq ((items.toList.drop (sIx items.size 0 lo)).take (sIx items.size items.size hi - sIx items.size 0 lo)).toArray } })
  (hsz : items.size ≤ sizeLine) : wpAny (model prog w) A (getItem (.ref t) (.ref sl)) Q E s := by
 have htake : sizeOk (.seq ((items.toList.drop (sIx items.size 0 lo)).take (sIx items.size items.size hi - sIx items.size 0 lo)).toArray) := by
  show ((items.toList.drop (sIx items.size 0 lo)).take (sIx items.size items.size hi - sIx items.size 0 lo)).toArray.size ≤ sizeLine
  rw [List.size_toArray,List.length_take,List.length_drop,Array.length_toList]
  omega
 have hj : sIx items.size items.size hi ≤ items.size := AT0 _ _ (Nat.le_refl _) hi
 obtain ⟨os,hos,hcs,hds⟩ := id hs
 have hTs : s.TypeIs (.ref sl) "slice" := ⟨os,hos,hcs⟩
 unfold getItem
 try with_reducible refine wpAny_holding ?_
 first | refine wpAny_bind (wpAny_pure ?_) | skip
 refine wpAny_bind (wpAny_sequenceKey ht.typeIs (by decide) ?_)
 refine wpAny_bind (wpAny_callSpecial?_slot (name := Str.ofString "__getitem__") ht.typeIs PyProof.Rows.slot_tuple_getitem
  (wpAny_call_entry PyProof.Rows.slot_tuple_getitem ht.typeIs entry_tuple_getitem ?_ (args_tuple_getitem _ _)))
 show wpAny _ _ (Builtin.Tuple.tupleItemsOf (.ref t) >>= _) _ _ s
 refine wpAny_bind (tupleItemsOf_ ht ?_)
 refine wpAny_bind (wpAny_typeOf hTs ?_)
 rw [if_pos (by decide)]
 refine wpAny_bind (sliceApplied_gen hs pl pu ?_)
 have hno : ¬ ((((sIx items.size 0 lo : Nat) : Int) == 0 && (1 : Int) == 1 && (sIx items.size items.size hi - sIx items.size 0 lo) == items.size) = true) := by
  intro q
  rw [Bool.and_eq_true,Bool.and_eq_true] at q
  have q1 : ((sIx items.size 0 lo : Nat) : Int) = 0 := eq_of_beq q.1.1
  have q2 : sIx items.size items.size hi - sIx items.size 0 lo = items.size := eq_of_beq q.2
  exact hw ⟨by omega,by omega⟩
 show wpAny _ _ (if (((sIx items.size 0 lo : Nat) : Int) == 0 && (1 : Int) == 1 && (sIx items.size items.size hi - sIx items.size 0 lo) == items.size) = true then _ else _) _ _ s
 rw [if_neg hno,AC8]
 first
  | exact wpAny_bind (m := Builtin.Tuple.tupleExact _) (wpAny_newObj_type (wpAny_pure ⟨_,rfl,wpAny_pure h⟩) htake)
  | exact wpAny_bind (m := Builtin.Tuple.tupleExact _) (wpAny_newObj_type (wpAny_bind (wpAny_pure (wpAny_pure ⟨_,rfl,wpAny_pure h⟩))) htake)
  | exact wpAny_bind (wpAny_bind (m := Builtin.Tuple.tupleExact _) (wpAny_newObj_type (wpAny_pure (wpAny_pure ⟨_,rfl,wpAny_pure h⟩)) htake))
  | exact wpAny_bind (wpAny_bind (m := Builtin.Tuple.tupleExact _) (wpAny_newObj_type (wpAny_pure ⟨_,rfl,wpAny_pure h⟩) htake))
end
end HT
namespace L2
open PySem PySem.Spec PyProof.Rows
abbrev TO := St → Hp → (Option Int → Hp → Prop) → Prop
def PO (X : Cx) (e : Option Expr) (t : TO) : Prop :=
 ∀ (pins : List (Addr × Obj)) (s : Shared) (σ : St) (H : Hp) (Q : Option Int → Hp → Prop),Inv X pins σ H s → t σ H Q →
  wpAny (model X.prog X.w) X.A (evalPart e X.env) (fun u s'=>∃ o H',Inv X pins σ H' s' ∧ IsPart u o ∧ Q o H') X.xe s
def AK9 : TO := fun _ H Q=>Q none H
def AZ1 (t : TE) : TO := fun σ H Q=>t σ H fun x H1=>∃ i,x = .int i ∧ Q (some i) H1
theorem vU {ns : List Int} : ∀ {us : List Value},Vals (ns.map V.int) us → IntsAre us ns := by
 induction ns with
 | nil=>intro us r; rw [List.map_nil] at r; cases r; exact .nil
 | cons n ns ih =>
  intro us r
  rw [List.map_cons] at r
  cases r with
  | cons r1 r2 =>
   obtain ⟨t,e⟩ := r1
   subst e
   exact .cons n t (ih r2)
section
variable {X : Cx} {e : Expr} {te : TE} {lo hi : Option Expr} {tl th : TO} {pos p2 : Pos}
theorem dG : PO X none AK9 := by
 intro pins s σ H Q I h
 rw [evalPart_none]
 exact wpAny_pure ⟨none,H,I,.none,h⟩
theorem dF (h : PE X e te) : PO X (some e) (AZ1 te) := by
 intro pins s σ H Q I hw
 rw [evalPart_some]
 refine J1 (h pins s σ H _ I hw) fun u s1 ⟨x,H1,I1,r1,q1⟩=>?_
 obtain ⟨i,rfl,q⟩ := q1
 obtain ⟨t,rfl⟩ := r1
 exact ⟨some i,H1,I1,.int i t,q⟩
def uJ (X : Cx) (r : V → Option Int → Option Int → Hp → VK → Prop) : Prop :=
 ∀ (pins : List (Addr × Obj)) (s : Shared) (σ : St) (H : Hp) (x : V) (v vl vu : Value) (lo hi : Option Int) (sl : Addr) (Q : VK),Inv X pins σ H s → RelV x v → s.heap.IsSliceOf sl vl vu .none → IsPart vl lo → IsPart vu hi → r x lo hi H Q →
  ∃ T id,typeLookup (.type T) "__getitem__" = pure (some (.builtin id)) ∧ s.TypeIs v T ∧ wpAny (model X.prog X.w) X.A (getItem v (.ref sl)) (EP X pins σ Q) X.xe s
def tSl (r : V → Option Int → Option Int → Hp → VK → Prop) (te : TE) (tl th : TO) : TE := fun σ H Q=>te σ H fun x H1=>tl σ H1 fun l H2=>th σ H2 fun u H3=>r x l u H3 Q
theorem bD {r : V → Option Int → Option Int → Hp → VK → Prop} (hr : uJ X r) (he : PE X e te) (hl : PO X lo tl) (hu : PO X hi th) : PE X (.Subscript e (.Slice lo hi none p2) pos) (tSl r te tl th) := by
 intro pins s σ H Q I h
 refine Subscript_ (J1 (he pins s σ H _ I h) fun v s1 ⟨x,H1,I1,r1,q1⟩=>?_)
 refine wpAny_Slice (J1 (hl pins s1 σ H1 _ I1 q1) fun vl s2 ⟨l,H2,I2,pl,q2⟩=>J1 (hu pins s2 σ H2 _ I2 q2) fun vu s3 ⟨u,H3,I3,pu,q3⟩=>?_)
 rw [evalPart_none]
 refine wpAny_pure ?_
 have I4 : Inv X pins σ H3 { s3 with heap := s3.heap.push { cls := .type "slice",data := .fields #[vl,vu,.none] } } := I3.kept (t' := s3.toks) fun b ob q=>Heap.get?_push_of_some _ q
 obtain ⟨T,id,hT,ht,hg⟩ := hr pins { s3 with heap := s3.heap.push { cls := .type "slice",data := .fields #[vl,vu,.none] } } σ H3 x v vl vu l u s3.heap.objs.size Q I4 r1 (Heap.IsSliceOf.new ..) pl pu q3
 show wpAny (model X.prog X.w) X.A (subscriptTail e (.Slice lo hi none p2) v (.ref s3.heap.objs.size)) (EP X pins σ Q) X.xe { s3 with heap := s3.heap.push { cls := .type "slice",data := .fields #[vl,vu,.none] } }
 exact tail_any (ops := [.ref s3.heap.objs.size,v]) ht hT hg (by with_unfolding_all rfl)
def V4 (xs : List V) (lo hi : Option Int) : List V := (xs.drop (HT.sIx xs.length 0 lo)).take (HT.sIx xs.length xs.length hi - HT.sIx xs.length 0 lo)
theorem iU (xs : List V) (lo hi : Option Int) : (V4 xs lo hi).length ≤ xs.length := by
 unfold V4
 rw [List.length_take,List.length_drop]
 omega
def BE3 (K : PySem.W.Frag) : V → Option Int → Option Int → Hp → VK → Prop := fun x lo hi H Q=>∃ a xs,x = .ref a ∧ SqT K H a xs ∧
 ¬ (HT.sIx xs.length 0 lo = 0 ∧ HT.sIx xs.length xs.length hi = xs.length) ∧ ∀ p,H p = none → Q (.ref p) (upd H p (.tup (V4 xs lo hi)))
theorem xG : uJ X (BE3 X.K) := by
 intro pins s σ H x v vl vu lo hi sl Q I rx hs pl pu h
 obtain ⟨a,xs,rfl,hx,hw,q⟩ := h
 cases rx
 obtain ⟨its,r,ht,hz⟩ := I.tuple hx
 have hlen : its.toArray.size = xs.length := by rw [List.size_toArray]; exact r.length.symm
 refine ⟨"tuple",_,PyProof.Rows.slot_tuple_getitem.lookup,ht.typeIs,?_⟩
 refine HT.getItem_tuple_cut ht hs pl pu (by rw [hlen]; exact hw) ?_ (by rw [hlen]; exact hz)
 rw [hlen]
 refine ⟨.ref s.heap.objs.size,_,I.laid (t' := s.toks) (o := .tup (V4 xs lo hi)) (fun b ob q=>Heap.get?_push_of_some _ q) (Nat.le_refl _) ?_,rfl,q _ (I.hok.fresh (Nat.le_refl _))⟩
 exact ⟨Nat.le_trans (iU xs lo hi) hz,_,(r.drop (HT.sIx xs.length 0 lo)).take (HT.sIx xs.length xs.length hi - HT.sIx xs.length 0 lo),IsTup.new _ _⟩
def BA5 (K : PySem.W.Frag) : R2 := fun x y H Q=>∃ a b xs ys,x = .ref a ∧ y = .ref b ∧ SqT K H a xs ∧ SqT K H b ys ∧ xs ≠ [] ∧ xs.length + ys.length ≤ sizeLine ∧
 (ys = [] → Q (.ref a) H) ∧ (ys ≠ [] → ∀ p,H p = none → Q (.ref p) (upd H p (.tup (xs ++ ys))))
theorem Vals.nil_iff {xs : List V} {us : List Value} (r : Vals xs us) : us = [] ↔ xs = [] := by
 cases r with
 | nil=>simp
 | cons _ _=>simp
theorem AM7 : Q1 X (binaryOp .Add) (BA5 X.K) := by
 intro pins s σ H x y v u Q I rx ry h
 obtain ⟨a,b,xs,ys,rfl,rfl,ha,hb,hx,hz,q1,q2⟩ := h
 cases rx
 cases ry
 obtain ⟨its,r1,p1,_⟩ := I.tuple ha
 obtain ⟨its2,r2,p2,_⟩ := I.tuple hb
 refine HT.cat_tup p1 p2 (fun z=>hx (r1.nil_iff.mp z)) (fun z=>⟨.ref a,H,I,rfl,q1 (r2.nil_iff.mp z)⟩) (fun z=>?_) (by rw [← r1.length,← r2.length]; exact hz)
 refine ⟨.ref s.heap.objs.size,_,I.laid (t' := s.toks) (o := .tup (xs ++ ys)) (fun b ob q=>Heap.get?_push_of_some _ q) (Nat.le_refl _) ?_,rfl,q2 (fun w=>z (r2.nil_iff.mpr w)) _ (I.hok.fresh (Nat.le_refl _))⟩
 exact ⟨by rw [List.length_append]; exact hz,_,r1.append r2,IsTup.new _ _⟩
end
end L2
namespace L2
open PySem PySem.Spec PyProof.Rows
def gJ (n : Nat) (i : Int) : Option Nat := if 0 ≤ i then (if i < n then some i.toNat else none) else if -(n : Int) ≤ i then some (i + n).toNat else none
def Y0 {α : Type} (xs : List α) (i : Int) : Option α := (gJ xs.length i).bind fun j=>xs[j]?
theorem tP {n : Nat} {i : Int} {j : Nat} (h : gJ n i = some j) : seqIndex? i n = some j ∧ j < n ∧ -(n : Int) ≤ i ∧ i < n := by
 unfold gJ at h
 by_cases h0 : 0 ≤ i
 ·rw [if_pos h0] at h
  by_cases h1 : i < n
  ·rw [if_pos h1] at h
   have e : i.toNat = j := Option.some.inj h
   exact ⟨by rw [seqIndex_of h0 h1,e],by omega,by omega,h1⟩
  ·rw [if_neg h1] at h; cases h
 ·rw [if_neg h0] at h
  by_cases h1 : -(n : Int) ≤ i
  ·rw [if_pos h1] at h
   have e : (i + n).toNat = j := Option.some.inj h
   exact ⟨by rw [seqIndex_neg (by omega) h1,e],by omega,h1,by omega⟩
  ·rw [if_neg h1] at h; cases h
theorem lT {α : Type} {xs : List α} {i : Int} {v : α} (h : Y0 xs i = some v) : ∃ j,seqIndex? i xs.length = some j ∧ xs[j]? = some v ∧ j < xs.length ∧ -(xs.length : Int) ≤ i ∧ i < xs.length := by
 unfold Y0 at h
 cases e : gJ xs.length i with
 | none=>rw [e] at h; cases h
 | some j =>
  rw [e] at h
  obtain ⟨h1,h2,h3,h4⟩ := tP e
  exact ⟨j,h1,h,h2,h3,h4⟩
theorem Q7 {α : Type} {xs : List α} {j : Nat} {v : α} (h : xs[j]? = some v) : Y0 xs (j : Int) = some v := by
 have hj : j < xs.length := (List.getElem?_eq_some_iff.mp h).1
 have e : gJ xs.length (j : Int) = some j := by
  unfold gJ
  rw [if_pos (by omega),if_pos (by omega)]; simp
 unfold Y0; rw [e]; exact h
theorem jE {α : Type} (xs : List α) (v : α) : Y0 (xs ++ [v]) (-1) = some v := by
 have hl : (xs ++ [v]).length = xs.length + 1 := by simp
 have e : gJ (xs ++ [v]).length (-1) = some xs.length := by
  unfold gJ
  rw [hl,if_neg (by decide),if_pos (by omega)]
  congr 1
  omega
 unfold Y0
 rw [e]
 show (xs ++ [v])[xs.length]? = some v
 simp
def AQ7 (b : Expr) : Prop := ∀ o i,subscripted b false o i = operate [o,i] (getItem o i)
def IxR (X : Cx) (r : R2) : Prop :=
 ∀ (value slice : Expr) (pins : List (Addr × Obj)) (s : Shared) (σ : St) (H : Hp) (x y : V) (v u : Value) (Q : VK),Inv X pins σ H s → RelV x v → RelV y u → r x y H Q →
  subscripted slice false v u = operate [v,u] (getItem v u) → wpAny (model X.prog X.w) X.A (subscriptTail value slice v u) (EP X pins σ Q) X.xe s
def MtR (X : Cx) (id : String) (r : V → List V → Hp → VK → Prop) : Prop :=
 ∀ (pins : List (Addr × Obj)) (s : Shared) (σ : St) (H : Hp) (x : V) (xs : List V) (v : Value) (us : List Value) (Q : VK),Inv X pins σ H s → RelV x v → Vals xs us → r x xs H Q →
  wpAny (model X.prog X.w) X.A (call (.builtin id) (v :: us)) (EP X pins σ Q) X.xe s
section
variable {X : Cx} {a b : Expr} {ta tb : TE} {pos : Pos}
theorem D9 {r : R2} (hr : IxR X r) (ha : PE X a ta) (hb : PE X b tb) (hs : AQ7 b) : PE X (.Subscript a b pos) (U8 r ta tb) := by
 intro pins s σ H Q I h
 exact Subscript_ (AG2 ha hb I h fun v u s2 x y H2 I2 rx ry q=>hr a b pins s2 σ H2 x y v u Q I2 rx ry q (hs _ _))
def BE9 (K : PySem.W.Frag) : R2 := fun x y H Q=>∃ p xs i v,x = .ref p ∧ y = .int i ∧ SqL K H p xs ∧ Y0 xs i = some v ∧ Q v H
def eL (K : PySem.W.Frag) : R2 := fun x y H Q=>∃ p xs i v,x = .ref p ∧ y = .int i ∧ SqT K H p xs ∧ Y0 xs i = some v ∧ Q v H
def BE8 : R2 := fun x y H Q=>∃ z i c,x = .str z ∧ y = .int i ∧ z.length ≤ sizeLine ∧ Y0 z.cps.toList i = some c ∧ Q (.str ⟨#[c]⟩) H
theorem M7 : IxR X (BE9 X.K) := by
 intro value slice pins s σ H x y v u Q I rx ry h hs
 obtain ⟨p,xs,i,z,rfl,rfl,hq,he,q⟩ := h
 cases rx
 obtain ⟨t,rfl⟩ := ry
 obtain ⟨its,r,pl,hz⟩ := I.list hq
 obtain ⟨j,h1,h2,h3,h4,h5⟩ := lT he
 obtain ⟨w,ew,rw'⟩ := r.get h2
 have hl := r.length
 have hn := gH
 have fin : EP X pins σ Q w s := ⟨z,H,I,rw',q⟩
 by_cases h0 : 0 ≤ i
 ·have hj : i.toNat = j := by
   rw [seqIndex_of h0 h5] at h1
   exact Option.some.inj h1
  exact item_listR pl.isList h0 (by omega) (by rw [hj]; simpa using ew) fin hs
 ·have hj : (i + (its.toArray.size : Int)).toNat = j := by
   rw [seqIndex_neg (by omega) h4] at h1
   rw [List.size_toArray,← hl]
   exact Option.some.inj h1
  exact subscriptTail_builtinR (x := w) pl.isList.typeIs slot_list_getitem.lookup
   (wpAny_getItem_list_neg (Q := fun r s'=>r = w ∧ EP X pins σ Q r s') pl.isList (by omega) (by rw [List.size_toArray] <;> omega) (by omega) (by rw [hj]; simpa using ew) ⟨rfl,fin⟩) hs
theorem E8 : IxR X (eL X.K) := by
 intro value slice pins s σ H x y v u Q I rx ry h hs
 obtain ⟨p,xs,i,z,rfl,rfl,hq,he,q⟩ := h
 cases rx
 obtain ⟨t,rfl⟩ := ry
 obtain ⟨its,r,pl,hz⟩ := I.tuple hq
 obtain ⟨j,h1,h2,h3,h4,h5⟩ := lT he
 obtain ⟨w,ew,rw'⟩ := r.get h2
 have hl := r.length
 have hn := gH
 have fin : EP X pins σ Q w s := ⟨z,H,I,rw',q⟩
 exact subscriptTail_builtinR (x := w) pl.typeIs slot_tuple_getitem.lookup
  (getItem_tuple (j := j) (Q := fun r s'=>r = w ∧ EP X pins σ Q r s') pl (by omega) (by omega) (by rw [List.size_toArray,← hl]; exact h1) (by simpa using ew) ⟨rfl,fin⟩) hs
theorem yW : IxR X BE8 := by
 intro value slice pins s σ H x y v u Q I rx ry h hs
 obtain ⟨z,i,c,rfl,rfl,hz,he,q⟩ := h
 obtain ⟨t,rfl⟩ := rx
 obtain ⟨t',rfl⟩ := ry
 obtain ⟨j,h1,h2,h3,h4,h5⟩ := lT he
 have hl : z.cps.toList.length = z.length := by simp [Str.length]
 rw [hl] at h1 h4 h5
 have hn := gH
 exact tail_any (typeIs_str s z t) slot_str_getitem.lookup (getItem_str (c := c) (by
  have e1 : decide (i < -(2 ^ 63 : Int)) = false := decide_eq_false (by omega)
  have e2 : decide (i ≥ 2 ^ 63) = false := decide_eq_false (by omega)
  rw [e1,e2,Bool.or_false]) (by rw [h1]; simpa using h2) ⟨.str ⟨#[c]⟩,H,I.tok _,⟨_,rfl⟩,q⟩) hs
theorem vR (its : List Value) (n j : Nat) (u : Value) : Obj.mapSeq (·.setIfInBounds j u) { cls := .type "list",data := .seq its.toArray n } = { cls := .type "list",data := .seq (its.set j u).toArray n } := by
 simp [Obj.mapSeq]
theorem Inv.lst {pins : List (Addr × Obj)} {σ : St} {H : Hp} {s : Shared} {p : Addr} {xs : List V} (I : Inv X pins σ H s) (h : H p = some (.lst xs)) :
  ∃ (its : List Value) (n : Nat),Vals xs its ∧ s.heap.get? p = some { cls := .type "list",data := .seq its.toArray n } ∧ xs.length ≤ sizeLine := by
 obtain ⟨z,its,n,r,e⟩ := I.hok p _ h
 exact ⟨its,n,r,e,z⟩
theorem Inv.lstUpd {pins : List (Addr × Obj)} {σ : St} {H : Hp} {s : Shared} {p : Addr} {xs ys : List V} {its its' : List Value} {n n' : Nat} {f : Obj → Obj} (I : Inv X pins σ H s) (h : H p = some (.lst xs))
  (ho : s.heap.get? p = some { cls := .type "list",data := .seq its.toArray n }) (hf : f { cls := .type "list",data := .seq its.toArray n } = { cls := .type "list",data := .seq its'.toArray n' }) (r : Vals ys its') (hz : ys.length ≤ sizeLine) (t : Nat) :
  Inv X pins σ (upd H p (.lst ys)) { s with heap := s.heap.update p f,toks := t } := by
 have e : (s.heap.update p f).get? p = some { cls := .type "list",data := .seq its'.toArray n' } := by
  rw [Heap.get?_update_self f ho (by rw [hf] <;> rfl),hf]
 refine I.write (x := p) (e := p) (by rw [h]; trivial) (.inl rfl) (fun b u hb q=>(Heap.get?_update_other _ _ (Ne.symm hb)).trans q) ⟨_,e⟩ ?_
 exact ⟨hz,its',n',r,e⟩
def BA3 : V → V → V → Hp → (Hp → Prop) → Prop := fun o i v H Q=>∃ p xs k j,o = .ref p ∧ i = .int k ∧ H p = some (.lst xs) ∧ gJ xs.length k = some j ∧ Q (upd H p (.lst (xs.set j v)))
theorem pH : AY3 X BA3 := by
 intro pins s σ H o i v ov iv u Q I ro ri rv h
 obtain ⟨p,xs,k,j,rfl,rfl,hp,hj,q⟩ := h
 cases ro
 obtain ⟨t,rfl⟩ := ri
 obtain ⟨its,n,r,ho,hz⟩ := I.lst hp
 obtain ⟨h1,h2,h3,h4⟩ := tP hj
 have hl := r.length
 have hn := gH
 have I' : Inv X pins σ (upd H p (.lst (xs.set j v))) { s with heap := s.heap.update p (Obj.mapSeq (·.setIfInBounds j u)) } :=
  I.lstUpd hp ho (vR its n j u) (r.set rv j) (by rw [List.length_set]; exact hz) s.toks
 by_cases h0 : 0 ≤ k
 ·have hk : k.toNat = j := by
   rw [seqIndex_of h0 h4] at h1
   exact Option.some.inj h1
  exact PySem.W.ki_setAt ho h0 (by omega) (by rw [List.size_toArray,← hl]; exact h4) (by rw [hk]; exact ⟨_,I',q⟩)
 ·have hk : (k + (its.toArray.size : Int)).toNat = j := by
   rw [seqIndex_neg (by omega) h3] at h1
   rw [List.size_toArray,← hl]
   exact Option.some.inj h1
  exact PySem.W.ki_setBack ho (by omega) (by rw [List.size_toArray,← hl]; exact h3) (by omega) (by rw [hk]; exact ⟨_,I',q⟩)
theorem pF (lo hi : Option Int) (n : Nat) : (sliceBounds lo hi none n).1 = ((HT.sIx n 0 lo : Nat) : Int) ∧ (sliceBounds lo hi none n).2.1 = ((HT.sIx n n hi : Nat) : Int) ∧ (sliceBounds lo hi none n).2.2 = 1 := by
 refine ⟨?_,?_,rfl⟩
 ·cases lo with
  | none=>simp [sliceBounds,HT.sIx]
  | some i =>
   simp only [sliceBounds,HT.sIx,Option.getD_none,show (1 : Int) > 0 by decide,if_true]
   by_cases h : i < 0
   ·simp only [h,if_true] <;> omega
   ·simp only [h,if_false] <;> omega
 ·cases hi with
  | none=>simp [sliceBounds,HT.sIx]
  | some i =>
   simp only [sliceBounds,HT.sIx,Option.getD_none,show (1 : Int) > 0 by decide,if_true]
   by_cases h : i < 0
   ·simp only [h,if_true] <;> omega
   ·simp only [h,if_false] <;> omega
theorem nP (its : List Value) (lo hi : Option Int) : slicePick its.toArray lo hi none = ((its.drop (HT.sIx its.length 0 lo)).take (HT.sIx its.length its.length hi - HT.sIx its.length 0 lo)).toArray := by
 obtain ⟨h1,h2,h3⟩ := pF lo hi its.toArray.size
 unfold slicePick
 rw [h1,h2,h3]
 simp only [sliceRange_one,pick_run,List.size_toArray] <;> rfl
def BE4 (K : PySem.W.Frag) : V → Option Int → Option Int → Hp → VK → Prop := fun x lo hi H Q=>∃ a xs,x = .ref a ∧ SqL K H a xs ∧ ∀ p,H p = none → Q (.ref p) (upd H p (.lst (V4 xs lo hi)))
theorem sI : uJ X (BE4 X.K) := by
 intro pins s σ H x v vl vu lo hi sl Q I rx hs pl pu h
 obtain ⟨a,xs,rfl,hx,q⟩ := h
 cases rx
 obtain ⟨its,r,ht,hz⟩ := I.list hx
 have hlen := r.length
 refine ⟨"list",_,slot_list_getitem.lookup,ht.isList.typeIs,?_⟩
 refine wpAny_getItem_list_slice ht.isList hs pl pu .none (by simp) ?_ (by rw [List.size_toArray] <;> omega)
 rw [nP,← hlen]
 refine ⟨.ref s.heap.objs.size,_,I.laid (t' := s.toks) (o := .lst (V4 xs lo hi)) (fun b ob q=>Heap.get?_push_of_some _ q) (Nat.le_refl _) ?_,rfl,q _ (I.hok.fresh (Nat.le_refl _))⟩
 exact ⟨Nat.le_trans (iU xs lo hi) hz,_,0,(r.drop (HT.sIx xs.length 0 lo)).take (HT.sIx xs.length xs.length hi - HT.sIx xs.length 0 lo),Heap.get?_push_size _ rfl⟩
def Z4 : V → Bool
 | .non=>true
 | .bl _=>true
 | .int _=>true
 | .str _=>true
 | _=>false
def mW : V → V → Bool
 | .non,.non=>true
 | .bl a,.bl b=>a == b
 | .bl a,.int b=>(if a then 1 else 0) == b
 | .int a,.bl b=>a == (if b then 1 else 0)
 | .int a,.int b=>a == b
 | .str a,.str b=>a == b
 | _,_=>false
theorem AW8 {A : Around} {s : Shared} {y x : V} {u v : Value} (ry : RelV y u) (rx : RelV x v) (fy : Z4 y = true) (fx : Z4 x = true) : SeqAt.EqAt A s u v (mW y x) := by
 cases y with
 | non =>
  cases ry
  cases x with
  | non=>cases rx; exact SeqAt.EqAt.same _
  | bl b=>cases rx; exact SeqAt.EqAt.none_bool b
  | int b=>obtain ⟨t,rfl⟩ := rx; exact SeqAt.EqAt.none_int b t
  | str b=>obtain ⟨t,rfl⟩ := rx; exact SeqAt.EqAt.none_str b t
  | _=>exact absurd (show false = true from fx) Bool.false_ne_true
 | bl a =>
  cases ry
  cases x with
  | non=>cases rx; exact SeqAt.EqAt.bool_none a
  | bl b=>cases rx; exact SeqAt.EqAt.bool_bool a b
  | int b=>obtain ⟨t,rfl⟩ := rx; exact SeqAt.EqAt.bool_int a b t
  | str b=>obtain ⟨t,rfl⟩ := rx; exact SeqAt.EqAt.bool_str a b t
  | _=>exact absurd (show false = true from fx) Bool.false_ne_true
 | int a =>
  obtain ⟨t',rfl⟩ := ry
  cases x with
  | non=>cases rx; exact SeqAt.EqAt.int_none a t'
  | bl b=>cases rx; exact SeqAt.EqAt.int_bool a t' b
  | int b=>obtain ⟨t,rfl⟩ := rx; exact SeqAt.EqAt.int_int a t' b t
  | str b=>obtain ⟨t,rfl⟩ := rx; exact SeqAt.EqAt.int_str a t' b t
  | _=>exact absurd (show false = true from fx) Bool.false_ne_true
 | str a =>
  obtain ⟨t',rfl⟩ := ry
  cases x with
  | non=>cases rx; exact SeqAt.EqAt.str_none a t'
  | bl b=>cases rx; exact SeqAt.EqAt.str_bool a t' b
  | int b=>obtain ⟨t,rfl⟩ := rx; exact SeqAt.EqAt.str_int a t' b t
  | str b=>obtain ⟨t,rfl⟩ := rx; exact SeqAt.EqAt.str_str a t' b t
  | _=>exact absurd (show false = true from fx) Bool.false_ne_true
 | _=>exact absurd (show false = true from fy) Bool.false_ne_true
def bM (x : V) (u : Value) : Bool := match u with
 | .none=>mW .non x
 | .bool b=>mW (.bl b) x
 | .int i _=>mW (.int i) x
 | .str z _=>mW (.str z) x
 | _=>false
theorem zJ {x y : V} {u : Value} (r : RelV y u) (f : Z4 y = true) : bM x u = mW y x := by
 cases y with
 | non=>cases r; rfl
 | bl b=>cases r; rfl
 | int i=>obtain ⟨t,rfl⟩ := r; rfl
 | str z=>obtain ⟨t,rfl⟩ := r; rfl
 | _=>exact absurd (show false = true from f) Bool.false_ne_true
theorem dM {x : V} : ∀ {xs : List V} {us : List Value},Vals xs us → xs.all Z4 = true → us.any (bM x) = xs.any fun y=>mW y x
 | _,_,.nil,_=>rfl
 | y :: xs,u :: us,.cons r t,f=>by
  rw [List.all_cons,Bool.and_eq_true] at f
  rw [List.any_cons,List.any_cons,zJ r f.1,dM t f.2]
theorem bI {A : Around} {s : Shared} {x : V} {v : Value} (rx : RelV x v) (fx : Z4 x = true) : ∀ {xs : List V} {us : List Value},Vals xs us → xs.all Z4 = true → ∀ u ∈ us,SeqAt.EqAt A s u v (bM x u)
 | _,_,.nil,_=>fun u hu=>by cases hu
 | y :: xs,u :: us,.cons r t,f=>fun u' hu=>by
  rw [List.all_cons,Bool.and_eq_true] at f
  rcases List.mem_cons.mp hu with rfl | hu
  ·rw [zJ r f.1]; exact AW8 r rx f.1 fx
  ·exact bI rx fx t f.2 u' hu
def iT (x : V) (xs : List V) : Bool := xs.any fun y=>mW y x
def rIn (K : PySem.W.Frag) (neg : Bool) : R2 := fun x y H Q=>∃ p xs,y = .ref p ∧ (SqL K H p xs ∨ SqT K H p xs) ∧ Z4 x = true ∧ xs.all Z4 = true ∧ Q (.bl (if neg then !iT x xs else iT x xs)) H
theorem V3 : Q1 X (compareOp .In) (rIn X.K false) := by
 intro pins s σ H x y v u Q I rx ry h
 obtain ⟨p,xs,rfl,hq,fx,fs,q⟩ := h
 cases ry
 rcases hq with hq | hq
 ·obtain ⟨its,r,pl,hz⟩ := I.list hq
  refine SeqAt.in_listAt (bM x) pl.isList (fun w hw=>bI rx fx r fs w (by simpa using hw)) ⟨.bl _,H,I,rfl,?_⟩
  rw [show its.toArray.any (bM x) = its.any (bM x) by simp,dM r fs]
  exact q
 ·obtain ⟨its,r,pl,hz⟩ := I.tuple hq
  refine SeqAt.in_tupleAt (bM x) pl (fun w hw=>bI rx fx r fs w (by simpa using hw)) ⟨.bl _,H,I,rfl,?_⟩
  rw [show its.toArray.any (bM x) = its.any (bM x) by simp,dM r fs]
  exact q
theorem gA : Q1 X (compareOp .NotIn) (rIn X.K true) := by
 intro pins s σ H x y v u Q I rx ry h
 obtain ⟨p,xs,rfl,hq,fx,fs,q⟩ := h
 cases ry
 rcases hq with hq | hq
 ·obtain ⟨its,r,pl,hz⟩ := I.list hq
  refine SeqAt.notIn_listAt (bM x) pl.isList (fun w hw=>bI rx fx r fs w (by simpa using hw)) ⟨.bl _,H,I,rfl,?_⟩
  rw [show its.toArray.any (bM x) = its.any (bM x) by simp,dM r fs]
  exact q
 ·obtain ⟨its,r,pl,hz⟩ := I.tuple hq
  refine SeqAt.notIn_tupleAt (bM x) pl (fun w hw=>bI rx fx r fs w (by simpa using hw)) ⟨.bl _,H,I,rfl,?_⟩
  rw [show its.toArray.any (bM x) = its.any (bM x) by simp,dM r fs]
  exact q
theorem M6 : S3 X (.builtin "len") (fun xs H Q=>∃ p ys,xs = [.ref p] ∧ (SqL X.K H p ys ∨ SqT X.K H p ys) ∧ Q (.int ys.length) H) := by
 intro pins s σ H xs us Q I r h
 obtain ⟨p,ys,rfl,hq,q⟩ := h
 obtain ⟨u,rfl,rx⟩ := dQ r
 cases rx
 have hn := gH
 rcases hq with hq | hq
 ·obtain ⟨its,r',pl,hz⟩ := I.list hq
  have hlen := r'.length
  exact Calls.call_len_list pl.isList (by simp only [List.size_toArray] <;> omega) ⟨.int ys.length,H,I.tok _,⟨s.toks + 1,by rw [List.size_toArray,hlen]⟩,q⟩
 ·obtain ⟨its,r',pl,hz⟩ := I.tuple hq
  have hlen := r'.length
  exact len_tuple pl (by simp only [List.size_toArray] <;> omega) ⟨.int ys.length,H,I.tok _,⟨s.toks + 1,by rw [List.size_toArray,hlen]⟩,q⟩
theorem gM : S3 X (.type "list") (fun xs H Q=>∃ p ys,xs = [.ref p] ∧ (SqL X.K H p ys ∨ SqT X.K H p ys) ∧ ∀ l,H l = none → Q (.ref l) (upd H l (.lst ys))) := by
 intro pins s σ H xs us Q I r h
 obtain ⟨p,ys,rfl,hq,q⟩ := h
 obtain ⟨u,rfl,rx⟩ := dQ r
 cases rx
 have fin : ∀ (its : List Value),Vals ys its → ys.length ≤ sizeLine → ∀ (h' : Heap) (c' : Nat),(∀ b o',s.heap.get? b = some o' → h'.get? b = some o') →
   h'.get? s.heap.objs.size = some { cls := .type "list",dict := none,data := .seq its.toArray c',slots := #[] } → EP X pins σ Q (.ref s.heap.objs.size) { s with heap := h' } := fun its r' hz h' c' kp e =>
  ⟨.ref s.heap.objs.size,_,I.laid (t' := s.toks) kp (Nat.le_refl _) (show ObjOk X.prog X.w _ h' _ (.lst ys) from ⟨hz,its,c',r',e⟩),rfl,q _ (I.hok.fresh (Nat.le_refl _))⟩
 rcases hq with hq | hq
 ·obtain ⟨its,r',pl,hz⟩ := I.list hq
  have hlen := r'.length
  obtain ⟨o,ho,hc,n,hd⟩ := pl.isList
  exact call_list_seq p (.inl rfl) ho hc hd (fun h' c' kp e=>fin its r' hz h' c' kp e) (by simp only [List.size_toArray] <;> omega)
 ·obtain ⟨its,r',pl,hz⟩ := I.tuple hq
  have hlen := r'.length
  obtain ⟨o,ho,hc,n,hd⟩ := pl
  exact call_list_seq p (.inr rfl) ho hc hd (fun h' c' kp e=>fin its r' hz h' c' kp e) (by simp only [List.size_toArray] <;> omega)
theorem aJ : S3 X (.type "tuple") (fun xs H Q=>∃ p ys,xs = [.ref p] ∧ ((SqL X.K H p ys ∧ ∀ l,H l = none → Q (.ref l) (upd H l (.tup ys))) ∨ (SqT X.K H p ys ∧ Q (.ref p) H))) := by
 intro pins s σ H xs us Q I r h
 obtain ⟨p,ys,rfl,h⟩ := h
 obtain ⟨u,rfl,rx⟩ := dQ r
 cases rx
 rcases h with ⟨hq,q⟩ | ⟨hq,q⟩
 ·obtain ⟨its,r',pl,hz⟩ := I.list hq
  have hlen := r'.length
  refine call_tuple_list pl.isList (fun h' kp=>?_) (by simp only [List.size_toArray] <;> omega)
  have I1 : Inv X pins σ H { s with heap := h' } := I.kept (t' := s.toks) kp
  have I2 : Inv X pins σ (upd H h'.objs.size (.tup ys)) { s with heap := h'.push { cls := .type "tuple",data := .seq its.toArray } } :=
   I1.laid (t' := s.toks) (fun b o e=>Heap.get?_push_of_some _ e) (Nat.le_refl _) (show ObjOk X.prog X.w _ _ _ (.tup ys) from ⟨hz,its,r',IsTup.new _ _⟩)
  exact ⟨.ref h'.objs.size,_,I2,rfl,q _ (I1.hok.fresh (Nat.le_refl _))⟩
 ·obtain ⟨its,r',pl,hz⟩ := I.tuple hq
  exact call_tuple_same pl ⟨.ref p,H,I,rfl,q⟩
def tyV (K : PySem.W.Frag) (T : String) (x : V) (H : Hp) : Prop := match x with
 | .str _=>T = "str"
 | .int _=>T = "int"
 | .ref p=>(T = "list" ∧ ∃ xs,SqL K H p xs) ∨ (T = "tuple" ∧ ∃ o,K.lookup p = some o ∧ o.cls = .type "tuple" ∧ o.dict = none) ∨
   (T = "dict" ∧ ((∃ kvs,H p = some (.dK kvs)) ∨ ∃ kvs,H p = some (.dT kvs))) ∨ (T = "set" ∧ ∃ S n,H p = some (.set S n))
 | _=>False
theorem AQ8 {pins : List (Addr × Obj)} {σ : St} {H : Hp} {s : Shared} {T : String} {x : V} {v : Value} (I : Inv X pins σ H s) (r : RelV x v) (ty : tyV X.K T x H) :
  s.TypeIs v T ∧ ∀ a,v = .ref a → ∃ ob,s.heap.get? a = some ob ∧ ob.dict = none := by
 cases x with
 | str z =>
  obtain ⟨t,rfl⟩ := r
  cases (show T = "str" from ty)
  exact ⟨typeIs_str s z t,fun _ e=>nomatch e⟩
 | int i =>
  obtain ⟨t,rfl⟩ := r
  cases (show T = "int" from ty)
  exact ⟨typeIs_int s i t,fun _ e=>nomatch e⟩
 | ref p =>
  cases r
  rcases ty with ⟨rfl,xs,hq⟩ | ⟨rfl,o,hk,hc,hd⟩ | ⟨rfl,hk⟩ | ⟨rfl,S,n,hk⟩
  ·obtain ⟨its,_,pl,_⟩ := I.list hq
   refine ⟨pl.isList.typeIs,fun a e=>?_⟩
   cases e
   obtain ⟨o,n,e,c,hd,_⟩ := pl
   exact ⟨o,e,hd⟩
  ·refine ⟨⟨o,I.kIn p o hk,hc⟩,fun a e=>?_⟩
   cases e
   exact ⟨o,I.kIn _ o hk,hd⟩
  ·have z : ∃ o,s.heap.get? p = some o ∧ o.ExactDict := by
    rcases hk with ⟨kvs,hk⟩ | ⟨kvs,hk⟩
    ·obtain ⟨_,_,_,_,o,_,_,e,ex,_⟩ := I.hok p _ hk
     exact ⟨o,e,ex⟩
    ·obtain ⟨_,_,_,_,o,_,_,e,ex,_⟩ := I.hok p _ hk
     exact ⟨o,e,ex⟩
   obtain ⟨o,e,ex⟩ := z
   refine ⟨⟨o,e,ex.1⟩,fun a e2=>?_⟩
   cases e2
   exact ⟨o,e,ex.2.1⟩
  ·obtain ⟨o,_,_,_,e,ex,_⟩ := I.hok p _ hk
   refine ⟨⟨o,e,ex.1⟩,fun a e2=>?_⟩
   cases e2
   exact ⟨o,e,ex.2.1⟩
 | _=>exact False.elim ty
def tBM (K : PySem.W.Frag) (T : String) (r : V → List V → Hp → VK → Prop) (to : TE) (t : TA) : TE := fun σ H Q=>to σ H fun x H1=>tyV K T x H1 ∧ t σ H1 fun xs H2=>r x xs H2 Q
variable {o e : Expr} {es : List Expr} {to : TE} {t : TA} {name : Str} {apos cpos : Pos} {T id : String} {r : V → List V → Hp → VK → Prop}
theorem jP (pa : PlainAttrs T) (slot : Slot T name id) (hty : typeOf (.builtin id) = pure (.type "method_descriptor")) (hm : MtR X id r) (ho : PE X o to) (ha : PA X (e :: es) t)
  (hbase : attributeBase o name X.env (eval o X.env) = eval o X.env := by rfl)
  (hfew : ((backTo cpos (starEach (e :: es) X.env)).all (fun x=>!x.1) && (backToKw cpos (keywordEach [] X.env)).all (fun x=>x.1.isSome)
   && decide ((e :: es).length + ([] : List Keyword).length + (if ([] : List Keyword).isEmpty then 0 else 1) < 30)) = true := by rfl)
  (hline : (apos.endLine == cpos.line) = true := by rfl) (hs : starEach (e :: es) X.env = (false,eval e X.env) :: starEach es X.env := by rfl) (hplain : (backTo cpos (starEach es X.env)).any (·.1) = false := by rfl) :
  PE X (.Call (.Attribute o name apos) (e :: es) [] cpos) (tBM X.K T r to t) := by
 intro pins s σ H Q I h
 refine wpAny_Call_method_late hbase hfew hline rfl (J1 (ho pins s σ H _ I h) fun v s1 ⟨x,H1,I1,r1,ty,q1⟩=>?_)
 obtain ⟨h1,h2⟩ := AQ8 I1 r1 ty
 refine ⟨T,id,pa,slot,hty,h1,h2,?_⟩
 have hA := ha cpos pins s1 σ H1 _ I1 q1
 rw [hs] at hA ⊢
 refine Calls.callWith_builtin (by show (false || (backTo cpos (starEach es X.env)).any (·.1)) = false; rw [hplain] <;> rfl) (Calls.evalArgs_plain ?_)
 exact J1 hA fun us s2 ⟨vs,H2,I2,r2,q2⟩=>hm pins s2 σ H2 x vs v us Q I2 r1 r2 q2
end
end L2
namespace L2
open PySem PySem.Spec PyProof.Rows
def MtM (X : Cx) (id : String) (r : V → List V → Hp → VK → Prop) : Prop :=
 ∀ (pins : List (Addr × Obj)) (s : Shared) (σ : St) (H : Hp) (x : V) (xs : List V) (v : Value) (us : List Value) (Q : VK),Inv X pins σ H s → RelV x v → Vals xs us → r x xs H Q →
  wpAny (model X.prog X.w) X.A (call (.builtin id) (v :: us)) (EP X pins σ Q) X.xe s
theorem Vals.one : ∀ {x : V} {us : List Value},Vals [x] us → ∃ u,us = [u] ∧ RelV x u
 | _,_,.cons r .nil=>⟨_,rfl,r⟩
theorem Vals.rep {xs : List V} {us : List Value} (h : Vals xs us) : ∀ k : Nat,Vals (List.replicate k xs).flatten (List.replicate k us).flatten
 | 0=>.nil
 | k + 1=>by
  rw [List.replicate_succ,List.replicate_succ,List.flatten_cons,List.flatten_cons]
  exact Vals.append h (Vals.rep h k)
theorem mU (its : List Value) : ∀ (k : Nat) (acc : List Value),
  List.foldl (fun x1 x2=>x1 ++ x2) acc.toArray (List.replicate k its.toArray) = (acc ++ (List.replicate k its).flatten).toArray
 | 0,acc=>by simp
 | k + 1,acc=>by
  have e : acc.toArray ++ its.toArray = (acc ++ its).toArray := by simp
  have e2 : (acc ++ its) ++ (List.replicate k its).flatten = acc ++ (List.replicate (k + 1) its).flatten := by
   rw [List.replicate_succ,List.flatten_cons,List.append_assoc]
  rw [← e2,← mU its k (acc ++ its),← e,List.replicate_succ,List.foldl_cons]
section
variable {X : Cx} {pins : List (Addr × Obj)} {σ : St} {H : Hp} {s : Shared} {l b : Addr} {xs ys zs : List V}
theorem Inv.lset {its its' : List Value} {n : Nat} {f : Array Value → Array Value} {t' : Nat} (I : Inv X pins σ H s) (hH : H l = some (.lst xs))
  (e : s.heap.get? l = some { cls := .type "list",data := .seq its.toArray n }) (hf : f its.toArray = its'.toArray) (hv : Vals ys its') (hz : ys.length ≤ sizeLine) :
  Inv X pins σ (upd H l (.lst ys)) { s with heap := s.heap.update l (Obj.mapSeq f),toks := t' } := by
 have q := PySem.IsL.update e f
 rw [hf] at q
 refine I.write (x := l) (e := l) (by rw [hH]; exact trivial) (.inl rfl) (fun b' u hb hu=>(Heap.get?_update_other s.heap (Obj.mapSeq f) (Ne.symm hb)).trans hu) ⟨_,q⟩ ?_
 exact ⟨hz,its',_,hv,q⟩
theorem Inv.lnew {its : List Value} {t' : Nat} (I : Inv X pins σ H s) (hv : Vals ys its) (hz : ys.length ≤ sizeLine) :
  Inv X pins σ (upd H s.heap.objs.size (.lst ys)) { s with heap := s.heap.push { cls := .type "list",data := .seq its.toArray },toks := t' } :=
 I.laid (fun _ _ q=>Heap.get?_push_of_some _ q) (Nat.le_refl _) ⟨hz,its,0,hv,Heap.get?_push_size _ rfl⟩
theorem Inv.fresh (I : Inv X pins σ H s) : H s.heap.objs.size = none := I.hok.fresh (Nat.le_refl _)
theorem Inv.lstM (I : Inv X pins σ H s) (hH : H l = some (.lst xs)) : xs.length ≤ sizeLine ∧ ∃ (its : List Value) (n : Nat),Vals xs its ∧ xs.length = its.length ∧ s.heap.get? l = some { cls := .type "list",data := .seq its.toArray n } := by
 obtain ⟨z,its,n,r,e⟩ := I.hok l _ hH
 exact ⟨z,its,n,r,r.length,e⟩
theorem AD9 {n : Nat} (h : n ≤ sizeLine) : Builtin.List.listTooLong n = false := by
 unfold Builtin.List.listTooLong
 exact decide_eq_false (by omega)
end
section
variable {X : Cx}
def AM0 : V → List V → Hp → VK → Prop := fun x vs H Q=>∃ l xs y,x = .ref l ∧ vs = [y] ∧ H l = some (.lst xs) ∧ xs.length < sizeLine ∧ Q .non (upd H l (.lst (xs ++ [y])))
theorem cB : MtM X "list.append" AM0 := by
 intro pins s σ H x vs v us Q I rx rv h
 obtain ⟨l,xs,y,rfl,rfl,hH,hz,q⟩ := h
 cases rx
 obtain ⟨u,rfl,ru⟩ := rv.one
 obtain ⟨z,its,n,r,hl,e⟩ := I.lstM hH
 refine call_meets F.slot_list_append ⟨_,e,rfl⟩ F.entry_list_append (F.args_list_append_2 _ _) (PySem.list_append l its.toArray n u (by rw [List.size_toArray]; omega)) ⟨e,?_⟩
 refine ⟨.non,_,I.lset (its' := its ++ [u]) hH e (by simp) (r.append (.cons ru .nil)) ?_,rfl,q⟩
 rw [List.length_append,List.length_singleton]
 omega
def BF0 : R2 := fun x y H Q=>∃ l b xs zs,x = .ref l ∧ y = .ref b ∧ H l = some (.lst xs) ∧ H b = some (.lst zs) ∧ xs.length + zs.length ≤ sizeLine ∧ ∀ p,H p = none → Q (.ref p) (upd H p (.lst (xs ++ zs)))
theorem jT : Q1 X (binaryOp .Add) BF0 := by
 intro pins s σ H x y v u Q I rx ry h
 obtain ⟨l,b,xs,zs,rfl,rfl,hH,hB,hz,q⟩ := h
 cases rx
 cases ry
 obtain ⟨z,its,n,r,hl,e⟩ := I.lstM hH
 obtain ⟨z2,its2,n2,r2,hl2,e2⟩ := I.lstM hB
 refine PySem.P.add_list e e2 ?_ (by rw [List.size_toArray,List.size_toArray]; omega)
 have ea : its.toArray ++ its2.toArray = (its ++ its2).toArray := by simp
 rw [ea]
 exact ⟨.ref _,_,I.lnew (t' := s.toks) (r.append r2) (by rw [List.length_append]; omega),rfl,q _ I.fresh⟩
def BE6 : R2 := fun x y H Q=>∃ l k xs,x = .ref l ∧ y = .int k ∧ H l = some (.lst xs) ∧ -(2 ^ 63) ≤ k ∧ k < 2 ^ 63 ∧ xs.length * k.toNat ≤ sizeLine ∧
 ∀ p,H p = none → Q (.ref p) (upd H p (.lst (List.replicate k.toNat xs).flatten))
theorem AP4 {α : Type} (xs : List α) (k : Nat) : (List.replicate k xs).flatten.length = k * xs.length := by
 induction k with
 | zero=>simp
 | succ k ih=>rw [List.replicate_succ,List.flatten_cons,List.length_append,ih,Nat.succ_mul,Nat.add_comm]
theorem AT9 : Q1 X (binaryOp .Mult) BE6 := by
 intro pins s σ H x y v u Q I rx ry h
 obtain ⟨l,k,xs,rfl,rfl,hH,h1,h2,hz,q⟩ := h
 cases rx
 obtain ⟨t,rfl⟩ := ry
 obtain ⟨z,its,n,r,hl,e⟩ := I.lstM hH
 have hlen : its.toArray.size * k.toNat ≤ sizeLine := by rw [List.size_toArray,← hl]; exact hz
 have hcap : ¬ its.toArray.size * k.toNat > (2 ^ 63 - 1) / 8 := by
  have : (sizeLine : Nat) ≤ (2 ^ 63 - 1) / 8 := by decide
  omega
 have hfit : ¬ (!Builtin.List.listFitsIndex k) = true := by
  rw [fitsIndex_both h1 h2]
  exact Bool.false_ne_true
 have hlong : ¬ Builtin.List.listTooLong (its.toArray.size * k.toNat) = true := by
  rw [AD9 hlen]
  exact Bool.false_ne_true
 have hnew : List.foldl (fun x1 x2=>x1 ++ x2) #[] (List.replicate (if its.toArray.isEmpty = true then 0 else k.toNat) its.toArray) = (List.replicate k.toNat its).flatten.toArray := by
  have f0 : ∀ m : Nat,List.foldl (fun x1 x2=>x1 ++ x2) #[] (List.replicate m its.toArray) = (List.replicate m its).flatten.toArray := fun m=>by
   have := mU its m []
   rw [List.nil_append] at this
   exact this
  rw [f0]
  cases its with
  | nil=>simp
  | cons a r'=>rw [if_neg (by simp)]
 refine wpAny_binaryOp_repeat_ref (T := "list") (U := "int") (by decide) ⟨_,e,rfl⟩ (fun s'=>typeIs_int s' k t) noFill_list_mul F.fills_int_mul F.slot_int_rmul repeat_list F.slot_int_index.lookup
  (call_meets F.slot_int_rmul (typeIs_int s k t) F.entry_int_rmul (F.args_int_rmul_2 _ _) (int___rmul___int_list k t l its.toArray n)
   ⟨e,rfl,⟨_,e,rfl⟩,call_meets F.slot_list_mul ⟨_,e,rfl⟩ F.entry_list_mul (F.args_list_mul_2 _ _) (AutoListH.list___mul___list_int_3 l its.toArray n k t hfit hcap hlong) ⟨e,?_⟩⟩)
 rw [hnew]
 exact ⟨.ref _,_,I.lnew (t' := s.toks) (r.rep k.toNat) (by rw [AP4,Nat.mul_comm]; exact hz),rfl,q _ I.fresh⟩
end
section
variable {prog : Program} {w : World} {A : Around} {E : Value → Shared → Prop} {s : Shared}
end
section
variable {X : Cx}
end
end L2
namespace Att
open PySem PySem.W PySem.Calls PyProof.Rows
theorem kC {P : Params} {h : Heap} : ∀ (ns : List Int) (vs : List Value),WellAll P h vs (ns.map WData.int) → IntsAre vs ns := by
 intro ns
 induction ns with
 | nil =>
  intro vs w
  rw [List.map_nil] at w
  cases w
  exact .nil
 | cons n ns ih =>
  intro vs w
  rw [List.map_cons] at w
  cases w with
  | cons a b =>
   cases a
   exact .cons _ _ (ih _ b)
theorem xH {l : OpenLaw} {n : Nat} (hn : l.most = some n) {P : Params} {h : Heap} {args : List WData} {vals : List Value}
  (hpre : l.row.toRowW.claim.pre args = true) (hwl : WellAll P h vals args) :
  ∃ a vs ns,vals = [Value.ref a] ∧ args = [WData.list (ns.map WData.int)] ∧ h.get? a = some { cls := .type "list",data := .seq vs.toArray } ∧ IntsAre vs ns ∧ ns.length ≤ n := by
 have hsh : WShape.hasAll [] args [.list .int] = true := (pre_splitW hpre).1
 have hc : l.pre.holds [] { args := args } = true := (pre_splitW hpre).2
 obtain ⟨d,r,rfl,h1,h2⟩ := hasAllW_cons hsh
 obtain rfl := hasAllW_nil h2
 obtain ⟨xs,rfl,h3⟩ := hasW_list h1
 obtain ⟨ns,rfl⟩ := items_int h3
 have hlen : ns.length ≤ n := by
  unfold OpenLaw.pre at hc
  have h4 : (WTm.not (.lt (.lit (.int (n : Int))) (.len (.arg 0)))).holds [] { args := [.list (ns.map .int)] } = true := by
   have h4 := (holds_andW hc).1
   rw [hn] at h4
   exact h4
  have h5 := condW_of h4 (w_not (w_lt w_lit (w_len_list (w_arg rfl))))
  rw [List.length_map] at h5
  refine Nat.le_of_not_lt fun q=>?_
  have q' : (n : Int) < ((ns.length : Nat) : Int) := by omega
  first
   | (rw [decide_eq_true q'] at h5; exact absurd h5 (by decide))
   | (simp at h5; omega)
 cases hwl with
 | cons w1 w2 =>
  cases w2
  cases w1 with
  | list ho hall=>exact ⟨_,_,ns,rfl,rfl,ho,kC ns _ hall,hlen⟩
theorem xR (l : OpenLaw) (args : List WData) : l.row.toRowW.claim.post args (.bool true) args = true :=
 postW_of (r := l.row.toRowW) (X := (true == true))
  (show WShape.has [] (.bool true) .bool = true by first | rfl | decide | simp [WShape.has,WShape.arms,WShape.armsAll])
  (show (WTm.eq .res (.lit (.bool true))).value [] { args := args,res := some (.bool true),after := args } = some (.bool (true == true)) from w_eq_bool (w_res rfl) w_lit) rfl
theorem attach_call {l : OpenLaw} {n : Nat} {q : Program} {loose : List Str} {XP : (Str → Option Value) → Heap → Prop} {YP : World → Heap → Prop} {d : DefRec}
  (hn : l.most = some n) (hdf : d.params.defaults = [])
  (call : ∀ (w : World) (s₀ s₁ : Shared) (mg mb : Str → Option Value) (fa : Addr) (o : Obj) (pm cd doc : Value) (a : Addr) (vs : List Value) (ns : List Int),
   Ground q loose [] XP w s₀ mg mb s₁.heap → YP w s₁.heap →
   s₁.heap.get? fa = some o → o.data = .func (docDef d.name d.params d.body d.scope pm cd doc) → s₁.heap.CodeRec cd d.name → mg d.name = some (.ref fa) →
   s₁.heap.get? a = some { cls := .type "list",data := .seq vs.toArray } → IntsAre vs ns → ns.length ≤ n → s₁.gens = #[] →
   codeAny (model l.prog w) callerA (.call (.ref fa) ⟨[.ref a],[]⟩) (fun r s'=>r = .ok (.ret (.bool true)) ∧ OldK s₁.heap s'.heap ∧ s'.os = s₁.os ∧ AllBare s'.gens) s₁) :
  WalkO q loose XP YP l.row.toRowW d [] (fun f vs=>PySem.call f vs) := by
 intro w s₀ s₁ mg mb G Y fa o pm cd doc dV kV ho hd hcd hD hmg hg args vals as hpre hlay hrd hwl hlo
 obtain rfl : dV = .none := Dflts.none hD hdf
 obtain rfl : kV = .none := Dflts.noKw hD
 obtain ⟨a,vs,ns,rfl,rfl,hobj,hints,hlen⟩ := xH hn hpre hwl
 refine enter_call (codeAny_mono (call w s₀ s₁ mg mb fa o pm cd doc a vs ns G Y ho (fd_plain hd) hcd hmg hobj hints hlen hg) fun r s' hq=>?_)
 obtain ⟨rfl,h2,h3,h4⟩ := hq
 exact ⟨.inl ⟨.bool true,.bool true,[],rfl,fun _=>rfl,.bool true,xR l _,fun _=>⟨List.Pairwise.nil,fun _ hm=>(nomatch hm)⟩⟩,h2,h3,h4⟩
section
variable {prog : Program} {w : World} {A : Around} {E : Value → Shared → Prop} {s : Shared} {K : Frag}
end
end Att
namespace L2
open PySem PySem.Spec PyProof.Rows
theorem lZ : ∀ {vs : List Value} {ns : List Int},IntsAre vs ns → Vals (ns.map V.int) vs
 | _,_,.nil=>.nil
 | _,_,.cons n t h=>.cons ⟨t,rfl⟩ (lZ h)
end L2
namespace L2
open PySem PySem.Spec PyProof.Rows
end L2
namespace L2
open PySem PySem.Spec PyProof.Rows
def E9 (s : Stmt) : Arguments := match s with
 | .FunctionDef _ a _ _ _ _ _ _ _ _=>a
 | _=>{ posonlyargs := [],args := [],vararg := none,kwonlyargs := [],kw_defaults := [],kwarg := none,defaults := [] }
def E4 (s : Stmt) : List Stmt := match s with
 | .FunctionDef _ _ b _ _ _ _ _ _ _=>b
 | _=>[]
def B6 (s : Stmt) : Scope := match s with
 | .FunctionDef _ _ _ _ _ _ sc _ _ _=>sc
 | _=>{ kind := .function,names := [],isGenerator := false,isCoroutine := false }
abbrev L9 : iV := fun _ _ _ _ _ _=>False
abbrev E0 : XK := fun _ _ _=>False
theorem AI2 {X : Cx} : rK L9 X E0 := fun _ _ _ _ _ _ _ h=>h.elim
structure Fun (K : PySem.W.Frag) (x qual : Str) (st : Stmt) (f : Addr) (fd : FuncData) : Prop where
 ex : ∃ (oc : Value) (od : Option Addr) (kV doc pm : Value) (an : Option Addr) (cdv ct : Value) (osl : Array (Option Value)),
  fd = PySem.W.fnOf x qual (E9 st) (E4 st) (B6 st) .none kV doc pm an cdv ct ∧ K.lookup f = some ⟨oc,od,.func fd,osl⟩ ∧ PySem.W.codeIn K cdv qual = true
 kp : PySem.W.keepIn K (.ref f) = true
section
variable {P : Program} {w : World} {K : PySem.W.Frag} {mg : Str → Option Value} {base : Heap}
theorem Fun.ok {x qual : Str} {st : Stmt} {f : Addr} {fd : FuncData} {N ps : List Str} {k : Nat} {sp : Sp} (F : Fun K x qual st f fd) (S : G0 N ps (B6 st)) (len : ∀ vs H Q E,sp vs H Q E → vs.length = ps.length)
  (hbody : ∀ (cdv : Value) (A : Around) (outer : List Env) (s : Shared) (H : Hp) (vs : List V) (Q : VK) (E : XK),Room k (A.deeper (envOfC qual (B6 st) s.heap.objs.size f cdv)) → sp vs H Q E →
   ∃ t,PSs (jD L9 P w K mg base N qual (B6 st) f cdv A outer s H E).nox (E4 st) t ∧ t { nx := fun _ H'=>Q .non H',rt := Q } (start N vs) H) : FnOk P w K mg base L9 (k + 1) f fd ps sp := by
 obtain ⟨oc,od,kV,doc,pm,an,cdv,ct,osl,rfl,lk,hcd⟩ := F.ex
 refine AJ5 lk hcd S len fun A outer s H vs Q E hr hsp=>?_
 obtain ⟨t,h,q⟩ := hbody cdv A outer s H vs Q E hr hsp
 exact ⟨t,h.nox,q⟩
theorem Fun.binds {x qual : Str} {st : Stmt} {f : Addr} {fd : FuncData} {ps : List Str} (F : Fun K x qual st f fd)
  (h : ∀ (kV doc pm : Value) (an : Option Addr) (cdv ct : Value) (us : List Value),us.length = ps.length → bindArgs (PySem.W.fnOf x qual (E9 st) (E4 st) (B6 st) .none kV doc pm an cdv ct) ⟨us,[]⟩ = pure (ps.zip us)) : Binds K fd ps [] := by
 obtain ⟨oc,od,kV,doc,pm,an,cdv,ct,osl,rfl,lk,hcd⟩ := F.ex
 exact .all (h kV doc pm an cdv ct)
theorem J2 {x qual : Str} {st : Stmt} {f : Addr} {oc : Value} {od an : Option Addr} {osl : Array (Option Value)} {kV doc pm cdv ct : Value} (l : K.lookup f = some ⟨oc,od,.func (PySem.W.fnOf x qual (E9 st) (E4 st) (B6 st) .none kV doc pm an cdv ct),osl⟩)
  (c : PySem.W.codeIn K cdv qual = true) (k : PySem.W.keepIn K (.ref f) = true) : Fun K x qual st f (PySem.W.fnOf x qual (E9 st) (E4 st) (B6 st) .none kV doc pm an cdv ct) := ⟨⟨oc,od,kV,doc,pm,an,cdv,ct,osl,rfl,l,c⟩,k⟩
end
theorem fA {A : Around} {k : Nat} (hr : Room k A) : A.units + 1 < cLine := Nat.lt_of_le_of_lt (Nat.add_le_add_left (by decide : 1 ≤ 64) _) hr.units
theorem xF {n : Nat} (h : n ≤ 1000) : n < sizeLine := Nat.lt_of_le_of_lt h (by decide)
section
variable {X : Cx}
theorem pv (i : Nat) {x : Str} {pos : Pos} (hN : X.N[i]? = some x := by rfl) (hv : Vis X.env.scope x := by first | exact Or.inl rfl | exact Or.inr (Or.inl rfl) | exact Or.inr (Or.inr rfl)) (hd : (x == ("__debug__" : Str)) = false := by decide)
  (hcd : (x == ("__classdict__" : Str)) = false := by decide) : PE X (.Name x pos) (O4 i) := AT8 hN hv hd hcd
end
theorem L5 {A B : Prop} (h : B) : if false = true then A else B := by
 rw [if_neg Bool.false_ne_true]
 exact h
theorem K8 {A B : Prop} (h : A) : if true = true then A else B := by
 rw [if_pos rfl]
 exact h
theorem M2 {c A B : Prop} [Decidable c] (h1 : c → A) (h2 : ¬ c → B) : if c then A else B := by
 by_cases h : c
 ·rw [if_pos h]
  exact h1 h
 ·rw [if_neg h]
  exact h2 h
def Same (H H' : Hp) : Prop := ∀ b o,H b = some o → H' b = some o
theorem Same.refl (H : Hp) : Same H H := fun _ _ h=>h
theorem Same.trans {H H1 H2 : Hp} (a : Same H H1) (b : Same H1 H2) : Same H H2 := fun c o h=>b c o (a c o h)
theorem Same.seq {K : PySem.W.Frag} {H H' : Hp} {a : Addr} {xs : List V} (e : Same H H') (h : SqL K H a xs) : SqL K H' a xs := by
 rcases h with (h | ⟨o,h⟩) | h
 ·exact .inl (.inl (e _ _ h))
 ·exact .inl (.inr ⟨o,e _ _ h⟩)
 ·exact .inr h
end L2
namespace L2
open PySem PySem.Spec PyProof.Rows
def N8 (cells : List (Str × Addr)) : List (Str × NameKind) → List (Str × Addr) → List (Str × Addr)
 | [],cs=>cs
 | (n,k) :: r,cs=>if k == .free then N8 cells r ((n,(cells.lookup n).getD 0) :: cs) else N8 cells r cs
theorem aI {env : Env} : ∀ (names : List (Str × NameKind)) (cs : List (Str × Addr)),(∀ x ∈ names,x.2 = .free → ∃ c,env.cells.lookup x.1 = some c) →
  (forIn names cs fun (x : Str × NameKind) (r : List (Str × Addr))=>(match x with | (name,kind)=>if (kind == .free) = true then do let c ← cellOf env name; pure (ForInStep.yield ((name,c) :: r)) else pure (ForInStep.yield r) : Sem (ForInStep (List (Str × Addr))))) = (pure (N8 env.cells names cs) : Sem (List (Str × Addr)))
 | [],cs,_=>rfl
 | (n,k) :: r,cs,h=>by
  rw [List.forIn_cons]
  have hr : ∀ x ∈ r,x.2 = .free → ∃ c,env.cells.lookup x.1 = some c := fun x hx=>h x (List.mem_cons_of_mem _ hx)
  by_cases hk : (k == NameKind.free) = true
  ·obtain ⟨c,hc⟩ := h (n,k) List.mem_cons_self (by simpa using hk)
   have e : cellOf env n = pure c := by unfold cellOf; rw [hc]
   simp only [hk,↓reduceIte,e,pure_bind]
   rw [aI r _ hr]
   simp only [N8,hk,↓reduceIte,hc,Option.getD_some]
  ·simp only [hk,↓reduceIte,Bool.false_eq_true,pure_bind]
   rw [aI r _ hr]
   simp only [N8,hk,↓reduceIte,Bool.false_eq_true]
theorem fJ {env : Env} {scope : Scope} (h : ∀ x ∈ scope.names,x.2 = .free → ∃ c,env.cells.lookup x.1 = some c) : closureFor scope env = pure (N8 env.cells scope.names []) := by
 unfold closureFor
 have e := aI (env := env) scope.names [] h
 simp only [bind_pure]
 exact e
theorem Z5 {cells : List (Str × Addr)} {x : Str} {c : Addr} : ∀ (names : List (Str × NameKind)) (cs : List (Str × Addr)),(∀ y ∈ names,y.2 = .free → ∃ c,cells.lookup y.1 = some c) → (∀ c,cs.lookup x = some c → cells.lookup x = some c) →
  (N8 cells names cs).lookup x = some c → cells.lookup x = some c
 | [],cs,_,h,e=>h c e
 | (n,k) :: r,cs,hh,h,e=>by
  have hr : ∀ x ∈ r,x.2 = .free → ∃ c,cells.lookup x.1 = some c := fun x hx=>hh x (List.mem_cons_of_mem _ hx)
  by_cases hk : (k == NameKind.free) = true
  ·simp only [N8,hk,if_true] at e
   refine Z5 r _ hr (fun c' e'=>?_) e
   rw [List.lookup_cons] at e'
   obtain ⟨c0,hc0⟩ := hh (n,k) List.mem_cons_self (by simpa using hk)
   cases hx : x == n with
   | true =>
    rw [hx] at e'
    have hxn : x = n := by simpa using hx
    subst hxn
    have hc0' : cells.lookup x = some c0 := hc0
    rw [hc0'] at e'
    simp only [Option.getD_some] at e'
    rw [hc0']; exact e'
   | false=>rw [hx] at e'; exact h c' e'
  ·simp only [N8,hk,if_false] at e
   exact Z5 r cs hr h e
theorem cT {cells : List (Str × Addr)} {x : Str} : ∀ (names : List (Str × NameKind)) (cs : List (Str × Addr)),(∃ c,cs.lookup x = some c) → ∃ c,(N8 cells names cs).lookup x = some c
 | [],cs,h=>h
 | (n,k) :: r,cs,⟨c,h⟩=>by
  by_cases hk : (k == NameKind.free) = true
  ·simp only [N8,hk,if_true]
   refine cT r _ ?_
   rw [List.lookup_cons]
   cases hx : x == n with
   | true=>exact ⟨_,rfl⟩
   | false=>exact ⟨c,h⟩
  ·simp only [N8,hk,if_false]
   exact cT r cs ⟨c,h⟩
theorem aR {cells : List (Str × Addr)} {x : Str} : ∀ (names : List (Str × NameKind)) (cs : List (Str × Addr)),names.lookup x = some .free → ∃ c,(N8 cells names cs).lookup x = some c
 | [],cs,h=>by simp at h
 | (n,k) :: r,cs,h=>by
  rw [List.lookup_cons] at h
  cases hx : x == n with
  | true =>
   rw [hx] at h
   cases h
   simp only [N8,beq_self_eq_true,if_true]
   refine cT r _ ⟨(cells.lookup n).getD 0,?_⟩
   rw [List.lookup_cons,hx]
  | false =>
   rw [hx] at h
   by_cases hk : (k == NameKind.free) = true
   ·simp only [N8,hk,if_true]
    exact aR r _ h
   ·simp only [N8,hk,if_false]
    exact aR r cs h
theorem bA {env : Env} : ∀ {names : List (Str × NameKind)} {x : Str} {k : NameKind},
  (names.map fun (n,k)=>if (k == NameKind.free && env.scope.kind == .function && env.kindOf n == some .cell) then (n,NameKind.cell) else (n,k)).lookup x = some k → k = .cell ∨ k = .free →
  (∀ y ∈ names,y.2 ≠ .cell) → names.lookup x = some .free
 | [],_,_,h,_,_=>by simp at h
 | (n,k') :: r,x,k,h,hk,hc=>by
  have ih := @bA env r x k
  have hc' : ∀ y ∈ r,y.2 ≠ .cell := fun y hy=>hc y (List.mem_cons_of_mem _ hy)
  have hc0 : k' ≠ .cell := hc (n,k') List.mem_cons_self
  have h : List.lookup x ((if (k' == NameKind.free && env.scope.kind == .function && env.kindOf n == some .cell) = true then (n,NameKind.cell) else (n,k')) :: _) = _ := h
  cases hx : x == n with
  | true =>
   rw [List.lookup_cons,hx]
   by_cases hq : (k' == NameKind.free && env.scope.kind == .function && env.kindOf n == some .cell) = true
   ·have : (k' == NameKind.free) = true := by
     cases hz : (k' == NameKind.free)
     ·rw [hz] at hq; simp at hq
     ·rfl
    have e : k' = .free := by simpa using this
    rw [e]
   ·rw [if_neg hq] at h
    simp only [List.lookup_cons,hx] at h
    cases h
    rcases hk with e | e
    ·exact absurd e hc0
    ·rw [e]
  | false =>
   rw [List.lookup_cons,hx]
   refine ih ?_ hk hc'
   by_cases hq : (k' == NameKind.free && env.scope.kind == .function && env.kindOf n == some .cell) = true
   ·rw [if_pos hq] at h; simp only [List.lookup_cons,hx] at h; exact h
   ·rw [if_neg hq] at h; simp only [List.lookup_cons,hx] at h; exact h
def S2 (X : Cx) (scope : Scope) (N' : List Str) (C : Addr) (fp : List Addr) (s : Shared) (H : Hp) : Cx :=
  { prog := X.prog, w := X.w, K := X.K, mg := X.mg, base := X.base, A := X.A, N := N', s₀ := s, H₀ := H, env := compEnvC scope (N8 X.env.cells scope.names []) C X.env,
    outer := X.stack, stack := X.stack, ex := fp, fn := fun _ => false, calm := X.calm, pn := [], xe := fun _ _ => False }
def rN (own : List Nat) (g : TG) : Prop := ∀ v σ H Q,g v σ H Q → g v σ H fun σ' H'=>Q σ' H' ∧ σ'.length = σ.length ∧ ∀ i,i ∉ own → σ'[i]? = σ[i]?
def wD (own : List Nat) (g : kJ) : Prop := ∀ vs σ H Q,g vs σ H Q → g vs σ H fun σ' H'=>Q σ' H' ∧ σ'.length = σ.length ∧ ∀ i,i ∉ own → σ'[i]? = σ[i]?
theorem U1 (j : Nat) : rN [j] (P6 j) := fun v σ H Q h=>⟨h,by simp,fun i hi=>by
 have : j ≠ i := fun e=>hi (by simp [e])
 rw [List.getElem?_set_ne this]⟩
theorem eO (j k : Nat) : wD [j,k] (cE (P6 j) (cE (P6 k) vW)) := fun vs σ H Q h=>by
 obtain ⟨v,r,e1,v2,r2,e2,e3,q⟩ := h
 refine ⟨v,r,e1,v2,r2,e2,e3,q,by simp,fun i hi=>?_⟩
 have h1 : j ≠ i := fun e=>hi (by simp [e])
 have h2 : k ≠ i := fun e=>hi (by simp [e])
 rw [List.getElem?_set_ne h2,List.getElem?_set_ne h1]
theorem dH {K : PySem.W.Frag} {n : Nat} {own : List Nat} {t : kJ} (h : wD own t) : rN own (AF3 K n t) := fun v σ H Q ⟨a,xs,e,hq,hl,q⟩=>⟨a,xs,e,hq,hl,h _ _ _ _ q⟩
def PTs (X : Cx) (ifs : List Expr) (t : TT) : Prop :=
 ∀ (pins : List (Addr × Obj)) (s : Shared) (σ : St) (H : Hp) (Q : Bool → Hp → Prop),Inv X pins σ H s → t σ H Q →
  wpAny (model X.prog X.w) X.A (forIn ifs true fun c r=>if r = true then do let ok ← isTrue c X.env (eval c X.env); pure (ForInStep.yield ok) else pure (ForInStep.yield r)) (TP X pins σ Q) X.xe s
def AB1 : TT := fun _ H Q=>Q true H
theorem R7 {X : Cx} : PTs X [] AB1 := fun _ _ _ H _ I h=>wpAny_tests_nil ⟨H,I,h⟩
theorem sU {X : Cx} {c : Expr} {t : TT} (h : PT X c t) : PTs X [c] t := fun pins s σ H Q I q=>wpAny_tests_one (h pins s σ H Q I q)
theorem rA {prog : Program} {w : World} {A : Around} {R : Result → Shared → Prop} {s : Shared} {elt target iter : Expr} {ifs : List Expr} {scope : Scope} {pos : Pos} {it acc : Value} {env : Env} (I : Nat → Shared → Prop)
  (turn : ∀ n s,I n s → wpAny (model prog w) A (pyNext it) (fun r s₁=>match r with
   | none=>R (.ok .next) s₁
   | some v=>wpAny (model prog w) A (letOwnedTupleGo target it v) (fun _ s₁'=>wpAny (model prog w) A (assign target env v) (fun _ s₂ =>
     wpAny (model prog w) A (forIn ifs true fun c r=>if r = true then do let ok ← isTrue c env (eval c env); pure (ForInStep.yield ok) else pure (ForInStep.yield r)) (fun ok s₃ =>
      if ok = true then wpAny (model prog w) A (eval elt env) (fun x s₄ =>
       wpAny (model prog w) A (call (.builtin "list.append") [acc,x]) (fun _ s₅=>∃ m,m < n ∧ I m s₅) (fun _ _=>False) s₄) (fun _ _=>False) s₃
      else ∃ m,m < n ∧ I m s₃) (fun _ _=>False) s₂) (fun _ _=>False) s₁') (fun _ _=>False) s₁) (fun _ _=>False) s)
  (n : Nat) (h : I n s) : codeAny (model prog w) A (.compLoop (.ListComp elt [⟨target,iter,ifs,0⟩] scope pos) 0 it acc env) R s := by
 refine codeAny_loop rfl I (fun n s hI=>?_) n h
 show wpAny _ A ((compTurn (.ListComp elt [⟨target,iter,ifs,0⟩] scope pos) 0 it acc env).onRaise (fun x=>do noteFrame x env; theTreesLotGoes x)) _ _ s
 refine wpAny_noted ?_
 rw [compTurn_list]
 refine wpAny_bind (wpAny_standAt (wpAny_bind (wpAny_mono (turn n s hI) (fun r s₁ h₁=>?_) fun _ _ h'=>h'.elim)))
 cases r with
 | none=>exact wpAny_pure h₁
 | some v =>
  refine wpAny_bind (wpAny_mono h₁ (fun _ s₁' h₁'=>?_) fun _ _ h'=>h'.elim)
  refine wpAny_bind (wpAny_mono h₁' (fun _ s₂ h₂=>wpAny_bind (wpAny_mono h₂ (fun ok s₃ h₃=>?_) fun _ _ h'=>h'.elim)) fun _ _ h'=>h'.elim)
  cases ok with
  | false=>exact wpAny_pure ⟨rfl,h₃⟩
  | true =>
   exact wpAny_bind (wpAny_bind (wpAny_mono h₃ (fun x s₄ h₄=>wpAny_bind (wpAny_mono h₄ (fun _ s₅ h₅=>wpAny_pure (wpAny_pure ⟨rfl,h₅⟩)) fun _ _ h'=>h'.elim)) fun _ _ h'=>h'.elim))
def cD (fr : List (Option Nat)) (σ : St) : St := fr.map fun o=>o.bind fun j=>(σ[j]?).join
def iP (J : It) (fr : List (Option Nat)) (g : TG) (ti : TT) (te : TE) (σ : St) (H1 : Hp) (l : Addr) (Q : VK) : Prop :=
 ∃ W : Nat → Nat → List V → Hp → Prop,(∃ m,W 0 m [] (upd H1 l (.lst []))) ∧ ∀ i m ys H',W i m ys H' →
  (J.stop i H' ∧ Q (.ref l) H') ∨ (J.go i H' ∧ ∃ N : List V → Hp → Prop,(∀ zs H'',N zs H'' → ∃ m',m' < m ∧ W (i + 1) m' zs H'') ∧ ∀ x H2,J.yld i H' x H2 → g x (cD fr σ) H2 fun σ3 H3=>ti σ3 H3 fun b H4=>if b = true then
   te σ3 H4 fun y H5=>H5 l = some (.lst ys) ∧ ys.length < sizeLine ∧ N (ys ++ [y]) (upd H5 l (.lst (ys ++ [y]))) else N ys H4)
def uV (wi : TI) (fr : List (Option Nat)) (g : TG) (ti : TT) (te : TE) : TE := fun σ H Q=>wi σ H fun J H1=>∀ l,H1 l = none → iP J fr g ti te σ H1 l Q
structure CompOk (X : Cx) (scope : Scope) (N' : List Str) (fr : List (Option Nat)) (own : List Nat) : Prop where
 kind : scope.kind = .function
 cell : (scope.names.all fun x=>x.2 != .cell) = true
 names : (scope.names.all fun x=>x.2 != .local || scope.names.lookup x.1 == some .local) = true
 free : (scope.names.all fun x=>x.2 != .free || X.env.scope.names.lookup x.1 == some .cell || X.env.scope.names.lookup x.1 == some .free) = true
 len : N'.length = fr.length
 from_ : ((N'.zip fr).all fun p=>match p.2 with | none=>true | some j=>X.N[j]? == some p.1 && (scope.names.lookup p.1 == some .free)) = true
 own_ : (own.all fun j=>fr[j]? == some none) = true
section
variable {X : Cx} {scope : Scope} {N' : List Str} {fr : List (Option Nat)} {own : List Nat} {elt tg iter : Expr} {ifs : List Expr} {wi : TI} {g : TG} {ti : TT} {te : TE} {pos : Pos}
theorem CompOk.hcell (c : CompOk X scope N' fr own) : ∀ y ∈ scope.names,y.2 ≠ .cell := fun y hy e=>by
 have := List.all_eq_true.mp c.cell y hy
 rw [e] at this
 exact absurd this (by decide)
theorem CompOk.hnames (c : CompOk X scope N' fr own) : ∀ y ∈ scope.names,y.2 = .local → scope.names.lookup y.1 = some .local := fun y hy e=>by
 have := List.all_eq_true.mp c.names y hy
 rw [e] at this
 simpa using this
theorem CompOk.hfree (c : CompOk X scope N' fr own) {pins : List (Addr × Obj)} {σ : St} {H : Hp} {s : Shared} (I : Inv X pins σ H s) : ∀ y ∈ scope.names,y.2 = .free → ∃ c,X.env.cells.lookup y.1 = some c := fun y hy e=>by
 have := List.all_eq_true.mp c.free y hy
 rw [e] at this
 refine I.ok.has y.1 ?_
 have z : X.env.scope.names.lookup y.1 = some .cell ∨ X.env.scope.names.lookup y.1 = some .free := by simpa using this
 exact z
theorem vZ {pins : List (Addr × Obj)} {σ : St} {H : Hp} {s : Shared} {fp : List Addr} {h₁ : Heap} {m : Str → Option Value} {tk : Nat} (c : CompOk X scope N' fr own) (hc : X.calm = true) (I : Inv X pins σ H s) (hfp : ∀ b ∈ fp,S8 X pins H b) (hlt : ∀ b ∈ fp,b < s.heap.objs.size)
  (hns : h₁.Ns s.heap.objs.size m) (hk : ∀ b o,s.heap.get? b = some o → h₁.get? b = some o) :
  Inv (S2 X scope N' s.heap.objs.size fp s H) [] (cD fr σ) H { s with heap := h₁,toks := tk } := by
 have hfree := c.hfree I
 have look : ∀ x cc,(N8 X.env.cells scope.names []).lookup x = some cc → X.env.cells.lookup x = some cc := fun x cc e=>Z5 _ _ hfree (by intro c' e'; simp at e') e
 have cellAt : ∀ x cc,X.env.cells.lookup x = some cc → ∃ v,h₁.IsCell cc v := fun x cc e=>by
  obtain ⟨v,o,ho,hd⟩ := I.cell x cc e
  exact ⟨v,o,hk _ _ ho,hd⟩
 have ok : (S2 X scope N' s.heap.objs.size fp s H).Ok := by
  refine ⟨I.ok.mod,c.kind,I.ok.glob,I.ok.blt,Nat.le_refl _,fun x y cc h1 h2=>I.ok.inj x y cc (look x cc h1) (look y cc h2),fun x h=>?_,fun x cc h=>absurd h Bool.false_ne_true,I.ok.hd,I.ok.frames,.inl rfl,fun b hb=>⟨Nat.ne_of_lt (hlt b hb),fun x cc e=>(hfp b hb).2.2.2.2.1 x cc (look x cc e)⟩,
   fun b o e=>I.bs b o e,Nat.le_trans I.ok.bsz I.sz,fun b o e hb=>?_,fun b hb hz=>?_,I.stack,I.stkFree⟩
  ·have z : scope.names.lookup x = some .free := by
    rcases h with h | h
    ·exact bA (env := X.env) h (.inl rfl) c.hcell
    ·exact bA (env := X.env) h (.inr rfl) c.hcell
   exact aR _ _ z
  ·rcases (hfp b hb).2.2.2.1 with z | z
   ·exact I.ok.noex b o e z
   ·exact absurd (Nat.lt_of_lt_of_le (Heap.lt_size e) (Nat.le_trans I.ok.bsz z)) (Nat.lt_irrefl _)
  ·rcases List.mem_cons.mp (I.stkSub b hz) with e | e
   ·exact (hfp b hb).2.1 e
   ·exact (hfp b hb).2.2.1 e
 refine ⟨ok,rfl,I.bare,Un.kept hk,⟨m,hns,fun i x v e1 e2 hv=>?_⟩,fun x cc e=>cellAt x cc (look x cc e),I.fresh,fun x cc e=>I.freeC x cc (look x cc e),fun p hp=>by simp [S2] at hp,I.hok.kept hk,?_⟩
 ·
  have e1 : N'[i]? = some x := e1
  have e2 : (fr.map fun o=>o.bind fun j=>(σ[j]?).join)[i]? = some (some v) := e2
  rw [List.getElem?_map] at e2
  cases hfi : fr[i]? with
  | none=>rw [hfi] at e2; simp at e2
  | some o =>
   rw [hfi] at e2
   simp only [Option.map_some,Option.some.injEq] at e2
   cases o with
   | none=>simp at e2
   | some j =>
    have e3 : (σ[j]?).join = some v := by simpa using e2
    have e4 : σ[j]? = some (some v) := by
     cases hz : σ[j]? with
     | none=>rw [hz] at e3; simp at e3
     | some z=>rw [hz] at e3; simp at e3; rw [e3]
    have hm : (x,some j) ∈ N'.zip fr := by
     have : (N'.zip fr)[i]? = some (x,some j) := by rw [List.getElem?_zip_eq_some]; exact ⟨e1,hfi⟩
     exact List.mem_of_getElem? this
    have hz := List.all_eq_true.mp c.from_ _ hm
    have hz : (X.N[j]? == some x && (scope.names.lookup x == some .free)) = true := hz
    have hz1 : X.N[j]? = some x ∧ scope.names.lookup x = some .free := by simpa using hz
    obtain ⟨m0,hn0,hl0⟩ := I.loc
    have hxf : (X.env.scope.names.lookup x = some .cell ∨ X.env.scope.names.lookup x = some .free) := by
     have hmem : (x,NameKind.free) ∈ scope.names := PySem.mem_of_lookup hz1.2
     have := List.all_eq_true.mp c.free _ hmem
     simpa using this
    have vis : Vis X.env.scope x := .inr hxf
    obtain ⟨u,ru,lk⟩ := hl0 j x v hz1.1 e4 vis
    refine ⟨u,ru,?_⟩
    rcases lk with ⟨k,_⟩ | ⟨k,cc,ec,hcell⟩
    ·have k : X.env.scope.names.lookup x = some .local := k
     rcases hxf with h | h
     ·rw [h] at k; cases k
     ·rw [h] at k; cases k
    ·obtain ⟨c2,hc2⟩ := aR (cells := X.env.cells) (x := x) scope.names [] hz1.2
     have := look x c2 hc2
     rw [ec] at this
     cases this
     refine .inr ⟨?_,cc,hc2,?_⟩
     ·rcases hv with h | h
      ·
       exfalso
       have hl : ∀ (names : List (Str × NameKind)),names.lookup x = some .free → (names.map fun (n,k)=>if (k == NameKind.free && X.env.scope.kind == .function && X.env.kindOf n == some .cell) then (n,NameKind.cell) else (n,k)).lookup x ≠ some .local := by
        intro names
        induction names with
        | nil=>intro h; simp at h
        | cons p r ih =>
         obtain ⟨n,k⟩ := p
         intro h hh
         have hh : List.lookup x ((if (k == NameKind.free && X.env.scope.kind == .function && X.env.kindOf n == some .cell) = true then (n,NameKind.cell) else (n,k)) :: _) = _ := hh
         rw [List.lookup_cons] at h
         cases hx : x == n with
         | true =>
          rw [hx] at h
          cases h
          by_cases hq : (NameKind.free == NameKind.free && X.env.scope.kind == .function && X.env.kindOf n == some .cell) = true
          ·rw [if_pos hq] at hh; simp [List.lookup_cons,hx] at hh
          ·rw [if_neg hq] at hh; simp [List.lookup_cons,hx] at hh
         | false =>
          rw [hx] at h
          by_cases hq : (k == NameKind.free && X.env.scope.kind == .function && X.env.kindOf n == some .cell) = true
          ·rw [if_pos hq] at hh; simp only [List.lookup_cons,hx] at hh; exact ih h hh
          ·rw [if_neg hq] at hh; simp only [List.lookup_cons,hx] at hh; exact ih h hh
       exact hl _ hz1.2 h
      ·exact h
     ·obtain ⟨o,ho,hd⟩ := hcell
      exact ⟨o,hk _ _ ho,hd⟩
 ·show (fr.map _).length = N'.length
  rw [List.length_map,c.len]
theorem kF {pins : List (Addr × Obj)} {σ : St} {H2 : Hp} {s2 : Shared} {it : Addr} {fp : List Addr} {tn : Nat → Heap → Prop} {J : It} {Q : VK} {RR : Value → Addr → Result → Shared → Prop} {E : Value → Shared → Prop} (c : CompOk X scope N' fr own) (hc : X.calm = true)
  (hg : ∀ C fp s H,PG (S2 X scope N' C fp s H) tg g) (ho : rN own g) (ht : ∀ C fp s H,PTs (S2 X scope N' C fp s H) ifs ti) (he : ∀ C fp s H,PE (S2 X scope N' C fp s H) elt te)
  (I2 : Inv X pins σ H2 s2) (T : gR X.prog X.w X.K tg J fp it tn) (st2 : tn 0 s2.heap) (f2 : ∀ b ∈ fp,S8 X pins H2 b)
  (R : ∀ l,H2 l = none → ∃ W : Nat → Nat → List V → Hp → Prop,(∃ m,W 0 m [] (upd H2 l (.lst []))) ∧ ∀ i m ys H',W i m ys H' →
   (J.stop i H' ∧ Q (.ref l) H') ∨ (J.go i H' ∧ ∃ N : List V → Hp → Prop,(∀ zs H'',N zs H'' → ∃ m',m' < m ∧ W (i + 1) m' zs H'') ∧ ∀ x H2,J.yld i H' x H2 → g x (cD fr σ) H2 fun σ3 H3=>ti σ3 H3 fun b H4=>if b = true then
    te σ3 H4 fun y H5=>H5 l = some (.lst ys) ∧ ys.length < sizeLine ∧ N (ys ++ [y]) (upd H5 l (.lst (ys ++ [y]))) else N ys H4))
  (fin : ∀ l C s' H',Inv X pins σ H' s' → (∃ m,s'.heap.Ns C m) → H' C = none → s2.heap.objs.size ≤ C → Q (.ref l) H' → RR (.ref l) C (.ok .next) s') :
  wpAny (model X.prog X.w) X.A (newList []) (fun acc s₃=>wpAny (model X.prog X.w) X.A (newFunctionEnv scope X.env.globals (N8 X.env.cells scope.names []) [] X.env.qual none .none (some X.env)) (fun cenv s₄ =>
   codeAny (model X.prog X.w) X.A (.compStart (.ListComp elt [⟨tg,iter,ifs,0⟩] scope pos) 0 (.ref it) acc { cenv with scope := relabel scope X.env }) (RR acc cenv.locals) s₄) E s₃) E s2 := by
 refine wpAny_newObj_type (wpAny_newFunctionEnv c.hcell (by intro y hy; simp at hy) (fun h₁ hns₁ hsb₁=>?_) c.kind)
 dsimp only at hns₁ hsb₁ ⊢
 have I3 : Inv X pins σ (upd H2 s2.heap.objs.size (.lst [])) { s2 with heap := s2.heap.push { cls := .type "list",data := .seq ([] : List Value).toArray } } := I2.lnew (its := []) (t' := s2.toks) .nil (Nat.zero_le _)
 have hl := I2.fresh
 obtain ⟨W,⟨m0,w0⟩,turn⟩ := R _ hl
 generalize hs3 : ({ s2 with heap := s2.heap.push { cls := .type "list",data := .seq ([] : List Value).toArray } } : Shared) = s3 at I3
 have hh3 : s2.heap.push { cls := .type "list",dict := none,data := .seq ([] : List Value).toArray } = s3.heap := by rw [← hs3]
 have hz3 : s3.heap.objs.size = s2.heap.objs.size + 1 := by rw [← hs3]; exact Heap.size_push ..
 have up23 : ∀ b o,s2.heap.get? b = some o → s3.heap.get? b = some o := fun b o e=>by rw [← hh3]; exact Heap.get?_push_of_some _ e
 have objs : ∀ b ∈ fp,∃ o,s2.heap.get? b = some o ∧ ∀ v,o.data ≠ .cell v := T.obj _ _ st2
 have lt2 : ∀ b ∈ fp,b < s2.heap.objs.size := fun b hb=>by obtain ⟨o,e,_⟩ := objs b hb; exact Heap.lt_size e
 have f3 : ∀ b ∈ fp,S8 X pins (upd H2 s2.heap.objs.size (.lst [])) b := fun b hb=>⟨by rw [B7 (Nat.ne_of_lt (lt2 b hb))]; exact (f2 b hb).1,(f2 b hb).2⟩
 have st3 : tn 0 s3.heap := T.keep _ _ _ st2 fun b _ o e=>up23 b o e
 rw [hh3] at hns₁ hsb₁ ⊢
 have up34 : ∀ b o,s3.heap.get? b = some o → h₁.get? b = some o := fun b o e=>hsb₁.extBut b o (Nat.ne_of_lt (Heap.lt_size e)) (Heap.get?_push_of_some _ e)
 have I4 : Inv (S2 X scope N' s3.heap.objs.size fp s3 (upd H2 s2.heap.objs.size (.lst []))) [] (cD fr σ) (upd H2 s2.heap.objs.size (.lst [])) { s3 with heap := h₁,toks := s2.toks + ([] : List (Str × Value)).length } :=
  vZ c hc I3 f3 (fun b hb=>by rw [hz3]; exact Nat.lt_succ_of_lt (lt2 b hb)) hns₁ up34
 generalize hXX : S2 X scope N' s3.heap.objs.size fp s3 (upd H2 s2.heap.objs.size (.lst [])) = X' at I4
 have hg' := hg s3.heap.objs.size fp s3 (upd H2 s2.heap.objs.size (.lst []))
 have ht' := ht s3.heap.objs.size fp s3 (upd H2 s2.heap.objs.size (.lst []))
 have he' := he s3.heap.objs.size fp s3 (upd H2 s2.heap.objs.size (.lst []))
 rw [hXX] at hg' ht' he'
 have eP : X'.prog = X.prog := by rw [← hXX]; rfl
 have eW : X'.w = X.w := by rw [← hXX]; rfl
 have eK : X'.K = X.K := by rw [← hXX]; rfl
 have eA : X'.A = X.A := by rw [← hXX]; rfl
 have eC : X'.calm = true := by rw [← hXX]; exact hc
 have eX : X'.xe = fun _ _=>False := by rw [← hXX]; rfl
 have eE : X'.env = compEnvC scope (N8 X.env.cells scope.names []) s3.heap.objs.size X.env := by rw [← hXX]; rfl
 have eN : X'.env.locals = s3.heap.objs.size := by rw [eE]; rfl
 have eF : X'.fs = fH X.stack := by rw [← hXX]; rfl
 have eEx : X'.ex = fp := by rw [← hXX]; rfl
 have ePn : X'.pn = [] := by rw [← hXX]; rfl
 have eS : X'.s₀ = s3 := by rw [← hXX]; rfl
 have eH : X'.H₀ = upd H2 s2.heap.objs.size (.lst []) := by rw [← hXX]; rfl
 have fpIn : ∀ {H' : Hp},(∀ b ∈ fp,H' b = none) → ∀ b ∈ fp,S8 X' [] H' b := fun {H'} hn b hb=>by
  refine ⟨hn b hb,by rw [eN,hz3]; exact Nat.ne_of_lt (Nat.lt_succ_of_lt (lt2 b hb)),fun z=>?_,.inl (by rw [eEx]; exact hb),fun x cc e=>?_,fun p hp=>by rw [ePn] at hp; simp at hp⟩
  ·rw [eF] at z
   rcases List.mem_cons.mp (I3.stkSub b z) with e | e
   ·exact (f3 b hb).2.1 e
   ·exact (f3 b hb).2.2.1 e
  ·rw [eE] at e
   exact (f3 b hb).2.2.2.2.1 x cc (Z5 _ _ (c.hfree I3) (by intro c' e'; simp at e') e)
 have loop : ∀ s₅ : Shared,s₅ = { s3 with heap := h₁,toks := s2.toks + ([] : List (Str × Value)).length } →
   codeAny (model X.prog X.w) X.A (.compLoop (.ListComp elt [⟨tg,iter,ifs,0⟩] scope pos) 0 (.ref it) (.ref s2.heap.objs.size) (compEnvC scope (N8 X.env.cells scope.names []) s3.heap.objs.size X.env)) (RR (.ref s2.heap.objs.size) s3.heap.objs.size) s₅ := by
  rintro s₅ rfl
  refine rA (fun n s'=>∃ i ys H',Inv X' [] (cD fr σ) H' s' ∧ tn i s'.heap ∧ (∀ b ∈ fp,H' b = none) ∧ W i n ys H') ?_ m0
   ⟨0,[],_,I4,T.keep _ _ _ st3 fun b _ o e=>up34 b o e,fun b hb=>(f3 b hb).1,w0⟩
  rintro n s6 ⟨i,ys,H6,I6,st6,fr6,w6⟩
  rcases turn i n ys H6 w6 with ⟨stop,q⟩ | ⟨go,NN,hNN,step⟩
  ·have D := T.done X' eP eW eK eC i [] s6 _ H6 (fun _ _=>False) I6 (fpIn fr6) st6 stop
   rw [eA] at D
   refine J1 D fun r s7 ⟨hr,I7⟩=>?_
   subst hr
   have un := I7.base
   rw [eF,eEx,eS,eH] at un
   have os7 : s7.os = s3.os := by rw [I7.os,eS]
   have hok7 := I7.hok
   rw [eP,eW] at hok7
   have J3 : Inv X pins σ H6 s7 := I3.call' os7 un hok7 I7.bare fun b hb=>⟨(f3 b hb).2.2.2.1,(f3 b hb).2.1,(f3 b hb).2.2.2.2.1,(f3 b hb).2.2.2.2.2⟩
   obtain ⟨m7,hn7,_⟩ := I7.loc
   rw [eN] at hn7
   have fr7 := I7.free
   rw [eN] at fr7
   exact fin _ _ s7 H6 J3 ⟨m7,hn7⟩ fr7 (by rw [hz3]; exact Nat.le_succ _) q
  ·have D := T.item X' eP eW eK eC i [] s6 _ H6 (fun _ _=>False) I6 (fpIn fr6) st6 go
   rw [eA] at D
   refine J1 D fun r s7 ⟨u,hr,h7⟩=>?_
   subst hr
   refine J1 h7 fun _ s8 ⟨x,H8,I8,r8,y8,st8,fr8⟩=>?_
   have I8' := I8.pinned (fpIn fr8) (T.obj _ _ st8)
   have q8 := ho _ _ _ _ (step x H8 y8)
   have A1 := hg' _ s8 _ H8 x u _ I8' r8 q8
   rw [eP,eW,eA,eE,eX] at A1
   refine J1 A1 fun _ s9 ⟨σ9,H9,I9,q9,len9,own9⟩=>?_
   have A2 := ht' _ s9 σ9 H9 _ I9 q9
   rw [eP,eW,eA,eE,eX] at A2
   refine J1 A2 fun ok s10 ⟨H10,I10,q10⟩=>?_
   have weak : ∀ {H' : Hp} {s' : Shared},Inv X' ([] ++ bB fp s8.heap) σ9 H' s' → Inv X' ([] ++ bB fp s8.heap) (cD fr σ) H' s' := fun {H' s'} I'=>I'.weak len9.symm fun j v e=>by
    by_cases hj : j ∈ own
    ·exfalso
     have z := List.all_eq_true.mp c.own_ j hj
     have z : fr[j]? = some none := by simpa using z
     have e : (fr.map fun o=>o.bind fun j=>(σ[j]?).join)[j]? = some (some v) := e
     rw [List.getElem?_map,z] at e
     simp at e
    ·rw [own9 j hj]; exact e
   have again : ∀ {H' : Hp} {s' : Shared},Inv X' ([] ++ bB fp s8.heap) σ9 H' s' → tn (i + 1) s'.heap ∧ (∀ b ∈ fp,H' b = none) ∧ Inv X' [] (cD fr σ) H' s' := fun {H' s'} I'=>by
    refine ⟨T.keep _ _ _ st8 fun b hb o e=>(I'.pin (b,o) (List.mem_append_right _ (List.mem_append_right _ (aQ hb e)))).1,fun b hb=>?_,(weak I').unpinned⟩
    obtain ⟨o,e,d⟩ := T.obj _ _ st8 b hb
    exact (I'.pin (b,o) (List.mem_append_right _ (List.mem_append_right _ (aQ hb e)))).2.1
   cases ok with
   | false =>
    rw [if_neg Bool.false_ne_true] at q10 ⊢
    obtain ⟨m',hm,w'⟩ := hNN _ _ q10
    obtain ⟨t1,t2,t3⟩ := again I10
    exact ⟨m',hm,i + 1,ys,H10,t3,t1,t2,w'⟩
   | true =>
    rw [if_pos rfl] at q10 ⊢
    have A3 := he' _ s10 σ9 H10 _ I10 q10
    rw [eP,eW,eA,eE,eX] at A3
    refine J1 A3 fun yv s11 ⟨y,H11,I11,r11,hl11,hz11,q11⟩=>?_
    have A4 := cB (X := X') _ s11 σ9 H11 (.ref s2.heap.objs.size) [y] (.ref s2.heap.objs.size) [yv] (fun _ H'=>H' = upd H11 s2.heap.objs.size (.lst (ys ++ [y]))) I11 rfl (.cons r11 .nil) ⟨_,ys,y,rfl,rfl,hl11,hz11,rfl⟩
    rw [eP,eW,eA,eX] at A4
    refine J1 A4 fun _ s12 ⟨_,H12,I12,_,e12⟩=>?_
    subst e12
    obtain ⟨m',hm,w'⟩ := hNN _ _ q11
    obtain ⟨t1,t2,t3⟩ := again I12
    exact ⟨m',hm,i + 1,_,_,t3,t1,t2,w'⟩
 have e5 : ({ s2 with heap := h₁,toks := s2.toks + ([] : List (Str × Value)).length } : Shared) = { s3 with heap := h₁,toks := s2.toks + ([] : List (Str × Value)).length } := by rw [← hs3]
 exact codeAny_compStart_list (loop _ e5) (T.self _ 0 _ _ _ (T.keep _ _ _ st3 fun b _ o e=>up34 b o e) (loop _ e5))
theorem U6 (c : CompOk X scope N' fr own) (hc : X.calm = true) (hi : PI X tg iter wi)
  (hg : ∀ C fp s H,PG (S2 X scope N' C fp s H) tg g) (ho : rN own g) (ht : ∀ C fp s H,PTs (S2 X scope N' C fp s H) ifs ti) (he : ∀ C fp s H,PE (S2 X scope N' C fp s H) elt te)
  (hs : ∀ x,foldedSetIterable iter X.env x = pure x := by intro _; rfl) : PE X (.ListComp elt [⟨tg,iter,ifs,0⟩] scope pos) (uV wi fr g ti te) := by
 intro pins s σ H Q I h
 rw [eval_ListComp]
 refine wpAny_comprehension_free (use := none) rfl hs (fJ (c.hfree I)) c.kind c.hnames (J1 (hi pins s σ H _ I h) fun v s1 h1=>J1 h1 fun itv s2 h2=>?_)
 obtain ⟨it,fp,tn,J,H2,e,I2,T,st2,f2,R⟩ := h2
 subst e
 refine kF (RR := fun acc C=>compPost (model X.prog X.w) X.A X.xe none (EP X pins σ Q) acc C) c hc hg ho ht he I2 T st2 f2 R ?_
 intro l C s' H' I' hn hC hle q
 obtain ⟨m,hn⟩ := hn
 refine ⟨m,hn,fun h' hs'=>⟨.ref l,H',?_,rfl,q⟩⟩
 have cl : ∀ x cc,X.env.cells.lookup x = some cc → cc ≠ C := fun x cc e z=>by
  obtain ⟨v,o,ho,_⟩ := I2.cell x cc e
  exact absurd (Nat.lt_of_lt_of_le (Heap.lt_size ho) (by rw [z]; exact hle)) (Nat.lt_irrefl _)
 exact I'.turned (t' := s'.toks) (fun b o hb e=>hs'.extBut b o hb e) hC (Nat.ne_of_gt (Nat.lt_of_lt_of_le I2.lt hle)) (.inr (Nat.le_trans I2.sz hle)) cl fun p hp z =>
  absurd (Nat.lt_of_lt_of_le (Heap.lt_size (I2.pin p hp).1) (by rw [z]; exact hle)) (Nat.lt_irrefl _)
theorem iI {i : Nat} {y : Str} {py spos : Pos} (c : CompOk X scope N' fr own) (hc : X.calm = true) (hN : X.N.Nodup) (hy : X.N[i]? = some y) (hx : X.env.scope.names.lookup y = some .local) (hi : PI X tg iter wi)
  (hg : ∀ C fp s H,PG (S2 X scope N' C fp s H) tg g) (ho : rN own g) (ht : ∀ C fp s H,PTs (S2 X scope N' C fp s H) ifs ti) (he : ∀ C fp s H,PE (S2 X scope N' C fp s H) elt te)
  (hsw : swapsWith (.ListComp elt [⟨tg,iter,ifs,0⟩] scope pos) (some (.Name y py)) spos.line X.env = pure true := by rfl)
  (hs : ∀ x,foldedSetIterable iter X.env x = pure x := by intro _; rfl) : PS X (.Assign [.Name y py] (.ListComp elt [⟨tg,iter,ifs,0⟩] scope pos) spos) (AB2 (uV wi fr g ti te) (P6 i)) := by
 intro pins s σ H D I h
 rw [exec_Assign_Name_used _ _ _ _ hsw]
 refine wpAny_bind (wpAny_standAt (wpAny_bind ?_))
 show wpAny _ X.A (do let _ ← comprehension (.ListComp elt [⟨tg,iter,ifs,0⟩] scope pos) scope X.env _ (newList []) false (eval iter X.env) (some (assign (.Name y py) X.env))) _ _ s
 refine wpAny_bind (wpAny_mono (wpAny_comprehension_free (use := some (assign (.Name y py) X.env)) (Q := fun _ s'=>SP X pins D .next s') rfl hs (fJ (c.hfree I)) c.kind c.hnames
  (J1 (hi pins s σ H _ I h) fun v s1 h1=>J1 h1 fun itv s2 h2=>?_)) (fun _ s' hq=>wpAny_pure (wpAny_pure hq)) fun _ _ e=>e)
 obtain ⟨it,fp,tn,J,H2,e,I2,T,st2,f2,R⟩ := h2
 subst e
 refine kF (Q := fun x H1=>P6 i x σ H1 D.nx) (RR := fun acc C=>compPost (model X.prog X.w) X.A X.xe (some (assign (.Name y py) X.env)) (fun _ s'=>SP X pins D .next s') acc C) c hc hg ho ht he I2 T st2 f2 R ?_
 intro l C s' H' I' hn hC hle q
 obtain ⟨m,hn⟩ := hn
 have cl : ∀ x cc,X.env.cells.lookup x = some cc → cc ≠ C := fun x cc e z=>by
  obtain ⟨v,o,ho,_⟩ := I2.cell x cc e
  exact absurd (Nat.lt_of_lt_of_le (Heap.lt_size ho) (by rw [z]; exact hle)) (Nat.lt_irrefl _)
 show wpAny _ X.A (assign (.Name y py) X.env (.ref l)) _ _ s'
 refine wpAny_assign_Name (mE I' hN hy (.inl hx) (v := .ref l) rfl (fun s5 I5 hsb=>?_) (.inr hx))
 obtain ⟨a,hsb,ha⟩ := hsb
 have hCa : C ≠ a := by
  rcases ha with e | e
  ·rw [e]; exact Nat.ne_of_gt (Nat.lt_of_lt_of_le I2.lt hle)
  ·exact Ne.symm (cl _ _ e)
 refine ⟨m,hn.sameBut hsb hCa,fun h' hs'=>⟨_,H',?_,q⟩⟩
 exact I5.turned (t' := s5.toks) (fun b o hb e=>hs'.extBut b o hb e) hC (Nat.ne_of_gt (Nat.lt_of_lt_of_le I2.lt hle)) (.inr (Nat.le_trans I2.sz hle)) cl fun p hp z =>
  absurd (Nat.lt_of_lt_of_le (Heap.lt_size (I2.pin p hp).1) (by rw [z]; exact hle)) (Nat.lt_irrefl _)
end
section
variable {fr : List (Option Nat)} {g : TG} {ti : TT} {te : TE} {σ : St} {H1 : Hp} {l : Addr} {Q : VK}
def V0 (fr : List (Option Nat)) (g : TG) (ti : TT) (te : TE) (σ : St) (l : Addr) (x : V) (ys : List V) (H : Hp) (N : List V → Hp → Prop) : Prop :=
 g x (cD fr σ) H fun σ3 H3=>ti σ3 H3 fun b H4=>if b = true then te σ3 H4 fun y H5=>H5 l = some (.lst ys) ∧ ys.length < sizeLine ∧ N (ys ++ [y]) (upd H5 l (.lst (ys ++ [y]))) else N ys H4
theorem cI {K : PySem.W.Frag} {a : Addr} {xs : List V} (Pv : Nat → List V → Hp → Prop) (h0 : Pv 0 [] (upd H1 l (.lst []))) (hl : ∀ i ys H,i ≤ xs.length → Pv i ys H → SqL K H a xs)
  (hs : ∀ i x ys H,xs[i]? = some x → Pv i ys H → V0 fr g ti te σ l x ys H (Pv (i + 1))) (hd : ∀ ys H,Pv xs.length ys H → Q (.ref l) H) : iP (uO K a) fr g ti te σ H1 l Q := by
 refine ⟨fun i m ys H=>m = xs.length - i ∧ i ≤ xs.length ∧ Pv i ys H,⟨xs.length,by simp,Nat.zero_le _,h0⟩,?_⟩
 rintro i m ys H ⟨rfl,hi,p⟩
 have q := hl i ys H hi p
 by_cases hlt : i < xs.length
 ·refine .inr ⟨⟨xs,xs[i],q,by simp [hlt]⟩,Pv (i + 1),fun zs H' p'=>⟨xs.length - (i + 1),by omega,rfl,hlt,p'⟩,fun x H' y=>?_⟩
  obtain ⟨e,y⟩ := y
  subst e
  exact hs i x ys _ (y xs q) p
 ·have e : i = xs.length := by omega
  subst e
  exact .inl ⟨⟨xs,q,Nat.le_refl _⟩,hd ys H p⟩
theorem fB {K : PySem.W.Frag} {a : Addr} {xs : List V} (Pv : Nat → List V → Hp → Prop) (h0 : Pv 0 [] (upd H1 l (.lst []))) (hl : ∀ i ys H,i ≤ xs.length → Pv i ys H → SqT K H a xs)
  (hs : ∀ i x ys H,xs[i]? = some x → Pv i ys H → V0 fr g ti te σ l x ys H (Pv (i + 1))) (hd : ∀ ys H,Pv xs.length ys H → Q (.ref l) H) : iP (uN K a) fr g ti te σ H1 l Q := by
 refine ⟨fun i m ys H=>m = xs.length - i ∧ i ≤ xs.length ∧ Pv i ys H,⟨xs.length,by simp,Nat.zero_le _,h0⟩,?_⟩
 rintro i m ys H ⟨rfl,hi,p⟩
 have q := hl i ys H hi p
 by_cases hlt : i < xs.length
 ·refine .inr ⟨⟨xs,xs[i],q,by simp [hlt]⟩,Pv (i + 1),fun zs H' p'=>⟨xs.length - (i + 1),by omega,rfl,hlt,p'⟩,fun x H' y=>?_⟩
  obtain ⟨e,y⟩ := y
  subst e
  exact hs i x ys _ (y xs q) p
 ·have e : i = xs.length := by omega
  subst e
  exact .inl ⟨⟨xs,q,Nat.le_refl _⟩,hd ys H p⟩
theorem fC {lo : Int} {n : Nat} (Pv : Nat → List V → Hp → Prop) (h0 : Pv 0 [] (upd H1 l (.lst [])))
  (hs : ∀ i ys H,i < n → Pv i ys H → V0 fr g ti te σ l (.int (lo + i)) ys H (Pv (i + 1))) (hd : ∀ ys H,Pv n ys H → Q (.ref l) H) : iP (nM lo n) fr g ti te σ H1 l Q := by
 refine ⟨fun i m ys H=>m = n - i ∧ i ≤ n ∧ Pv i ys H,⟨n,by simp,Nat.zero_le _,h0⟩,?_⟩
 rintro i m ys H ⟨rfl,hi,p⟩
 by_cases hlt : i < n
 ·refine .inr ⟨hlt,Pv (i + 1),fun zs H' p'=>⟨n - (i + 1),by omega,rfl,hlt,p'⟩,fun x H' y=>?_⟩
  obtain ⟨e,y⟩ := y
  subst e y
  exact hs i ys _ hlt p
 ·have e : i = n := by omega
  subst e
  exact .inl ⟨Nat.le_refl _,hd ys H p⟩
end
end L2
namespace L2.Srt
open PySem PySem.W PyProof.Rows
def ev {α : Type} (lt : Nat → Nat → Bool) : KasT α → α
 | .ret a=>a
 | .ask i j k=>ev lt (k (lt i j))
theorem aW {α β : Type} (lt : Nat → Nat → Bool) (f : α → KasT β) : ∀ t : KasT α,ev lt (t.bind f) = ev lt (f (ev lt t))
 | .ret a=>rfl
 | .ask i j k=>aW lt f (k (lt i j))
structure Ord (lt : Nat → Nat → Bool) : Prop where
 irr : ∀ a,lt a a = false
 asym : ∀ a b,lt a b = true → lt b a = false
 tr : ∀ a b c,lt b a = false → lt c b = false → lt c a = false
section
variable {lt : Nat → Nat → Bool}
def at' (p : Array Nat) (k : Nat) : Nat := p.getD k 0
theorem aS (p : Array Nat) (k : Nat) : at' p k = (p[k]?).getD 0 := by unfold at'; rw [Array.getD_eq_getD_getElem?]
theorem W5 {p : Array Nat} {i j k : Nat} (hj : j ≤ p.size) : at' (kas_rev p i j) k = if i ≤ k ∧ k < j then at' p (i + j - 1 - k) else at' p k := by
 rw [aS,aS,aS]
 unfold kas_rev
 rw [getElem?_mirror_all hj]
 split <;> rfl
theorem AA3 {p : Array Nat} {src d k : Nat} (hs : src < p.size) (hd : d ≤ src) : at' (bubble p src d) k = if k = src - d then at' p src else if src - d < k ∧ k ≤ src then at' p (k - 1) else at' p k := by
 rw [aS,aS,aS,aS]
 rw [getElem?_bubble hs d hd]
 split
 ·rfl
 ·split <;> rfl
theorem eG (p : Array Nat) (i j : Nat) : (kas_rev p i j).size = p.size := mirror_size _ _ _ _
theorem aY (p : Array Nat) (i j : Nat) : (kas_rev p i j).Perm p := mirror_perm _ _ _ _
def Up (lt : Nat → Nat → Bool) (p : Array Nat) (n : Nat) : Prop := ∀ i j,i ≤ j → j < n → lt (at' p j) (at' p i) = false
def gU (lt : Nat → Nat → Bool) (p : Array Nat) (n : Nat) : Prop := ∀ i j,i ≤ j → j < n → lt (at' p i) (at' p j) = false
theorem AK6 (O : Ord lt) {p : Array Nat} {n : Nat} (h : Up lt p n) (h1 : 1 ≤ n) (hq : lt (at' p n) (at' p (n - 1)) = false) : Up lt p (n + 1) := fun i j hij hj=>by
 by_cases e : j = n
 ·subst e
  by_cases e2 : i = j
  ·subst e2; exact O.irr _
  ·exact O.tr _ _ _ (h i (j - 1) (by omega) (by omega)) hq
 ·exact h i j hij (by omega)
theorem aE (O : Ord lt) {p : Array Nat} {n : Nat} (h : gU lt p n) (h1 : 1 ≤ n) (hq : lt (at' p (n - 1)) (at' p n) = false) : gU lt p (n + 1) := fun i j hij hj=>by
 by_cases e : j = n
 ·subst e
  by_cases e2 : i = j
  ·subst e2; exact O.irr _
  ·exact O.tr _ _ _ hq (h i (j - 1) (by omega) (by omega))
 ·exact h i j hij (by omega)
theorem jF (O : Ord lt) (p : Array Nat) : ∀ (f n : Nat),1 ≤ n → Up lt p n →
  n ≤ ev lt (kas_asc p f n) ∧ ev lt (kas_asc p f n) ≤ n + f ∧ Up lt p (ev lt (kas_asc p f n)) ∧ (ev lt (kas_asc p f n) < n + f → lt (at' p (ev lt (kas_asc p f n))) (at' p (ev lt (kas_asc p f n) - 1)) = true)
 | 0,n,h1,h=>⟨Nat.le_refl _,Nat.le_refl _,h,fun z=>absurd z (Nat.lt_irrefl _)⟩
 | f + 1,n,h1,h=>by
  show n ≤ ev lt (if lt (at' p n) (at' p (n - 1)) = true then KasT.ret n else kas_asc p f (n + 1)) ∧ ev lt (if lt (at' p n) (at' p (n - 1)) = true then KasT.ret n else kas_asc p f (n + 1)) ≤ n + (f + 1) ∧
   Up lt p (ev lt (if lt (at' p n) (at' p (n - 1)) = true then KasT.ret n else kas_asc p f (n + 1))) ∧ (ev lt (if lt (at' p n) (at' p (n - 1)) = true then KasT.ret n else kas_asc p f (n + 1)) < n + (f + 1) →
   lt (at' p (ev lt (if lt (at' p n) (at' p (n - 1)) = true then KasT.ret n else kas_asc p f (n + 1)))) (at' p (ev lt (if lt (at' p n) (at' p (n - 1)) = true then KasT.ret n else kas_asc p f (n + 1)) - 1)) = true)
  by_cases hq : lt (at' p n) (at' p (n - 1)) = true
  ·rw [if_pos hq]
   exact ⟨Nat.le_refl _,by show n ≤ _; omega,h,fun _=>hq⟩
  ·rw [if_neg hq]
   obtain ⟨a,b,c,d⟩ := jF O p f (n + 1) (by omega) (AK6 O h h1 (by simpa using hq))
   exact ⟨by omega,by omega,c,fun z=>d (by omega)⟩
theorem qT {p : Array Nat} {n i : Nat} (hn : n ≤ p.size) (h : gU lt p n) (he : ∀ a b,i ≤ a → a < n → i ≤ b → b < n → lt (at' p a) (at' p b) = false) : gU lt (kas_rev p i n) n := fun a b hab hb=>by
 rw [W5 hn,W5 hn]
 by_cases h1 : i ≤ a ∧ a < n
 ·rw [if_pos h1,if_pos (by omega)]
  exact he _ _ (by omega) (by omega) (by omega) (by omega)
 ·rw [if_neg h1]
  by_cases h2 : i ≤ b ∧ b < n
  ·rw [if_pos h2]
   exact h _ _ (by omega) (by omega)
  ·rw [if_neg h2]
   exact h _ _ hab hb
structure wF (lt : Nat → Nat → Bool) (p0 p : Array Nat) (n q N : Nat) : Prop where
 sz : p.size = p0.size
 pm : p.Perm p0
 n1 : 1 ≤ n
 nN : n ≤ N
 dn : gU lt p n
 q1 : q + 1 ≤ n
 eq : ∀ a b,n - (q + 1) ≤ a → a < n → n - (q + 1) ≤ b → b < n → lt (at' p a) (at' p b) = false
theorem cH (O : Ord lt) {p0 : Array Nat} {N : Nat} (hN : N ≤ p0.size) : ∀ (f : Nat) (p : Array Nat) (n q : Nat),n + f = N → wF lt p0 p n q N →
  wF lt p0 (ev lt (kas_desc f p n q)).1 (ev lt (kas_desc f p n q)).2.1 (ev lt (kas_desc f p n q)).2.2 N
 | 0,p,n,q,_,h=>h
 | f + 1,p,n,q,hf,h=>by
  show wF lt p0 (ev lt (if lt (at' p n) (at' p (n - 1)) = true then (if q > 0 then kas_desc f (kas_rev p (n - (q + 1)) n) (n + 1) 0 else kas_desc f p (n + 1) 0) else .ask (at' p (n - 1)) (at' p n) fun d=>if d = true then .ret (p,n,q) else kas_desc f p (n + 1) (q + 1))).1 _ _ N
  have single : ∀ {p' : Array Nat} (a b : Nat),n + 1 - (0 + 1) ≤ a → a < n + 1 → n + 1 - (0 + 1) ≤ b → b < n + 1 → lt (at' p' a) (at' p' b) = false := fun a b h1 h2 h3 h4=>by
   have e : a = b := by omega
   subst e; exact O.irr _
  by_cases hq : lt (at' p n) (at' p (n - 1)) = true
  ·have e : (kas_desc (f + 1) p n q) = .ask (at' p n) (at' p (n - 1)) fun c=>if c = true then (if q > 0 then kas_desc f (kas_rev p (n - (q + 1)) n) (n + 1) 0 else kas_desc f p (n + 1) 0) else .ask (at' p (n - 1)) (at' p n) fun d=>if d = true then .ret (p,n,q) else kas_desc f p (n + 1) (q + 1) := rfl
   have e2 : ev lt (kas_desc (f + 1) p n q) = ev lt (if q > 0 then kas_desc f (kas_rev p (n - (q + 1)) n) (n + 1) 0 else kas_desc f p (n + 1) 0) := by
    rw [e]
    show ev lt (if lt (at' p n) (at' p (n - 1)) = true then _ else _) = _
    rw [if_pos hq]
   rw [if_pos hq]
   rw [e2]
   have hps : n ≤ p.size := by rw [h.sz]; omega
   by_cases hq0 : q > 0
   ·rw [if_pos hq0]
    have hd := qT (lt := lt) (i := n - (q + 1)) hps h.dn h.eq
    have hn1 := h.n1
    have hq1 := h.q1
    refine cH O hN f _ _ _ (by omega) ⟨by rw [eG]; exact h.sz,(aY _ _ _).trans h.pm,by omega,by omega,aE O hd h.n1 ?_,by omega,single⟩
    rw [W5 hps,W5 hps,if_pos (by omega),if_neg (by omega)]
    have z : lt (at' p (n - 1)) (at' p (n - (q + 1) + n - 1 - (n - 1))) = false := h.eq _ _ (by omega) (by omega) (by omega) (by omega)
    exact O.tr _ _ _ (O.asym _ _ hq) (h.eq _ _ (by omega) (by omega) (by omega) (by omega))
   ·rw [if_neg hq0]
    exact cH O hN f _ _ _ (by omega) ⟨h.sz,h.pm,by omega,by omega,aE O h.dn h.n1 (O.asym _ _ hq),by omega,single⟩
  ·have hqf : lt (at' p n) (at' p (n - 1)) = false := by simpa using hq
   have e2 : ev lt (kas_desc (f + 1) p n q) = ev lt (if lt (at' p (n - 1)) (at' p n) = true then .ret (p,n,q) else kas_desc f p (n + 1) (q + 1)) := by
    show ev lt (if lt (at' p n) (at' p (n - 1)) = true then _ else _) = _
    rw [if_neg hq]
    rfl
   rw [if_neg hq]
   rw [e2]
   show wF lt p0 (ev lt (if lt (at' p (n - 1)) (at' p n) = true then .ret (p,n,q) else kas_desc f p (n + 1) (q + 1))).1 _ _ N
   by_cases hr : lt (at' p (n - 1)) (at' p n) = true
   ·rw [if_pos hr]
    exact h
   ·rw [if_neg hr]
    have hrf : lt (at' p (n - 1)) (at' p n) = false := by simpa using hr
    have hn1 := h.n1
    have hq1 := h.q1
    refine cH O hN f _ _ _ (by omega) ⟨h.sz,h.pm,by omega,by omega,aE O h.dn h.n1 hrf,by omega,fun a b h1 h2 h3 h4=>?_⟩
    by_cases ea : a = n
    ·by_cases eb : b = n
     ·subst ea; subst eb; exact O.irr _
     ·subst ea
      exact O.tr _ _ _ (h.eq b (a - 1) (by omega) (by omega) (by omega) (by omega) |> fun z=>h.eq (a - 1) b (by omega) (by omega) (by omega) (by omega)) hqf
    ·by_cases eb : b = n
     ·subst eb
      exact O.tr _ _ _ hrf (h.eq a (b - 1) (by omega) (by omega) (by omega) (by omega))
     ·exact h.eq a b (by omega) (by omega) (by omega) (by omega)
theorem uR {p : Array Nat} {n : Nat} (hn : n ≤ p.size) (h : gU lt p n) : Up lt (kas_rev p 0 n) n := fun i j hij hj=>by
 rw [W5 hn,W5 hn,if_pos (by omega),if_pos (by omega)]
 exact h _ _ (by omega) (by omega)
structure wG (lt : Nat → Nat → Bool) (p0 : Array Nat) (r : Nat × Array Nat) (N : Nat) : Prop where
 sz : r.2.size = p0.size
 pm : r.2.Perm p0
 n1 : 1 ≤ r.1
 nN : r.1 ≤ N
 up : Up lt r.2 r.1
theorem jK (O : Ord lt) {p0 p : Array Nat} {n N : Nat} (hN : N ≤ p0.size) (hs : p.size = p0.size) (hp : p.Perm p0) (h1 : 1 ≤ n) (hn : n ≤ N) (hd : gU lt p n) : wG lt p0 (ev lt (kas_tail3 n N p)) N := by
 have e : ev lt (kas_tail3 n N p) = (ev lt (kas_asc (kas_rev p 0 n) (N - n) n),kas_rev p 0 n) := by
  unfold kas_tail3
  rw [aW]
  rfl
 obtain ⟨a,b,c,d⟩ := jF O (kas_rev p 0 n) (N - n) n h1 (uR (by omega) hd)
 rw [e]
 exact ⟨by show (kas_rev p 0 n).size = _; rw [eG,hs],(aY _ _ _).trans hp,by show 1 ≤ ev lt _; omega,by show ev lt _ ≤ N; omega,c⟩
theorem fI (O : Ord lt) {p0 p : Array Nat} {n N : Nat} (hN : N ≤ p0.size) (hs : p.size = p0.size) (hp : p.Perm p0) (h1 : 1 ≤ n) (hn : n + 1 ≤ N) (hd : gU lt p (n + 1)) : wG lt p0 (ev lt (kas_descPart n N p)) N := by
 have D := cH O hN (N - (n + 1)) p (n + 1) 0 (by omega) ⟨hs,hp,by omega,hn,hd,by omega,fun a b h1 h2 h3 h4=>by
  have e : a = b := by omega
  subst e; exact O.irr _⟩
 unfold kas_descPart
 rw [aW]
 generalize ev lt (kas_desc (N - (n + 1)) p (n + 1) 0) = r at D ⊢
 by_cases hq : r.2.2 > 0
 ·rw [if_pos hq]
  have hz : r.2.1 ≤ r.1.size := by rw [D.sz]; exact Nat.le_trans D.nN hN
  exact jK O hN (by rw [eG]; exact D.sz) ((aY _ _ _).trans D.pm) D.n1 D.nN (qT hz D.dn D.eq)
 ·rw [if_neg hq]
  exact jK O hN D.sz D.pm D.n1 D.nN D.dn
theorem vY (O : Ord lt) {p0 : Array Nat} {N : Nat} (hN : N ≤ p0.size) (h1 : 1 ≤ N) : wG lt p0 (ev lt (kas_count N p0)) N := by
 obtain ⟨a,b,c,d⟩ := jF O p0 (N - 1) 1 (Nat.le_refl _) (fun i j hij hj=>by
  have e : i = j := by omega
  subst e; exact O.irr _)
 unfold kas_count
 rw [aW]
 generalize ev lt (kas_asc p0 (N - 1) 1) = n at a b c d ⊢
 by_cases e : n = N
 ·rw [if_pos (by simp [e])]
  exact ⟨rfl,Array.Perm.refl _,a,by show n ≤ N; omega,c⟩
 ·rw [if_neg (by simp [e])]
  have hlt := d (by omega)
  by_cases h2 : n > 1
  ·rw [if_pos h2]
   show wG lt p0 (ev lt (if lt (at' p0 0) (at' p0 (n - 1)) = true then .ret (n,p0) else kas_descPart n N (kas_rev p0 0 n))) N
   by_cases hq : lt (at' p0 0) (at' p0 (n - 1)) = true
   ·rw [if_pos hq]
    exact ⟨rfl,Array.Perm.refl _,a,by show n ≤ N; omega,c⟩
   ·rw [if_neg hq]
    have hqf : lt (at' p0 0) (at' p0 (n - 1)) = false := by simpa using hq
    have all : ∀ i j,i < n → j < n → lt (at' p0 i) (at' p0 j) = false := fun i j hi hj =>
     O.tr _ _ _ (O.tr _ _ _ (c j (n - 1) (by omega) (by omega)) hqf |> fun z=>z) (c 0 i (by omega) hi) |> fun z=>by
      exact z
    refine fI O hN (eG _ _ _) (aY _ _ _) a (by omega) (aE O (fun i j hij hj=>?_) a ?_)
    ·rw [W5 (by omega),W5 (by omega),if_pos (by omega),if_pos (by omega)]
     exact all _ _ (by omega) (by omega)
    ·rw [W5 (by omega),W5 (by omega),if_pos (by omega),if_neg (by omega)]
     exact O.tr _ _ _ (O.asym _ _ hlt) (all _ _ (by omega) (by omega))
  ·rw [if_neg h2]
   have e1 : n = 1 := by omega
   subst e1
   refine fI O hN rfl (Array.Perm.refl _) a (by omega) (aE O (fun i j hij hj=>?_) a (O.asym _ _ hlt))
   have e : i = j := by omega
   subst e; exact O.irr _
theorem eM (O : Ord lt) {p : Array Nat} {k : Nat} (hu : Up lt p k) : ∀ (f l r : Nat),r - l ≤ f → l ≤ r → r ≤ k → (∀ j,j < l → lt (at' p k) (at' p j) = false) → (∀ j,r ≤ j → j < k → lt (at' p k) (at' p j) = true) →
  ev lt (kas_place p k f l r) ≤ k ∧ (∀ j,j < ev lt (kas_place p k f l r) → lt (at' p k) (at' p j) = false) ∧ ∀ j,ev lt (kas_place p k f l r) ≤ j → j < k → lt (at' p k) (at' p j) = true
 | 0,l,r,hf,hl,hr,h1,h2=>⟨by show l ≤ k; omega,h1,fun j hj hk=>h2 j (by have : l ≤ j := hj; omega) hk⟩
 | f + 1,l,r,hf,hl,hr,h1,h2=>by
  by_cases hge : l ≥ r
  ·have e : kas_place p k (f + 1) l r = .ret l := by
    show (if l ≥ r then KasT.ret l else _) = _
    rw [if_pos hge]
   rw [e]
   exact ⟨by show l ≤ k; omega,h1,fun j hj hk=>h2 j (by have : l ≤ j := hj; omega) hk⟩
  ·by_cases hq : lt (at' p k) (at' p ((l + r) / 2)) = true
   ·have e : ev lt (kas_place p k (f + 1) l r) = ev lt (kas_place p k f l ((l + r) / 2)) := by
     show ev lt (if l ≥ r then KasT.ret l else KasT.ask (at' p k) (at' p ((l + r) / 2)) fun c=>if c = true then kas_place p k f l ((l + r) / 2) else kas_place p k f ((l + r) / 2 + 1) r) = _
     rw [if_neg hge]
     show ev lt (if lt (at' p k) (at' p ((l + r) / 2)) = true then _ else _) = _
     rw [if_pos hq]
    rw [e]
    refine eM O hu f l ((l + r) / 2) (by omega) (by omega) (by omega) h1 fun j hj hk=>?_
    cases hz : lt (at' p k) (at' p j) with
    | true=>rfl
    | false =>
     have := O.tr _ _ _ (hu ((l + r) / 2) j hj hk) hz
     rw [hq] at this; cases this
   ·have hqf : lt (at' p k) (at' p ((l + r) / 2)) = false := by simpa using hq
    have e : ev lt (kas_place p k (f + 1) l r) = ev lt (kas_place p k f ((l + r) / 2 + 1) r) := by
     show ev lt (if l ≥ r then KasT.ret l else KasT.ask (at' p k) (at' p ((l + r) / 2)) fun c=>if c = true then kas_place p k f l ((l + r) / 2) else kas_place p k f ((l + r) / 2 + 1) r) = _
     rw [if_neg hge]
     show ev lt (if lt (at' p k) (at' p ((l + r) / 2)) = true then _ else _) = _
     rw [if_neg hq]
    rw [e]
    refine eM O hu f _ r (by omega) (by omega) hr (fun j hj=>?_) h2
    exact O.tr _ _ _ (hu j ((l + r) / 2) (by omega) (by omega)) hqf
theorem rF (O : Ord lt) {p0 : Array Nat} : ∀ (f : Nat) (p : Array Nat) (k : Nat),p.size = p0.size → p.Perm p0 → k + f = p0.size → Up lt p k →
  (ev lt (kas_bin f p k)).size = p0.size ∧ (ev lt (kas_bin f p k)).Perm p0 ∧ Up lt (ev lt (kas_bin f p k)) p0.size
 | 0,p,k,hs,hp,hk,hu=>⟨hs,hp,by rw [← hk]; exact hu⟩
 | f + 1,p,k,hs,hp,hk,hu=>by
  have e : ev lt (kas_bin (f + 1) p k) = ev lt (kas_bin f (bubble p k (k - ev lt (kas_place p k k 0 k))) (k + 1)) := by
   show ev lt ((kas_place p k k 0 k).bind _) = _
   rw [aW]
  obtain ⟨a,b,c⟩ := eM O hu k 0 k (by omega) (by omega) (Nat.le_refl _) (fun j hj=>absurd hj (Nat.not_lt_zero _)) (fun j h1 h2=>by omega)
  rw [e]
  generalize ev lt (kas_place p k k 0 k) = l at a b c ⊢
  have hkz : k < p.size := by rw [hs]; omega
  refine rF O f _ _ (by rw [bubble_size]; exact hs) ((bubble_perm _ _ _).trans hp) (by omega) fun i j hij hj=>?_
  rw [AA3 hkz (by omega),AA3 hkz (by omega)]
  have el : k - (k - l) = l := by omega
  rw [el]
  by_cases h1 : j = l
  ·rw [if_pos h1]
   by_cases h2 : i = l
   ·rw [if_pos h2]; exact O.irr _
   ·rw [if_neg h2,if_neg (by omega)]
    exact b i (by omega)
  ·rw [if_neg h1]
   by_cases h3 : l < j ∧ j ≤ k
   ·rw [if_pos h3]
    by_cases h2 : i = l
    ·rw [if_pos h2]
     exact O.asym _ _ (c (j - 1) (by omega) (by omega))
    ·rw [if_neg h2]
     by_cases h4 : l < i ∧ i ≤ k
     ·rw [if_pos h4]; exact hu _ _ (by omega) (by omega)
     ·rw [if_neg h4]; exact hu _ _ (by omega) (by omega)
   ·rw [if_neg h3]
    rw [if_neg (by omega),if_neg (by omega)]
    exact hu _ _ hij (by omega)
theorem xE (O : Ord lt) {N : Nat} (h1 : 1 ≤ N) : (ev lt (kas_sort N)).size = N ∧ (ev lt (kas_sort N)).toList.Perm (List.range N) ∧ Up lt (ev lt (kas_sort N)) N := by
 have hs : (List.toArray (List.range N)).size = N := by simp
 have C := vY O (p0 := List.toArray (List.range N)) (N := N) (by rw [hs]; exact Nat.le_refl _) h1
 unfold kas_sort
 rw [aW]
 generalize ev lt (kas_count N (List.toArray (List.range N))) = r at C ⊢
 have n1 := C.n1
 have nN := C.nN
 have C2 : r.2.size = N := by rw [C.sz,hs]
 by_cases hlt : r.1 < N
 ·rw [if_pos hlt]
  have em : max r.1 1 = r.1 := by omega
  rw [em]
  obtain ⟨a,b,c⟩ := rF O (p0 := List.toArray (List.range N)) (N - r.1) r.2 r.1 C.sz C.pm (by rw [hs]; omega) C.up
  rw [hs] at a c
  refine ⟨a,?_,c⟩
  have := Array.perm_iff_toList_perm.mp b
  simpa using this
 ·rw [if_neg hlt]
  have e : r.1 = N := by omega
  refine ⟨C2,?_,?_⟩
  ·have z : r.2.toList.Perm (List.range N) := by simpa using Array.perm_iff_toList_perm.mp C.pm
   exact z
  ·have := C.up; rw [e] at this; exact this
end
end L2.Srt
namespace L2
open PySem PySem.Spec PyProof.Rows
mutual
def DatV (K : PySem.W.Frag) (H : Hp) : PyData → V → Prop
 | .none,v=>v = .non
 | .bool b,v=>v = .bl b
 | .int i,v=>v = .int i
 | .str x,v=>v = .str x
 | .list ds,v=>∃ a ys,v = .ref a ∧ SqL K H a ys ∧ DatAll K H ds ys
 | .tuple ds,v=>∃ a ys,v = .ref a ∧ SqT K H a ys ∧ DatAll K H ds ys
 | .dict _,_=>False
def DatAll (K : PySem.W.Frag) (H : Hp) : List PyData → List V → Prop
 | [],ys=>ys = []
 | d :: ds,ys=>∃ y r,ys = y :: r ∧ DatV K H d y ∧ DatAll K H ds r
end
section
variable {X : Cx} {pins : List (Addr × Obj)} {σ : St} {H : Hp} {s : Shared}
mutual
theorem Y5 (I : Inv X pins σ H s) : ∀ (d : PyData) (v : V) (u : Value),DatV X.K H d v → RelV v u → ∃ as,Reads s.heap u d as
 | .none,v,u,h,r=>by
  simp only [DatV] at h; subst h; cases r; exact ⟨_,.none⟩
 | .bool b,v,u,h,r=>by
  simp only [DatV] at h; subst h; cases r; exact ⟨_,.bool b⟩
 | .int i,v,u,h,r=>by
  simp only [DatV] at h; subst h; obtain ⟨t,rfl⟩ := r; exact ⟨_,.int i t⟩
 | .str x,v,u,h,r=>by
  simp only [DatV] at h; subst h; obtain ⟨t,rfl⟩ := r; exact ⟨_,.str x t⟩
 | .list ds,v,u,h,r=>by
  simp only [DatV] at h
  obtain ⟨a,ys,rfl,hq,hd⟩ := h
  cases r
  obtain ⟨its,rv,⟨o,n,e,c,_,dd⟩,_⟩ := I.list hq
  obtain ⟨as,hr⟩ := cL I ds ys its hd rv
  exact ⟨_,.list e c dd (by simpa using hr)⟩
 | .tuple ds,v,u,h,r=>by
  simp only [DatV] at h
  obtain ⟨a,ys,rfl,hq,hd⟩ := h
  cases r
  obtain ⟨its,rv,⟨o,e,c,n,dd⟩,_⟩ := I.tuple hq
  obtain ⟨as,hr⟩ := cL I ds ys its hd rv
  exact ⟨_,.tuple e c dd (by simpa using hr)⟩
 | .dict _,v,u,h,r=>by simp only [DatV] at h
theorem cL (I : Inv X pins σ H s) : ∀ (ds : List PyData) (vs : List V) (us : List Value),DatAll X.K H ds vs → Vals vs us → ∃ as,ReadsAll s.heap us ds as
 | [],vs,us,h,r=>by
  simp only [DatAll] at h; subst h; cases r; exact ⟨_,.nil⟩
 | d :: ds,vs,us,h,r=>by
  simp only [DatAll] at h
  obtain ⟨y,rr,rfl,h1,h2⟩ := h
  cases r with
  | cons r1 r2 =>
   obtain ⟨as,q1⟩ := Y5 I d y _ h1 r1
   obtain ⟨bs,q2⟩ := cL I ds rr _ h2 r2
   exact ⟨_,.cons q1 q2⟩
end
end
def rM (K : PySem.W.Frag) (H H' : Hp) : Prop := (∀ a ys,SqL K H a ys → SqL K H' a ys) ∧ ∀ a ys,SqT K H a ys → SqT K H' a ys
mutual
theorem DatV.mono {K : PySem.W.Frag} {H H' : Hp} (k : rM K H H') : ∀ (d : PyData) (v : V),DatV K H d v → DatV K H' d v
 | .none,v,h=>by simp only [DatV] at h ⊢; exact h
 | .bool b,v,h=>by simp only [DatV] at h ⊢; exact h
 | .int i,v,h=>by simp only [DatV] at h ⊢; exact h
 | .str x,v,h=>by simp only [DatV] at h ⊢; exact h
 | .list ds,v,h=>by
  simp only [DatV] at h ⊢
  obtain ⟨a,ys,e,hq,hd⟩ := h
  exact ⟨a,ys,e,k.1 a ys hq,DatAll.mono k ds ys hd⟩
 | .tuple ds,v,h=>by
  simp only [DatV] at h ⊢
  obtain ⟨a,ys,e,hq,hd⟩ := h
  exact ⟨a,ys,e,k.2 a ys hq,DatAll.mono k ds ys hd⟩
 | .dict _,v,h=>by simp only [DatV] at h
theorem DatAll.mono {K : PySem.W.Frag} {H H' : Hp} (k : rM K H H') : ∀ (ds : List PyData) (vs : List V),DatAll K H ds vs → DatAll K H' ds vs
 | [],vs,h=>by simp only [DatAll] at h ⊢; exact h
 | d :: ds,vs,h=>by
  simp only [DatAll] at h ⊢
  obtain ⟨y,r,e,h1,h2⟩ := h
  exact ⟨y,r,e,DatV.mono k d y h1,DatAll.mono k ds r h2⟩
end
theorem SqT.keep {K : PySem.W.Frag} {H H' : Hp} (k : ∀ b u,(H b = some (.tup u) → H' b = some (.tup u)) ∧ ∀ o,H b = some (.frz o (.tup u)) → H' b = some (.frz o (.tup u))) {a : Addr} {ys : List V} (h : SqT K H a ys) : SqT K H' a ys := by
 rcases h with (h | ⟨o,h⟩) | h
 ·exact .inl (.inl ((k a ys).1 h))
 ·exact .inl (.inr ⟨o,(k a ys).2 o h⟩)
 ·exact .inr h
theorem Same.seqT {K : PySem.W.Frag} {H H' : Hp} (e : Same H H') {a : Addr} {xs : List V} (h : SqT K H a xs) : SqT K H' a xs := h.keep fun b u=>⟨fun q=>e _ _ q,fun o q=>e _ _ q⟩
theorem Same.keeps2 {K : PySem.W.Frag} {H H' : Hp} (e : Same H H') : rM K H H' := ⟨fun _ _ h=>e.seq h,fun _ _ h=>e.seqT h⟩
def AT4 (K : PySem.W.Frag) : R2 := fun x y H Q=>∃ dx dy,DatV K H dx x ∧ DatV K H dy y ∧ dx.canLay0 = true ∧ dy.canLay0 = true ∧ min dx.depth dy.depth ≤ 60 ∧ Q (.bl (PyData.eqv dx dy)) H
def AT3 (K : PySem.W.Frag) : R2 := fun x y H Q=>∃ dx dy,DatV K H dx x ∧ DatV K H dy y ∧ dx.canLay0 = true ∧ dy.canLay0 = true ∧ min dx.depth dy.depth ≤ 60 ∧ Q (.bl (!PyData.eqv dx dy)) H
section
variable {X : Cx}
theorem W1 (hu : X.A.units + 64 < cLine) : Q1 X (compareOp .Eq) (AT4 X.K) := by
 intro pins s σ H x y v u Q I rx ry h
 obtain ⟨dx,dy,h1,h2,c1,c2,hm,q⟩ := h
 obtain ⟨as,r1⟩ := Y5 I dx x v h1 rx
 obtain ⟨bs,r2⟩ := Y5 I dy y u h2 ry
 exact PySem.SeqAt.eqOverData X.prog X.w X.A X.xe s v u dx dy as bs _ r1 r2 c1 c2 (by omega) ⟨.bl _,H,I,rfl,q⟩
theorem AU1 (hu : X.A.units + 64 < cLine) : Q1 X (compareOp .NotEq) (AT3 X.K) := by
 intro pins s σ H x y v u Q I rx ry h
 obtain ⟨dx,dy,h1,h2,c1,c2,hm,q⟩ := h
 obtain ⟨as,r1⟩ := Y5 I dx x v h1 rx
 obtain ⟨bs,r2⟩ := Y5 I dy y u h2 ry
 exact PySem.SeqAt.neOverData X.prog X.w X.A X.xe s v u dx dy as bs _ r1 r2 c1 c2 (by omega) ⟨.bl _,H,I,rfl,q⟩
theorem Vals.bls {bs : List Bool} : ∀ {us : List Value},Vals (bs.map V.bl) us → us = bs.map Value.bool := by
 induction bs with
 | nil=>intro us r; cases r; rfl
 | cons b r ih =>
  intro us h
  cases h with
  | cons r1 r2 =>
   cases r1
   rw [ih r2]
   rfl
theorem xO (bs : List Bool) : (List.range bs.length).all (fun i=>bs.getD i false) = bs.all id := by
 rw [Bool.eq_iff_iff]
 simp only [List.all_eq_true,List.mem_range,id]
 refine ⟨fun h b hb=>?_,fun h i hi=>?_⟩
 ·obtain ⟨i,hi,e⟩ := List.getElem_of_mem hb
  have := h i hi
  simpa [hi,e] using this
 ·have := h bs[i] (List.getElem_mem hi)
  simpa [hi] using this
theorem xN (bs : List Bool) : (List.range bs.length).any (fun i=>bs.getD i false) = bs.any id := by
 rw [Bool.eq_iff_iff]
 simp only [List.any_eq_true,List.mem_range,id]
 refine ⟨fun ⟨i,hi,e⟩=>?_,fun ⟨b,hb,e⟩=>?_⟩
 ·exact ⟨bs[i],List.getElem_mem hi,by simpa [hi] using e⟩
 ·obtain ⟨i,hi,e2⟩ := List.getElem_of_mem hb
  exact ⟨i,hi,by simpa [hi,e2] using e⟩
theorem iQ {prog : Program} {w : World} {A : Around} (bs : List Bool) : TruthOf prog w A (fun i v=>(bs.map Value.bool).toArray[i]? = some v) (fun i=>bs.getD i false) := fun i v s Q E hP hQ=>by
 have hi : i < bs.length := by
  by_cases h : i < bs.length
  ·exact h
  ·have hP' : (bs.map Value.bool)[i]? = some v := by simpa using hP
   rw [List.getElem?_eq_none_iff.mpr (by simp; omega)] at hP'
   cases hP'
 have e : v = .bool (bs.getD i false) := by
  have hP' : (bs.map Value.bool)[i]? = some v := by simpa using hP
  rw [List.getElem?_map,List.getElem?_eq_getElem hi] at hP'
  simp only [Option.map_some,Option.some.injEq] at hP'
  rw [← hP']
  simp [hi]
 subst e
 exact wpAny_truthy_bool hQ
theorem fL (hc : X.calm = true) : S3 X (.builtin "all") (fun xs H Q=>∃ a bs,xs = [.ref a] ∧ SqL X.K H a (List.map V.bl bs) ∧ Q (.bl (bs.all id)) H) := by
 intro pins s σ H xs us Q I r h
 obtain ⟨a,bs,rfl,hq,q⟩ := h
 obtain ⟨u,rfl,ru⟩ := Vals.one r
 cases ru
 obtain ⟨its,rv,p,hz⟩ := I.list hq
 have e := Vals.bls rv
 subst e
 have hlt : a < s.heap.objs.size := by obtain ⟨o,_,eo,_⟩ := p; exact Heap.lt_size eo
 refine call_all_walk (wpAny_pyIter_list p.isList ?_)
 refine ⟨s.heap.objs.size,[s.heap.objs.size,a],[s.heap.objs.size],_,_,_,fun i=>bs.getD i false,rfl,Walks.list (A := X.A.in1) (I.ok.hd hc) s.heap.objs.size a (Nat.ne_of_lt hlt) (bs.map Value.bool).toArray,
  ⟨⟨_,Heap.get?_push_size _ rfl,rfl,rfl⟩,p.isList.push _⟩,iQ bs,fun h' tk hk=>?_⟩
 have I1 : Inv X pins σ H { s with heap := h',toks := tk } := I.kept fun b o e=>hk b o (fun z=>by
  have z' : b = s.heap.objs.size := by simpa using z
  exact absurd (Heap.lt_size e) (by rw [z']; exact Nat.lt_irrefl _)) (Heap.get?_push_of_some _ e)
 refine ⟨.bl (bs.all id),H,I1,?_,q⟩
 show Value.bool _ = Value.bool _
 rw [← xO]
 simp
theorem nV (hc : X.calm = true) : S3 X (.builtin "any") (fun xs H Q=>∃ a bs,xs = [.ref a] ∧ SqL X.K H a (List.map V.bl bs) ∧ Q (.bl (bs.any id)) H) := by
 intro pins s σ H xs us Q I r h
 obtain ⟨a,bs,rfl,hq,q⟩ := h
 obtain ⟨u,rfl,ru⟩ := Vals.one r
 cases ru
 obtain ⟨its,rv,p,hz⟩ := I.list hq
 have e := Vals.bls rv
 subst e
 have hlt : a < s.heap.objs.size := by obtain ⟨o,_,eo,_⟩ := p; exact Heap.lt_size eo
 refine call_any_walk (wpAny_pyIter_list p.isList ?_)
 refine ⟨s.heap.objs.size,[s.heap.objs.size,a],[s.heap.objs.size],_,_,_,fun i=>bs.getD i false,rfl,Walks.list (A := X.A.in1) (I.ok.hd hc) s.heap.objs.size a (Nat.ne_of_lt hlt) (bs.map Value.bool).toArray,
  ⟨⟨_,Heap.get?_push_size _ rfl,rfl,rfl⟩,p.isList.push _⟩,iQ bs,fun h' tk hk=>?_⟩
 have I1 : Inv X pins σ H { s with heap := h',toks := tk } := I.kept fun b o e=>hk b o (fun z=>by
  have z' : b = s.heap.objs.size := by simpa using z
  exact absurd (Heap.lt_size e) (by rw [z']; exact Nat.lt_irrefl _)) (Heap.get?_push_of_some _ e)
 refine ⟨.bl (bs.any id),H,I1,?_,q⟩
 show Value.bool _ = Value.bool _
 rw [← xN]
 simp
def AW5 : V → String → Option Bool
 | .int _,"int"=>some true
 | .int _,"bool"=>some false
 | .int _,"str"=>some false
 | .int _,"tuple"=>some false
 | .bl _,"bool"=>some true
 | .bl _,"int"=>some true
 | .bl _,"str"=>some false
 | .bl _,"tuple"=>some false
 | .str _,"str"=>some true
 | .str _,"int"=>some false
 | .str _,"bool"=>some false
 | .str _,"tuple"=>some false
 | _,_=>none
theorem rD : S3 X (.builtin "isinstance") (fun xs H Q=>∃ v T b,xs = [v,.ty T] ∧ AW5 v T = some b ∧ Q (.bl b) H) := by
 intro pins s σ H xs us Q I r h
 obtain ⟨v,T,b,rfl,hb,q⟩ := h
 obtain ⟨u,w,rfl,ru,rw'⟩ := jI r
 cases rw'
 have fin : ∀ t,EP X pins σ Q (.bool b) { s with toks := t } := fun t=>⟨.bl b,H,I.tok t,rfl,q⟩
 unfold AW5 at hb
 split at hb <;> cases hb
 ·obtain ⟨t,rfl⟩ := ru; exact IsiPair.int_int (fin _)
 ·obtain ⟨t,rfl⟩ := ru; exact IsiPair.int_bool (fin _)
 ·obtain ⟨t,rfl⟩ := ru; exact IsiPair.int_str (fin _)
 ·obtain ⟨t,rfl⟩ := ru; exact IsiPair.int_tuple (fin _)
 ·cases ru; exact IsiPair.bool_bool (fin _)
 ·cases ru; exact IsiPair.bool_int (fin _)
 ·cases ru; exact IsiPair.bool_str (fin _)
 ·cases ru; exact IsiPair.bool_tuple (fin _)
 ·obtain ⟨t,rfl⟩ := ru; exact IsiPair.str_str (fin _)
 ·obtain ⟨t,rfl⟩ := ru; exact IsiPair.str_int (fin _)
 ·obtain ⟨t,rfl⟩ := ru; exact IsiPair.str_bool (fin _)
 ·obtain ⟨t,rfl⟩ := ru; exact IsiPair.str_tuple (fin _)
end
end L2
namespace L2.Srt
open PySem PySem.W PyProof.Rows
def AskIn {α : Type} (n : Nat) : KasT α → Prop
 | .ret _=>True
 | .ask i j k=>i < n ∧ j < n ∧ ∀ b,AskIn n (k b)
theorem AskIn.bind {α β : Type} {n : Nat} {f : α → KasT β} (hf : ∀ a,AskIn n (f a)) : ∀ t : KasT α,AskIn n t → AskIn n (t.bind f)
 | .ret a,_=>hf a
 | .ask i j k,h=>⟨h.1,h.2.1,fun b=>AskIn.bind hf (k b) (h.2.2 b)⟩
theorem sD {α : Type} {lt : Nat → Nat → Bool} {cmp : Nat → Nat → (Bool → Shared → Prop) → Shared → Prop} {s : Shared} {n : Nat} (hc : ∀ i j C,i < n → j < n → C (lt i j) s → cmp i j C s) {Q : α → Shared → Prop} :
  ∀ t : KasT α,AskIn n t → Q (ev lt t) s → t.kasWp cmp Q s
 | .ret a,_,h=>h
 | .ask i j k,a,h=>hc i j _ a.1 a.2.1 (sD hc (k (lt i j)) (a.2.2 _) h)
def Low (n : Nat) (p : Array Nat) : Prop := (∀ x ∈ p.toList,x < n) ∧ 0 < n
theorem Low.at {n : Nat} {p : Array Nat} (h : Low n p) (k : Nat) : p.getD k 0 < n := by
 show at' p k < n
 rw [aS]
 cases e : p[k]? with
 | none=>exact h.2
 | some x=>exact h.1 x (by rw [← Array.getElem?_toList] at e; exact List.mem_of_getElem? e)
theorem Low.perm {n : Nat} {p q : Array Nat} (h : Low n p) (hp : q.Perm p) : Low n q := ⟨fun x hx=>h.1 x ((Array.perm_iff_toList_perm.mp hp).mem_iff.mp hx),h.2⟩
theorem Low.rev {n : Nat} {p : Array Nat} (h : Low n p) (i j : Nat) : Low n (kas_rev p i j) := h.perm (aY _ _ _)
theorem lU {N : Nat} {p : Array Nat} (h : Low N p) : ∀ f n,AskIn N (kas_asc p f n)
 | 0,n=>trivial
 | f + 1,n=>⟨h.at _,h.at _,fun b=>by
  show AskIn N (if b = true then KasT.ret n else kas_asc p f (n + 1))
  cases b with
  | true=>exact trivial
  | false=>exact lU h f (n + 1)⟩
theorem fE {N : Nat} : ∀ (f : Nat) (p : Array Nat) (n q : Nat),Low N p → AskIn N (kas_desc f p n q)
 | 0,p,n,q,h=>trivial
 | f + 1,p,n,q,h=>by
  refine ⟨h.at _,h.at _,fun b=>?_⟩
  cases b with
  | true =>
   show AskIn N (if q > 0 then kas_desc f (kas_rev p (n - (q + 1)) n) (n + 1) 0 else kas_desc f p (n + 1) 0)
   split
   ·exact fE f _ _ _ (h.rev _ _)
   ·exact fE f _ _ _ h
  | false =>
   refine ⟨h.at _,h.at _,fun d=>?_⟩
   cases d with
   | true=>exact trivial
   | false=>exact fE f _ _ _ h
def RetOk {α : Type} (P : α → Prop) : KasT α → Prop
 | .ret a=>P a
 | .ask _ _ k=>∀ b,RetOk P (k b)
theorem AskIn.bindR {α β : Type} {n : Nat} {P : α → Prop} {f : α → KasT β} (hf : ∀ a,P a → AskIn n (f a)) : ∀ t : KasT α,AskIn n t → RetOk P t → AskIn n (t.bind f)
 | .ret a,_,r=>hf a r
 | .ask i j k,h,r=>⟨h.1,h.2.1,fun b=>AskIn.bindR hf (k b) (h.2.2 b) (r b)⟩
theorem RetOk.bind {α β : Type} {P : α → Prop} {P' : β → Prop} {f : α → KasT β} (hf : ∀ a,P a → RetOk P' (f a)) : ∀ t : KasT α,RetOk P t → RetOk P' (t.bind f)
 | .ret a,r=>hf a r
 | .ask i j k,r=>fun b=>RetOk.bind hf (k b) (r b)
theorem RetOk.any {α : Type} : ∀ t : KasT α,RetOk (fun _=>True) t
 | .ret a=>trivial
 | .ask i j k=>fun b=>RetOk.any (k b)
theorem aZ {N : Nat} : ∀ (f : Nat) (p : Array Nat) (n q : Nat),Low N p → RetOk (fun r=>Low N r.1) (kas_desc f p n q)
 | 0,p,n,q,h=>h
 | f + 1,p,n,q,h=>by
  intro b
  cases b with
  | true =>
   show RetOk _ (if q > 0 then kas_desc f (kas_rev p (n - (q + 1)) n) (n + 1) 0 else kas_desc f p (n + 1) 0)
   split
   ·exact aZ f _ _ _ (h.rev _ _)
   ·exact aZ f _ _ _ h
  | false =>
   intro d
   cases d with
   | true=>exact h
   | false=>exact aZ f _ _ _ h
theorem cJ {N n r : Nat} {p : Array Nat} (h : Low N p) : AskIn N (kas_tail3 n r p) ∧ RetOk (fun z=>Low N z.2) (kas_tail3 n r p) := by
 unfold kas_tail3
 exact ⟨AskIn.bind (f := fun m=>KasT.ret (m,kas_rev p 0 n)) (fun _=>trivial) _ (lU (h.rev _ _) _ _),RetOk.bind (P := fun _=>True) (P' := fun z : Nat × Array Nat=>Low N z.2) (f := fun m=>KasT.ret (m,kas_rev p 0 n)) (fun _ _=>h.rev _ _) _ (RetOk.any _)⟩
theorem Y1 {N n r : Nat} {p : Array Nat} (h : Low N p) : AskIn N (kas_descPart n r p) ∧ RetOk (fun z=>Low N z.2) (kas_descPart n r p) := by
 unfold kas_descPart
 refine ⟨AskIn.bindR (P := fun z=>Low N z.1) (fun a ha=>?_) _ (fE _ _ _ _ h) (aZ _ _ _ _ h),RetOk.bind (P := fun z=>Low N z.1) (fun a ha=>?_) _ (aZ _ _ _ _ h)⟩
 ·split
  ·exact (cJ (ha.rev _ _)).1
  ·exact (cJ ha).1
 ·split
  ·exact (cJ (ha.rev _ _)).2
  ·exact (cJ ha).2
theorem nG {N r : Nat} {p : Array Nat} (h : Low N p) : AskIn N (kas_count r p) ∧ RetOk (fun z=>Low N z.2) (kas_count r p) := by
 unfold kas_count
 refine ⟨AskIn.bind (fun n=>?_) _ (lU h _ _),RetOk.bind (P := fun _=>True) (fun n _=>?_) _ (RetOk.any _)⟩
 ·split
  ·exact trivial
  ·split
   ·refine ⟨h.at _,h.at _,fun b=>?_⟩
    cases b with
    | true=>exact trivial
    | false=>exact (Y1 (h.rev _ _)).1
   ·exact (Y1 h).1
 ·split
  ·exact h
  ·split
   ·intro b
    cases b with
    | true=>exact h
    | false=>exact (Y1 (h.rev _ _)).2
   ·exact (Y1 h).2
theorem gQ {N : Nat} {p : Array Nat} (h : Low N p) (k : Nat) : ∀ f l r,AskIn N (kas_place p k f l r)
 | 0,l,r=>trivial
 | f + 1,l,r=>by
  show AskIn N (if l ≥ r then KasT.ret l else _)
  split
  ·exact trivial
  ·refine ⟨h.at _,h.at _,fun b=>?_⟩
   cases b with
   | true=>exact gQ h k f _ _
   | false=>exact gQ h k f _ _
theorem uH {N : Nat} : ∀ (f : Nat) (p : Array Nat) (k : Nat),Low N p → AskIn N (kas_bin f p k)
 | 0,p,k,_=>trivial
 | f + 1,p,k,h=>AskIn.bind (fun l=>uH f _ _ (h.perm (bubble_perm _ _ _))) _ (gQ h k _ _ _)
theorem AG3 {N : Nat} (h1 : 1 ≤ N) : AskIn N (kas_sort N) := by
 have h : Low N (List.toArray (List.range N)) := ⟨fun x hx=>by simpa using hx,h1⟩
 unfold kas_sort
 refine AskIn.bindR (P := fun z=>Low N z.2) (fun r hr=>?_) _ (nG h).1 (nG h).2
 split
 ·exact uH _ _ _ hr
 ·exact trivial
section
variable {prog : Program} {w : World} {A : Around} {E : Value → Shared → Prop} {s : Shared}
def Kp (h h' : Heap) : Prop := ∀ b o,h.get? b = some o → h'.get? b = some o
structure AY0 (prog : Program) (w : World) (A : Around) (κ : SortKind) (vs : List Value) (lt : Nat → Nat → Bool) (h : Heap) : Prop where
 kind : ∀ (s' : Shared) (Q : SortKind → Shared → Prop),Kp h s'.heap → Q κ s' → wpAny (model prog w) A (keyKind' vs.toArray) Q (fun _ _=>False) s'
 cmp : ∀ (s' : Shared) (i j : Nat) (Q : Bool → Shared → Prop),Kp h s'.heap → i < vs.length → j < vs.length → Q (lt i j) s' → wpAny (model prog w) A (keyLt' κ (vs.getD i Value.none) (vs.getD j Value.none)) Q (fun _ _=>False) s'
theorem sort_at {a : Addr} {vs : List Value} {n : Nat} {κ : SortKind} {lt : Nat → Nat → Bool} {P : PySem.Fin → Shared → Prop} (ho : s.heap.get? a = some (seqObj "list" vs.toArray n)) (h64 : vs.length < 64) (O : Ord lt)
  {h₀ : Heap} (hk : Kp h₀ s.heap) (ha : ∀ o,h₀.get? a ≠ some o) (T : 2 ≤ vs.length → AY0 prog w A κ vs lt h₀)
  (fin : ∀ (p : List Nat) (h' : Heap) (e : Nat),p.Perm (List.range vs.length) → (∀ i j,i ≤ j → j < vs.length → lt (p.getD j 0) (p.getD i 0) = false) → Kp h₀ h' → h'.get? a = some (seqObj "list" (p.map fun i=>vs.getD i Value.none).toArray e) →
   P (.done (.ret .none)) { s with heap := h' }) : wpAny (model prog w) A (Builtin.«list.sort» ⟨[.ref a],[]⟩) P E s := by
 have hz : vs.toArray.size ≤ sizeLine := by rw [List.size_toArray,sizeLine_eq]; omega
 obtain ⟨e1,ho1⟩ : ∃ e1,(s.heap.update a (Obj.mapSeq fun _=>(#[] : Array Value))).get? a = some (seqObj "list" #[] e1) := ⟨_,get?_update_seq ho fun _=>#[]⟩
 have s1 := Heap.SameBut.update s.heap a (Obj.mapSeq fun _=>(#[] : Array Value))
 generalize hh1 : s.heap.update a (Obj.mapSeq fun _=>(#[] : Array Value)) = h1 at ho1 s1
 have k1 : Kp h₀ h1 := fun b o e=>s1.extBut b o (fun z=>ha o (z ▸ e)) (hk b o e)
 rw [list_sort_plain]
 refine wpAny_bind (listItems_at ho rfl (wpAny_bind (listUpdate_at ho rfl ?_ hz (Nat.zero_le _))))
 rw [hh1]
 refine wpAny_bind (seqEpoch_at ho1 rfl (wpAny_bind (wpAny_newTuple ?_ (by show vs.length ≤ _; rw [sizeLine_eq]; omega))))
 refine wpAny_bind (wpAny_newList ?_ (Nat.zero_le _))
 refine wpAny_holding ?_
 generalize hh3 : (h1.push (seqObj "tuple" vs.toArray 0)).push (seqObj "list" #[] 0) = h3
 have k13 : Kp h1 h3 := fun b o e=>by rw [← hh3]; exact Heap.get?_push_of_some _ (Heap.get?_push_of_some _ e)
 have k3 : Kp h₀ h3 := fun b o e=>k13 b o (k1 b o e)
 have ho3 := k13 a _ ho1
 have last : ∀ (st : SortSt) (p : List Nat),failedOf st = none → (arrOf st).map (·.2) = (p.map fun i=>vs.getD i Value.none).toArray → p.Perm (List.range vs.length) → (∀ i j,i ≤ j → j < vs.length → lt (p.getD j 0) (p.getD i 0) = false) →
   wpAny (model prog w) A (do
    let t := (← seqEpoch a) != e1
    Builtin.List.listUpdate (.ref a) fun _=>(arrOf st).map (·.2)
    if let some e := failedOf st then rule "list.sort.comparison-raised"; throw e
    if t then rule "list.sort.modified"; raiseError "ValueError" "list modified during sort"
    ret .none) P E { s with heap := h3 } := by
  intro st p hf har hp hs
  have hlen : p.length = vs.length := by rw [hp.length_eq,List.length_range]
  refine wpAny_bind (seqEpoch_at ho3 rfl (wpAny_bind (listUpdate_at ho3 rfl ?_ (Nat.zero_le _) ?_)))
  ·rw [hf]
   simp only [bne_self_eq_false,Bool.false_eq_true,if_false]
   have s2 := Heap.SameBut.update h3 a (Obj.mapSeq fun _=>(arrOf st).map (·.2))
   refine wpAny_pure (fin p _ (if (((arrOf st).map (·.2)).size == (#[] : Array Value).size) = true then e1 else e1 + 1) hp hs (fun b o e=>s2.extBut b o (fun z=>ha o (z ▸ e)) (k3 b o e)) ?_)
   rw [← har]
   exact get?_update_seq ho3 fun _=>(arrOf st).map (·.2)
  ·rw [har,List.size_toArray,List.length_map,hlen,sizeLine_eq]; omega
 show wpAny (model prog w) A _ P E { s with heap := h3 }
 dsimp only
 by_cases h2 : vs.toArray.size < 2
 ·rw [if_pos h2,if_pos h2]
  rw [List.size_toArray] at h2
  refine wpAny_bind (wpAny_pure ?_)
  rw [StateT.run_pure]
  refine wpAny_bind (wpAny_pure ?_)
  refine last (SortSt.mk' general' (vs.toArray.zip vs.toArray) #[] 7 none) (List.range vs.length) rfl ?_ (List.Perm.refl _) (fun i j hij hj=>?_)
  ·show (vs.toArray.zip vs.toArray).map (·.2) = _
   apply Array.toList_inj.mp
   match vs,h2 with
   | [],_=>simp
   | [v],_=>simp [List.range_succ]
  ·have e : i = j := by omega
   subst e
   exact O.irr _
 ·rw [if_neg h2,if_neg h2]
  rw [List.size_toArray] at h2
  have T' := T (by omega)
  refine wpAny_bind (wpAny_mono (T'.kind { s with heap := h3 } (fun κ' s'=>κ' = κ ∧ s' = { s with heap := h3 }) k3 ⟨rfl,rfl⟩) (fun κ' s' hq=>?_) fun _ _ x=>x.elim)
  obtain ⟨rfl,rfl⟩ := hq
  obtain ⟨z1,z2,z3⟩ := xE O (N := vs.length) (by omega)
  have run := kat_run (prog := prog) (w := w) (A := A) (E := E) (κ := κ') (vs := vs) (ks := vs) (s := { s with heap := h3 })
   (Q := fun st' s'=>∃ p : Array Nat,arrOf st' = p.map (kas_item (vs.toArray.zip vs.toArray)) ∧ failedOf st' = none ∧ p = ev lt (kas_sort vs.length) ∧ s' = { s with heap := h3 })
   (G := fun p s'=>p = ev lt (kas_sort vs.length) ∧ s' = { s with heap := h3 }) rfl (by omega) h64 (fun p st' s' _ a2 a3 a4=>⟨p,a2,a3,a4.1,a4.2⟩)
   (sD (n := vs.length) (fun i j C hi hj hC=>T'.cmp { s with heap := h3 } i j C k3 hi hj hC) _ (AG3 (by omega)) ⟨rfl,rfl⟩)
  refine wpAny_bind (wpAny_mono run ?_ fun _ _ e=>e)
  rintro ⟨⟨⟩,st'⟩ s' ⟨p,har,hf,hp,hs'⟩
  subst hs'
  have hout := kat_snds (ks := vs) (vs := vs) rfl har
  refine last st' p.toList hf hout (by rw [hp]; exact z2) fun i j hij hj=>?_
  have := z3 i j hij hj
  rw [← hp] at this
  have eg : ∀ k,p.toList.getD k 0 = at' p k := fun k=>by
   rw [aS,List.getD_eq_getElem?_getD,Array.getElem?_toList]
  rw [eg,eg]
  exact this
theorem rZ {l : Addr} {vs : List Value} {Q : List Value → Shared → Prop} (hl : s.heap.IsTuple l vs.toArray)
  (h : Q vs { s with heap := (s.heap.push (seqObj "list" #[] 0)).update s.heap.objs.size (Obj.mapSeq (· ++ vs.toArray)) }) (hz : vs.length ≤ sizeLine) :
  wpAny (model prog w) A (collect (.ref l)) Q E s := by
 obtain ⟨o,ho,hc,n,hd⟩ := id hl
 have ho' : (s.heap.push (seqObj "list" #[] 0)).get? l = some o := Heap.get?_push_of_some _ ho
 have hne : (Value.type "tuple" == Value.type "tuple") = true := rfl
 unfold collect
 refine wpAny_bind (wpAny_runValue (codeAny_builtin entry_proto_collect' ?_))
 show wpAny _ _ (newList [] >>= fun z=>again (.builtin "list.__iadd__" ⟨[z,.ref l],[]⟩)) _ _ s
 refine wpAny_bind (wpAny_newList (wpAny_pure ⟨Code.quiet_builtin _ (by decide +kernel),codeAny_builtin entry_list_iadd' ?_⟩))
 show wpAny _ _ (Builtin.List.listExtendWith (.ref s.heap.objs.size) (.ref l) (.ref s.heap.objs.size)) _ _ { s with heap := s.heap.push (seqObj "list" #[] 0) }
 unfold Builtin.List.listExtendWith
 refine wpAny_bind (wpAny_typeOf (T := "tuple") ⟨o,ho',hc⟩ ?_)
 rw [if_pos (by rw [hne]; simp)]
 refine wpAny_bind (listItems_at ho' hd (wpAny_bind (listItems_at (xs := #[]) (n := 0) (Heap.get?_push_size _ rfl) rfl ?_)))
 rw [if_neg (by simp)]
 refine wpAny_bind (listUpdate_at (xs := #[]) (n := 0) (Heap.get?_push_size _ rfl) rfl ?_ (Nat.zero_le _) (by show (#[] ++ vs.toArray).size ≤ sizeLine + 1; simp only [Array.size_append,List.size_toArray,List.length_nil]; omega))
 refine wpAny_pure ?_
 show wpAny (model prog w) A (load s.heap.objs.size >>= _) Q E { s with heap := (s.heap.push (seqObj "list" #[] 0)).update s.heap.objs.size (Obj.mapSeq (· ++ vs.toArray)) }
 refine wpAny_bind (wpAny_load (get?_update_seq (Heap.get?_push_size _ rfl) _) ?_)
 show wpAny _ _ (pure ((#[] : Array Value) ++ vs.toArray).toList) Q E _
 rw [show ((#[] : Array Value) ++ vs.toArray).toList = vs by simp]
 exact wpAny_pure h
theorem sorted_at {l : Addr} {vs : List Value} {κ : SortKind} {lt : Nat → Nat → Bool} {Q : Value → Shared → Prop} (hl : s.heap.IsList l vs.toArray ∨ s.heap.IsTuple l vs.toArray) (h64 : vs.length < 64) (O : Ord lt) (T : 2 ≤ vs.length → AY0 prog w A.in1.in1 κ vs lt s.heap)
  (fin : ∀ (p : List Nat) (h' : Heap) (D e : Nat),p.Perm (List.range vs.length) → (∀ i j,i ≤ j → j < vs.length → lt (p.getD j 0) (p.getD i 0) = false) → Kp s.heap h' → s.heap.objs.size ≤ D → h'.get? D = some (seqObj "list" (p.map fun i=>vs.getD i Value.none).toArray e) →
   Q (.ref D) { s with heap := h' }) : wpAny (model prog w) A (call (.builtin "sorted") [.ref l]) Q E s := by
 have coll : ∀ {A : Around} {E : Value → Shared → Prop} {Q' : List Value → Shared → Prop},Q' vs { s with heap := (s.heap.push (seqObj "list" #[] 0)).update s.heap.objs.size (Obj.mapSeq (· ++ vs.toArray)) } → wpAny (model prog w) A (collect (.ref l)) Q' E s := fun {A E Q'} h=>by
  rcases hl with hl | hl
  ·exact collect_list hl h (by rw [sizeLine_eq]; omega)
  ·exact rZ hl h (by rw [sizeLine_eq]; omega)
 refine Calls.call_function_entry kind_sorted plain_sorted entry_sorted (args_sorted1 _) ?_
 unfold Builtin.«sorted»
 refine wpAny_bind (m := checkCount "sorted" 1 1 _) (wpAny_pure (wpAny_bind (coll ?_)))
 generalize hhA : (s.heap.push (seqObj "list" #[] 0)).update s.heap.objs.size (Obj.mapSeq (· ++ vs.toArray)) = hA
 have hsz : hA.objs.size = s.heap.objs.size + 1 := by rw [← hhA,Heap.size_update,size_push']
 have kA : Kp s.heap hA := fun b o q=>by
  rw [← hhA,Heap.get?_update_ne _ _ _ _ (Nat.ne_of_lt (Heap.lt_size q))]
  exact Heap.get?_push_of_some _ q
 refine wpAny_bind (wpAny_newList ?_ (by rw [sizeLine_eq]; omega))
 have hoL : (hA.push (seqObj "list" vs.toArray 0)).get? hA.objs.size = some (seqObj "list" vs.toArray 0) := Heap.get?_push_size _ rfl
 have kB : Kp s.heap (hA.push (seqObj "list" vs.toArray 0)) := fun b o q=>Heap.get?_push_of_some _ (kA b o q)
 refine wpAny_bind (wpAny_holding (wpAny_call_entry slot_list_sort ⟨_,hoL,rfl⟩ entry_list_sort ?body (args_list_sort _)))
 case body =>
  refine sort_at (s := { s with heap := hA.push (seqObj "list" vs.toArray 0) }) hoL h64 O kB (fun o z=>?_) T fun p h' e a1 a2 a3 a4=>⟨_,rfl,wpAny_pure ⟨_,rfl,fin p h' _ e a1 a2 a3 (by show s.heap.objs.size ≤ hA.objs.size; omega) a4⟩⟩
  have z' : hA.objs.size < s.heap.objs.size := Heap.lt_size z
  omega
end
end L2.Srt
namespace L2
open PySem PySem.Spec PyProof.Rows
abbrev En := Option Int
def EndV (K : PySem.W.Frag) (H : Hp) (v : V) (e : En) : Prop := ∃ a,v = .ref a ∧ SqT K H a (e.toList.map V.int)
def PairV (K : PySem.W.Frag) (H : Hp) (v : V) (p : En × En) : Prop := ∃ a x y,v = .ref a ∧ SqT K H a [x,y] ∧ EndV K H x p.1 ∧ EndV K H y p.2
def U4 : En → En → Bool
 | none,none=>false
 | none,some _=>true
 | some _,none=>false
 | some a,some b=>decide (a < b)
def aC (p q : En × En) : Bool := if p.1 = q.1 then (if p.2 = q.2 then false else U4 p.2 q.2) else U4 p.1 q.1
theorem AP3 (a b : En) : HT.lexLt a.toList b.toList = U4 a b := by
 cases a with
 | none=>cases b <;> rfl
 | some a =>
  cases b with
  | none=>rfl
  | some b =>
   show (if a = b then false else decide (a < b)) = decide (a < b)
   by_cases h : a = b
   ·rw [if_pos h]; subst h; simp
   ·rw [if_neg h]
theorem AP1 (a : En) : U4 a a = false := by cases a <;> simp [U4]
theorem qG {a b : En} (h : U4 a b = true) : U4 b a = false := by
 cases a <;> cases b <;> simp [U4] at h ⊢
 omega
theorem yO {a b c : En} (h1 : U4 b a = false) (h2 : U4 c b = false) : U4 c a = false := by
 cases a <;> cases b <;> cases c <;> simp [U4] at h1 h2 ⊢
 omega
theorem AE5 {a b : En} (h1 : U4 b a = false) (h2 : U4 a b = false) : a = b := by
 cases a <;> cases b <;> simp [U4] at h1 h2 ⊢
 omega
theorem AP0 (p : En × En) : aC p p = false := by unfold aC; rw [if_pos rfl,if_pos rfl]
theorem AE4 {p q : En × En} (h : aC p q = true) : aC q p = false := by
 unfold aC at h ⊢
 by_cases e : p.1 = q.1
 ·rw [if_pos e] at h
  rw [if_pos e.symm]
  by_cases e2 : p.2 = q.2
  ·rw [if_pos e2.symm]
  ·rw [if_neg e2] at h
   rw [if_neg (Ne.symm e2)]
   exact qG h
 ·rw [if_neg e] at h
  rw [if_neg (Ne.symm e)]
  exact qG h
theorem lN {p q : En × En} (h : aC q p = false) : U4 q.1 p.1 = false := by
 unfold aC at h
 by_cases e : q.1 = p.1
 ·rw [e]; exact AP1 _
 ·rw [if_neg e] at h; exact h
theorem AV7 {p q r : En × En} (h1 : aC q p = false) (h2 : aC r q = false) : aC r p = false := by
 have f1 := lN h1
 have f2 := lN h2
 unfold aC at h1 h2 ⊢
 by_cases e : r.1 = p.1
 ·rw [if_pos e]
  have e1 : q.1 = p.1 := by
   have z : U4 p.1 q.1 = false := by rw [← e]; exact f2
   exact (AE5 f1 z).symm
  rw [if_pos e1] at h1
  rw [if_pos (e.trans e1.symm)] at h2
  by_cases e2 : r.2 = p.2
  ·rw [if_pos e2]
  ·rw [if_neg e2]
   by_cases e3 : q.2 = p.2
   ·rw [e3] at h2; rw [if_neg e2] at h2; exact h2
   ·rw [if_neg e3] at h1
    by_cases e4 : r.2 = q.2
    ·rw [e4]; exact h1
    ·rw [if_neg e4] at h2; exact yO h1 h2
 ·rw [if_neg e]
  exact yO f1 f2
theorem AO9 (ps : List (En × En)) : Srt.Ord fun i j=>aC (ps.getD i (none,none)) (ps.getD j (none,none)) :=
 ⟨fun a=>AP0 _,fun a b h=>AE4 h,fun a b c h1 h2=>AV7 h1 h2⟩
section
variable {X : Cx} {pins : List (Addr × Obj)} {σ : St} {H : Hp} {s : Shared}
structure EndAt (h : Heap) (u : Value) (e : En) : Prop where
 ex : ∃ (a : Addr) (its : List Value),u = .ref a ∧ IsTup h a its.toArray ∧ IntsAre its e.toList
theorem rX {e : En} {us : List Value} (r : Vals (e.toList.map V.int) us) : IntsAre us e.toList := vU r
theorem EndV.here {v : V} {u : Value} {e : En} (I : Inv X pins σ H s) (h : EndV X.K H v e) (r : RelV v u) : EndAt s.heap u e := by
 obtain ⟨a,rfl,hq⟩ := h
 cases r
 obtain ⟨its,rv,p,_⟩ := I.tuple hq
 exact ⟨a,its,rfl,p,rX rv⟩
theorem EndAt.kp {h h' : Heap} {u : Value} {e : En} (x : EndAt h u e) (k : Srt.Kp h h') : EndAt h' u e := by
 obtain ⟨a,its,rfl,⟨o,ho,r⟩,hi⟩ := x.ex
 exact ⟨a,its,rfl,⟨o,k _ _ ho,r⟩,hi⟩
def W4 (e : En) : PyData := .tuple (e.toList.map PyData.int)
theorem xM {h : Heap} : ∀ {us : List Value} {ns : List Int},IntsAre us ns → ReadsAll h us (ns.map PyData.int) [] := by
 intro us ns hi
 induction hi with
 | nil=>exact .nil
 | cons t u _ ih=>exact .cons (.int _ _) ih
theorem EndAt.reads {h : Heap} {u : Value} {e : En} (x : EndAt h u e) : Reads h u (W4 e) [] := by
 obtain ⟨a,its,rfl,⟨o,ho,c,n,d⟩,hi⟩ := x.ex
 exact .tuple ho c d (by simpa using xM hi)
theorem tW (a b : En) : PyData.eqv (W4 a) (W4 b) = decide (a = b) := by
 cases a with
 | none=>cases b <;> simp [W4,PyData.eqv,PyData.eqvAll]
 | some a =>
  cases b with
  | none=>simp [W4,PyData.eqv,PyData.eqvAll]
  | some b =>
   simp only [W4,Option.toList,List.map_cons,List.map_nil,PyData.eqv,PyData.eqvAll,Bool.and_true]
   rw [Bool.eq_iff_iff]
   simp
theorem dL (a : En) : (W4 a).canLay0 = true := by cases a <;> simp [W4,PyData.canLay0,PyData.canLayAll0]
theorem mX (a : En) : (W4 a).depth ≤ 1 := by cases a <;> simp [W4,PyData.depth,PyData.depthAll]
theorem EndAt.eq {prog : Program} {w : World} {A : Around} {E : Value → Shared → Prop} {u v : Value} {a b : En} {Q : Bool → Shared → Prop} (x : EndAt s.heap u a) (y : EndAt s.heap v b) (hu : A.units + 2 < cLine) (h : Q (decide (a = b)) s) :
  wpAny (model prog w) A (eqBool u v) Q E s := by
 refine PySem.SeqAt.eqBoolOverData prog w A E s u v (W4 a) (W4 b) [] [] Q x.reads y.reads (dL a) (dL b) ?_ (by rw [tW]; exact h)
 have := mX a
 omega
theorem EndAt.lt {prog : Program} {w : World} {A : Around} {E : Value → Shared → Prop} {u v : Value} {a b : En} {Q : Value → Shared → Prop} (x : EndAt s.heap u a) (y : EndAt s.heap v b) (hu : A.units + 2 < cLine) (h : Q (.bool (U4 a b)) s) :
  wpAny (model prog w) A (compareOp .Lt u v) Q E s := by
 obtain ⟨p,its,rfl,t1,i1⟩ := x.ex
 obtain ⟨q,its2,rfl,t2,i2⟩ := y.ex
 exact HT.lt_tupInts t1 t2 (by simpa using i1) (by simpa using i2) (by omega) (by rw [AP3]; exact h)
structure PairAt (h : Heap) (u : Value) (p : En × En) : Prop where
 ex : ∃ (a : Addr) (x y : Value),u = .ref a ∧ IsTup h a #[x,y] ∧ EndAt h x p.1 ∧ EndAt h y p.2
theorem PairV.here {v : V} {u : Value} {p : En × En} (I : Inv X pins σ H s) (h : PairV X.K H v p) (r : RelV v u) : PairAt s.heap u p := by
 obtain ⟨a,x,y,rfl,hq,hx,hy⟩ := h
 cases r
 obtain ⟨its,rv,t,_⟩ := I.tuple hq
 obtain ⟨u1,u2,rfl,r1,r2⟩ := jI rv
 exact ⟨a,u1,u2,rfl,t,hx.here I r1,hy.here I r2⟩
theorem PairAt.kp {h h' : Heap} {u : Value} {p : En × En} (x : PairAt h u p) (k : Srt.Kp h h') : PairAt h' u p := by
 obtain ⟨a,y,z,rfl,⟨o,ho,r⟩,h1,h2⟩ := x.ex
 exact ⟨a,y,z,rfl,⟨o,k _ _ ho,r⟩,h1.kp k,h2.kp k⟩
theorem PairAt.lt {prog : Program} {w : World} {A : Around} {E : Value → Shared → Prop} {u v : Value} {p q : En × En} {Q : Bool → Shared → Prop} (x : PairAt s.heap u p) (y : PairAt s.heap v q) (hu : A.units + 2 < cLine) (h : Q (aC p q) s) :
  wpAny (model prog w) A (keyLt' (tuples' false) u v) Q E s := by
 obtain ⟨a,x1,x2,rfl,⟨o,ho,c,n,d⟩,h1,h2⟩ := x.ex
 obtain ⟨b,y1,y2,rfl,⟨o',ho',c',n',d'⟩,h1',h2'⟩ := y.ex
 refine PySem.W.kat_lt ho d ho' d' ?_
 show PySem.W.KatLex prog w A false _ Q [(x1,y1),(x2,y2)] 0 s
 refine PySem.W.kat_cons (h1.eq h1' hu ?_)
 unfold aC at h
 by_cases e : p.1 = q.1
 ·rw [decide_eq_true e]
  rw [if_pos e] at h
  refine PySem.W.kat_yes (PySem.W.kat_cons (h2.eq h2' hu ?_))
  by_cases e2 : p.2 = q.2
  ·rw [decide_eq_true e2]
   rw [if_pos e2] at h
   exact PySem.W.kat_yes (PySem.W.kat_nil h)
  ·rw [decide_eq_false e2]
   rw [if_neg e2] at h
   exact PySem.W.kat_no (PySem.W.kat_one _ _ (h2.lt h2' hu h))
 ·rw [decide_eq_false e]
  rw [if_neg e] at h
  exact PySem.W.kat_no (PySem.W.kat_one _ _ (h1.lt h1' hu h))
theorem sE {h : Heap} : ∀ {us : List Value} {ps : List (En × En)},Paired (PairAt h) us ps → ∃ fs : List Value,PySem.W.KatTups h us fs ∧ fs.length = us.length ∧ ∀ f ∈ fs,∃ e,EndAt h f e
 | _,_,.nil=>⟨[],.nil,rfl,fun _ hf=>by cases hf⟩
 | _,_,.cons x r=>by
  obtain ⟨fs,t,l,al⟩ := sE r
  obtain ⟨a,x1,x2,rfl,⟨o,ho,c,n,d⟩,h1,h2⟩ := x.ex
  refine ⟨x1 :: fs,.cons ho c d (by simp) t,by simp [l],fun f hf=>?_⟩
  rcases List.mem_cons.mp hf with rfl | hf
  ·exact ⟨_,h1⟩
  ·exact al f hf
theorem Paired.getD {α β : Type} {F : α → β → Prop} {da : α} {db : β} : ∀ {xs : List α} {ys : List β} {i : Nat},Paired F xs ys → i < xs.length → F (xs.getD i da) (ys.getD i db)
 | _,_,0,.cons h _,_=>h
 | _,_,i + 1,.cons _ t,hi=>by
  have := Paired.getD (da := da) (db := db) (i := i) t (by simpa using hi)
  simpa using this
def AT2 (K : PySem.W.Frag) : List V → Hp → VK → Prop := fun xs H Q=>∃ a vs ps,xs = [.ref a] ∧ (SqL K H a vs ∨ SqT K H a vs) ∧ vs.length < 64 ∧ Paired (PairV K H) vs ps ∧
 ∀ D out qs,H D = none → Paired (PairV K H) out qs → qs.Perm ps → qs.Pairwise (fun p q=>aC q p = false) → Q (.ref D) (upd H D (.lst out))
theorem iS {vs : List V} {us : List Value} {ps : List (En × En)} (I : Inv X pins σ H s) : ∀ {vs : List V} {us : List Value} {ps : List (En × En)},Paired (PairV X.K H) vs ps → Vals vs us → Paired (PairAt s.heap) us ps
 | _,_,_,.nil,.nil=>.nil
 | _,_,_,.cons h t,.cons r rr=>.cons (h.here I r) (iS (vs := vs) (us := us) (ps := ps) I t rr)
theorem fG {α : Type} (xs : List α) (d : α) {p : List Nat} (h : p.Perm (List.range xs.length)) : (p.map fun i=>xs.getD i d).Perm xs := by
 have e : (List.range xs.length).map (fun i=>xs.getD i d) = xs := by
  apply List.ext_getElem
  ·simp
  ·intro i h1 h2
   simp [h2]
 have := h.map fun i=>xs.getD i d
 rw [e] at this
 exact this
theorem V6 {α β : Type} {F : α → β → Prop} {xs : List α} {ys : List β} {da : α} {db : β} (h : Paired F xs ys) : ∀ (p : List Nat),(∀ i ∈ p,i < xs.length) → Paired F (p.map fun i=>xs.getD i da) (p.map fun i=>ys.getD i db)
 | [],_=>.nil
 | i :: r,hp=>.cons (L2.Paired.getD h (hp i List.mem_cons_self)) (V6 h r fun j hj=>hp j (List.mem_cons_of_mem _ hj))
theorem rC (hu : X.A.units + 64 < cLine) : S3 X (.builtin "sorted") (AT2 X.K) := by
 intro pins s σ H xs us Q I r h
 obtain ⟨a,vs,ps,rfl,hq,h64,hP,q⟩ := h
 obtain ⟨u,rfl,ru⟩ := Vals.one r
 cases ru
 obtain ⟨its,rv,pl,hz⟩ : ∃ its : List Value,Vals vs its ∧ (s.heap.IsList a its.toArray ∨ s.heap.IsTuple a its.toArray) ∧ vs.length ≤ sizeLine := by
  rcases hq with hq | hq
  ·obtain ⟨its,rv,pl,hz⟩ := I.list hq
   exact ⟨its,rv,.inl pl.isList,hz⟩
  ·obtain ⟨its,rv,pl,hz⟩ := I.tuple hq
   exact ⟨its,rv,.inr pl,hz⟩
 have hlen := rv.length
 have hA := iS (vs := []) (us := []) (ps := []) I hP rv
 have hlp := hA.length
 refine Srt.sorted_at (κ := tuples' false) pl (by omega) (AO9 ps) (fun h2=>⟨fun s' Q' k hQ=>?_,fun s' i j Q' k hi hj hQ=>?_⟩) fun p h' D e a1 a2 a3 a4 a5=>?_
 ·have hA' : Paired (PairAt s'.heap) its ps := L2.Paired.mapP hA fun _ _ z=>z.kp k
  obtain ⟨fs,t,l,al⟩ := sE hA'
  refine PySem.W.kat_kind (T := .type "tuple") t (by omega) (fun f hf=>?_) rfl hQ
  obtain ⟨e',x⟩ := al f hf
  obtain ⟨b,its2,rfl,⟨o,ho,c,_⟩,_⟩ := x.ex
  rw [← c]
  exact (PySem.W.Looks.ld ho).andThen .now
 ·have hA' : Paired (PairAt s'.heap) its ps := L2.Paired.mapP hA fun _ _ z=>z.kp k
  exact (L2.Paired.getD (da := Value.none) (db := (none,none)) hA' hi).lt (L2.Paired.getD (da := Value.none) (db := (none,none)) hA' hj) (by show X.A.units + 1 + 1 + 2 < _; omega) hQ
 ·have hmem : ∀ i ∈ p,i < vs.length := fun i hi=>by
   have := a1.mem_iff.mp hi
   rw [hlen]; simpa using this
  have hrel : Vals (p.map fun i=>vs.getD i .non) (p.map fun i=>its.getD i Value.none) := V6 rv p hmem
  have hpl : p.length = vs.length := by rw [a1.length_eq,List.length_range,hlen]
  refine ⟨.ref D,_,I.laid (t' := s.toks) (o := .lst (p.map fun i=>vs.getD i .non)) a3 a4 ⟨by rw [List.length_map,hpl]; exact hz,_,e,hrel,a5⟩,rfl,
   q D _ (p.map fun i=>ps.getD i (none,none)) (I.hok.fresh a4) (V6 hP p hmem) ?_ ?_⟩
  ·rw [hlp] at a1
   exact fG ps (none,none) a1
  ·rw [List.pairwise_iff_getElem]
   intro i j hi hj hij
   rw [List.length_map] at hi hj
   have := a2 i j (by omega) (by omega)
   simpa [hi,hj] using this
end
end L2
namespace L2
open PySem PySem.Spec PyProof.Rows
section
open PySem.SeqAt
open PySem.AutoSeq1 (wpAny_loadPart')
open PySem.MeetsSeq PySem.MeetsSeq2 PySem.MeetsSeq3
theorem AC5 (A : Around) (s : Shared) (a : Int) (t : Tok) (c : Int) (u : Tok) (prog : Program) (w : World) (E : Value → Shared → Prop) (Q : Value → Shared → Prop) (h : Q (.bool (decide (c < a))) s) :
  wpAny (model prog w) A (richCompare .Gt (.int a t) (.int c u)) Q E s :=
 (PyProof.Rows.gt_int h : wpAny (model prog w) A (compareOp .Gt (.int a t) (.int c u)) Q E s)
theorem oO (l b : Addr) (x y : Int) (tx ty : Tok) (n n2 : Nat) (dd dd2 : Option Addr) (sl sl2 : Array (Option Value)) :
  Meets (Builtin.«tuple.__gt__» ⟨[.ref l,.ref b],[]⟩)
   (fun _ R s=>s.heap.get? l = some { cls := .type "tuple",dict := dd,data := .seq #[.int x tx] n,slots := sl } ∧ s.heap.get? b = some { cls := .type "tuple",dict := dd2,data := .seq #[.int y ty] n2,slots := sl2 } ∧
    R (.ok (.ret (.bool (decide (y < x))))) s) :=
 .of_wp fun prog w A R s h=>by
  obtain ⟨hp,g,d,tk,os⟩ := s; obtain ⟨hl,hb,h⟩ := h
  have f2 := AutoSeq1.sub_tuple_tuple
  wp_walk using wpAny_loadPart' hl,wpAny_loadPart' hb,wpAny_forIn_list _ (fun rest b s'=>b.1 = none ∧ s' = ⟨hp,g,d,tk,os⟩ ∧ (rest = [(Value.int x tx,Value.int y ty)] ∨ (rest = [] ∧ x = y))) _
  case turn =>
   rintro ⟨y',x'⟩ rest b s' ⟨hb',rfl,hz⟩
   rcases hz with hz | ⟨hz,_⟩
   ·injection hz with hyx hrest
    injection hyx with hy hx
    subst hy hx
    obtain ⟨e,he,hiff⟩ := HT.eqAt_int A.in1 ⟨hp,g,d,tk,os⟩ x tx y ty
    refine wpAny_bind (he prog w _ _ ?_)
    cases e with
    | true =>
     have exy := hiff.mp rfl
     wp_walk
     exact ⟨rfl,rfl,.inr ⟨hrest,exy⟩⟩
    | false =>
     have hri := AC5 A.in1 ⟨hp,g,d,tk,os⟩ x tx y ty prog w
     wp_walk using hri
     exact ⟨_,rfl,by simpa using h⟩
   ·cases hz
  case fin =>
   rintro ⟨b1,b2⟩ s' ⟨hb',rfl,hz⟩
   simp only at hb'
   subst hb'
   rcases hz with hz | ⟨_,exy⟩
   ·cases hz
   ·subst exy
    wp_walk
    exact ⟨_,rfl,by simpa [Builtin.Tuple.tupleCompareSizes] using h⟩
  case h =>
   exact ⟨rfl,rfl,.inl rfl⟩
end
section
variable {prog : Program} {w : World} {A : Around} {E : Value → Shared → Prop} {s : Shared}
theorem EndAt.gt {u v : Value} {x y : Int} {Q : Value → Shared → Prop} (hx : EndAt s.heap u (some x)) (hy : EndAt s.heap v (some y)) (hu : A.units < cLine) (h : Q (.bool (decide (y < x))) s) :
  wpAny (model prog w) A (richCompare .Gt u v) Q E s := by
 obtain ⟨p,its,rfl,⟨⟨cls,dd,data,sl⟩,ho,hc,n,hd⟩,i1⟩ := hx.ex
 obtain ⟨q,its2,rfl,⟨⟨cls2,dd2,data2,sl2⟩,ho2,hc2,n2,hd2⟩,i2⟩ := hy.ex
 have i1' : IntsAre its [x] := i1
 have i2' : IntsAre its2 [y] := i2
 cases i1' with
 | cons a1 t1 r1 =>
  cases r1
  cases i2' with
  | cons a2 t2 r2 =>
   cases r2
   simp only at hc hd hc2 hd2
   subst hc hd hc2 hd2
   exact richCompare_meets_room (op := .Gt) ⟨_,ho,rfl⟩ ⟨_,ho2,rfl⟩ PySem.F.slot_tuple_gt PySem.F.entry_tuple_gt (PySem.F.args_tuple_gt_2 _ _) (oO p q x y _ _ n n2 dd dd2 sl sl2)
    ⟨ho,ho2,show Value.bool (decide (y < x)) ≠ Value.notImplemented ∧ Q (.bool (decide (y < x))) s from ⟨(fun z=>nomatch z),h⟩⟩ hu
theorem jV {h : Heap} {I x : Addr} {o : Obj} (hI : ∀ o,h.get? I ≠ some o) (e : h.get? x = some o) : x ≠ I := fun z=>by subst z; exact hI o e
theorem pX {h : Heap} {I x : Addr} {o : Obj} (hI : ∀ o,h.get? I ≠ some o) (e : h.get? x = some o) : x ∉ [I] := fun z=>jV hI e (by simpa using z)
theorem AE2 {a b : Value} {g : Bool} {Q : Value → Shared → Prop} (hh : A.handled = none)
  (hg : ∀ (s' : Shared) (Q' : Value → Shared → Prop) (E' : Value → Shared → Prop),Srt.Kp s.heap s'.heap → Q' (.bool g) s' → wpAny (model prog w) A.in1 (richCompare .Gt b a) Q' E' s')
  (h : ∀ h' tk,Srt.Kp s.heap h' → Q (if g = true then b else a) { s with heap := h',toks := tk }) : wpAny (model prog w) A (call (.builtin "max") [a,b]) Q E s := by
 have nm : (toString "max" ++ toString ".loop" : String) = "max.loop" := by decide
 have loop1 : ∀ {R : Result → Shared → Prop} {s1 : Shared} {I T S : Addr} {c : Nat} {v : Value},T ≠ I → S ∉ [I,T] → Srt.Kp s.heap s1.heap → (∀ o,s.heap.get? I ≠ some o) → (∀ o,s.heap.get? S ≠ some o) →
   s1.heap.IsTupleIter I T 2 ∧ s1.heap.IsTuple T #[a,b] → s1.heap.get? S = some { cls := .type "list",dict := none,data := .seq #[v,v] c,slots := #[] } →
   (∀ h' tk,Srt.Kp s.heap h' → R (.ok (.ret v)) { s1 with heap := h',toks := tk }) → codeAny (model prog w) A (.builtin "max.loop" ⟨[.ref I,.none,.ref S],[]⟩) R s1 := by
  intro R s1 I T S c v hTI hS k hI hSn st hSo hR
  have W := Walks.tuple (prog := prog) (w := w) (A := A.in1) hh I T hTI #[a,b]
  have hSI : S ≠ I := fun e=>hS (by simp [e])
  refine codeAny_builtin F.entry_max_loop ?_
  rw [Around.under_plainId F.plain_max_loop _]
  show wpAny _ A.in1 (seqItems? (.ref S) >>= _) _ _ s1
  refine wpAny_bind (wpAny_seqItems hSo rfl ?_)
  show wpAny _ A.in1 (tryCatch (pyNext (.ref I)) _ >>= _) _ _ s1
  refine wpAny_bind (wpAny_tryCatch (W.done s1 _ _ st fun h' tk hk'=>?_))
  have hS' := hk' S _ (by simpa using hSI) hSo
  show wpAny _ A.in1 (updateSeq S (fun _=>#[]) >>= _) _ _ _
  refine wpAny_bind (wpAny_updateSeq hS' rfl (wpAny_bind (wpAny_letGo (wpAny_pure ?_))))
  exact hR _ tk fun x o e=>(Heap.get?_update_other _ _ (Ne.symm (jV hSn e))).trans (hk' x o (pX hI e) (k x o e))
 refine call_function_tree F.kind_max F.plain_max F.entry_max (F.args_max2 _ _) ?_
 show wpAny _ A.in1 (Builtin.Builtins.bindParams "max" ["key","default"] 0 ⟨[],[]⟩ >>= _) _ _ s
 refine wpAny_bind (wpAny_of_eq (show Builtin.Builtins.bindParams "max" ["key","default"] 0 ⟨[],[]⟩ = pure [none,none] from rfl) ?_)
 show wpAny _ A.in1 (newTuple [a,b] >>= _) _ _ s
 refine wpAny_bind (wpAny_newObj_type ?_)
 generalize hhT : s.heap.push { cls := .type "tuple",data := .seq [a,b].toArray } = hT
 have zT : hT.objs.size = s.heap.objs.size + 1 := by rw [← hhT]; exact Heap.size_push ..
 have kT : Srt.Kp s.heap hT := fun x o e=>by rw [← hhT]; exact Heap.get?_push_of_some _ e
 have tT : hT.IsTuple s.heap.objs.size #[a,b] := by rw [← hhT]; exact ⟨_,Heap.get?_push_size _ rfl,rfl,0,by simp⟩
 refine wpAny_bind (wpAny_pyIter_tuple (s := { s with heap := hT }) tT ?_)
 dsimp only
 generalize hhI : hT.push { cls := .type "tuple_iterator",data := .fields #[.ref s.heap.objs.size,.int 0 0] } = hI
 have zI : hI.objs.size = s.heap.objs.size + 2 := by rw [← hhI,Heap.size_push,zT]
 have kI : Srt.Kp hT hI := fun x o e=>by rw [← hhI]; exact Heap.get?_push_of_some _ e
 have stI : hI.IsTupleIter hT.objs.size s.heap.objs.size 0 ∧ hI.IsTuple s.heap.objs.size #[a,b] := by
  refine ⟨?_,by obtain ⟨o,e,r⟩ := tT; exact ⟨o,kI _ _ e,r⟩⟩
  rw [← hhI]
  exact ⟨_,Heap.get?_push_size _ rfl,rfl,rfl⟩
 refine wpAny_bind (wpAny_newObj_type ?_)
 rw [nm]
 dsimp only
 generalize hhS : hI.push { cls := .type "list",data := .seq ([] : List Value).toArray } = hS
 have kS : Srt.Kp hI hS := fun x o e=>by rw [← hhS]; exact Heap.get?_push_of_some _ e
 have sS : hS.get? hI.objs.size = some { cls := .type "list",dict := none,data := .seq #[] 0,slots := #[] } := by rw [← hhS]; exact Heap.get?_push_size _ rfl
 have W := Walks.tuple (prog := prog) (w := w) (A := A.in1) hh hT.objs.size s.heap.objs.size (by rw [zT]; exact Nat.ne_of_lt (Nat.lt_succ_self _)) #[a,b]
 have qM : Srt.Kp s.heap hS := fun x o e=>kS x o (kI x o (kT x o e))
 have nI : ∀ o,s.heap.get? hT.objs.size ≠ some o := fun o e=>by
  have q : hT.objs.size < s.heap.objs.size := Heap.lt_size e
  omega
 have nS : ∀ o,s.heap.get? hI.objs.size ≠ some o := fun o e=>by
  have q : hI.objs.size < s.heap.objs.size := Heap.lt_size e
  omega
 have neSI : hI.objs.size ≠ hT.objs.size := by omega
 have nSf : hI.objs.size ∉ [hT.objs.size,s.heap.objs.size] := fun z=>by
  have z' : hI.objs.size = hT.objs.size ∨ hI.objs.size = s.heap.objs.size := by simpa using z
  omega
 have upd1 : ∀ {h1 : Heap} {f : Obj → Obj} (b : Addr) (o : Obj),b ∈ [hT.objs.size,s.heap.objs.size] → h1.get? b = some o → (h1.update hI.objs.size f).get? b = some o := fun b o hb e =>
  (Heap.get?_update_other _ _ (fun z : hI.objs.size = b=>nSf (by rw [z]; exact hb))).trans e
 refine wpAny_pure ⟨plainId_quiet F.plain_max_loop _,codeAny_builtin F.entry_max_loop ?_⟩
 rw [Around.under_plainId F.plain_max_loop _]
 show wpAny _ A.in1 (seqItems? (.ref hI.objs.size) >>= _) _ _ { s with heap := hS }
 refine wpAny_bind (wpAny_seqItems sS rfl ?_)
 show wpAny _ A.in1 (tryCatch (pyNext (.ref hT.objs.size)) _ >>= _) _ _ { s with heap := hS }
 refine wpAny_bind (wpAny_tryCatch (W.item 0 { s with heap := hS } _ _ (by simp) (W.frame _ _ _ stI fun x _ o e=>kS x o e) fun v h1 tk1 hP1 st1 k1=>?_))
 have ev : v = a := by simpa using hP1.symm
 subst ev
 have s1 := k1 hI.objs.size _ (by simpa using neSI) sS
 have kA1 : Srt.Kp s.heap h1 := fun x o e=>k1 x o (pX nI e) (qM x o e)
 show wpAny _ A.in1 (updateSeq hI.objs.size (fun _=>#[v,v]) >>= _) _ _ _
 refine wpAny_bind (wpAny_updateSeq s1 rfl ?_)
 rw [nm]
 have s2 := Heap.get?_update_self (Obj.mapSeq fun _=>#[v,v]) s1 rfl
 have kA2 : Srt.Kp s.heap (h1.update hI.objs.size (Obj.mapSeq fun _=>#[v,v])) := fun x o e=>(Heap.get?_update_other _ _ (Ne.symm (jV nS e))).trans (kA1 x o e)
 have st2 := W.frame _ _ _ st1 fun x hx o e=>upd1 (f := Obj.mapSeq fun _=>#[v,v]) x o hx e
 generalize h1.update hI.objs.size (Obj.mapSeq fun _=>#[v,v]) = h2 at s2 kA2 st2 ⊢
 refine wpAny_pure ⟨plainId_quiet F.plain_max_loop _,codeAny_builtin F.entry_max_loop ?_⟩
 rw [Around.under_plainId F.plain_max_loop _]
 show wpAny _ A.in1 (seqItems? (.ref hI.objs.size) >>= _) _ _ _
 refine wpAny_bind (wpAny_seqItems s2 rfl ?_)
 show wpAny _ A.in1 (tryCatch (pyNext (.ref hT.objs.size)) _ >>= _) _ _ _
 refine wpAny_bind (wpAny_tryCatch (W.item 1 _ _ _ (by simp) st2 fun v' h3 tk3 hP3 st3 k3=>?_))
 have ev' : v' = b := by simpa using hP3.symm
 subst ev'
 have s3 := k3 hI.objs.size _ (by simpa using neSI) s2
 have kA3 : Srt.Kp s.heap h3 := fun x o e=>k3 x o (pX nI e) (kA2 x o e)
 show wpAny _ A.in1 (tryCatch (holding [v',v'] (richCompare .Gt v' v >>= _)) _ >>= _) _ _ _
 refine wpAny_bind (wpAny_tryCatch (wpAny_holding (wpAny_bind (hg _ _ _ kA3 ?_))))
 refine wpAny_bind (wpAny_holding (wpAny_truthy_bool (wpAny_bind (wpAny_letGo (wpAny_pure ?_)))))
 have neTI : s.heap.objs.size ≠ hT.objs.size := by omega
 cases g with
 | true =>
  simp only [if_true] at h ⊢
  refine wpAny_bind (wpAny_updateSeq s3 rfl (wpAny_bind (wpAny_letGo ?_)))
  rw [nm]
  refine wpAny_pure ⟨plainId_quiet F.plain_max_loop _,loop1 (T := s.heap.objs.size) neTI nSf (fun x o e=>(Heap.get?_update_other _ _ (Ne.symm (jV nS e))).trans (kA3 x o e)) nI nS
   (W.frame _ _ _ st3 fun x hx o e=>upd1 x o hx e) (Heap.get?_update_self _ s3 rfl) fun h' tk k=>h h' tk k⟩
 | false =>
  simp only [Bool.false_eq_true,if_false] at h ⊢
  refine wpAny_bind (wpAny_letGo ?_)
  rw [nm]
  refine wpAny_pure ⟨plainId_quiet F.plain_max_loop _,loop1 (T := s.heap.objs.size) neTI nSf kA3 nI nS st3 s3 fun h' tk k=>h h' tk k⟩
end
section
variable {X : Cx}
def BA4 (K : PySem.W.Frag) : List V → Hp → VK → Prop := fun xs H Q=>∃ v u x y,xs = [v,u] ∧ EndV K H v (some x) ∧ EndV K H u (some y) ∧ Q (if x < y then u else v) H
theorem zW (hc : X.calm = true) (hu : X.A.units + 64 < cLine) : S3 X (.builtin "max") (BA4 X.K) := by
 intro pins s σ H xs us Q I r h
 obtain ⟨v,u,x,y,rfl,h1,h2,q⟩ := h
 obtain ⟨a,b,rfl,ra,rb⟩ := jI r
 have e1 := h1.here I ra
 have e2 := h2.here I rb
 refine AE2 (g := decide (x < y)) (I.ok.hd hc) (fun s' Q' E' k hQ=>(e2.kp k).gt (e1.kp k) (by show X.A.units + 1 < _; omega) hQ) fun h' tk k=>?_
 have I' : Inv X pins σ H { s with heap := h',toks := tk } := I.kept k
 by_cases c : x < y
 ·rw [if_pos (by simp [c])]
  rw [if_pos c] at q
  exact ⟨u,H,I',rb,q⟩
 ·rw [if_neg (by simp [c])]
  rw [if_neg c] at q
  exact ⟨v,H,I',ra,q⟩
end
end L2
namespace L2.Sp
end L2.Sp
namespace L2.HS
end L2.HS
namespace L2.HT
end L2.HT
namespace L2.Srt
end L2.Srt
namespace L2.Sp
abbrev Pr := En × En
def U7 : En → Int → Bool
 | none,_=>true
 | some a,n=>decide (a ≤ n)
def gI : Int → En → Bool
 | _,none=>true
 | n,some b=>decide (n ≤ b)
def M4 (n : Int) (p : Pr) : Bool := U7 p.1 n && gI n p.2
def J6 (n : Int) (ss : List Pr) : Bool := ss.any (M4 n)
def gE (p : Pr) : Prop := ∀ a b,p.1 = some a → p.2 = some b → a ≤ b
def AW6 (p q : Pr) : Prop := ∃ b a,p.2 = some b ∧ q.1 = some a ∧ b + 1 < a
structure Form (ss : List Pr) : Prop where
 ok : ∀ p ∈ ss,gE p
 gap : ss.Pairwise AW6
theorem O9 (n : Int) (p : Pr) (r : List Pr) : J6 n (p :: r) = (M4 n p || J6 n r) := rfl
theorem cP (n : Int) (a b : List Pr) : J6 n (a ++ b) = (J6 n a || J6 n b) := List.any_append
theorem eU (n : Int) : J6 n [] = false := rfl
theorem Form.nil : Form [] := ⟨(fun _ h=>by cases h),List.Pairwise.nil⟩
theorem Form.tail {p : Pr} {r : List Pr} (h : Form (p :: r)) : Form r := ⟨fun q hq=>h.ok q (List.mem_cons_of_mem _ hq),(List.pairwise_cons.mp h.gap).2⟩
theorem S6 {n : Int} {p : Pr} : M4 n p = true ↔ (∀ a,p.1 = some a → a ≤ n) ∧ ∀ b,p.2 = some b → n ≤ b := by
 obtain ⟨lo,hi⟩ := p
 cases lo <;> cases hi <;> simp [M4,U7,gI]
theorem bJ {n : Int} {ss : List Pr} : J6 n ss = true ↔ ∃ p ∈ ss,M4 n p = true := List.any_eq_true
theorem gP {p : Pr} {r : List Pr} {n : Int} (h : Form (p :: r)) (hn : J6 n r = true) : ∃ b,p.2 = some b ∧ b + 1 < n := by
 obtain ⟨q,hq,hm⟩ := bJ.mp hn
 obtain ⟨b,a,e1,e2,hlt⟩ := (List.pairwise_cons.mp h.gap).1 q hq
 have := (S6.mp hm).1 a e2
 exact ⟨b,e1,by omega⟩
theorem qH {p : Pr} {a : Int} (h : gE p) (e : p.1 = some a) : M4 a p = true := S6.mpr ⟨fun a' e'=>by rw [e] at e'; cases e'; exact Int.le_refl _,fun b e'=>h a b e e'⟩
theorem tR {p : Pr} {b : Int} (h : gE p) (e : p.2 = some b) : M4 b p = true := S6.mpr ⟨fun a e'=>h a b e' e,fun b' e'=>by rw [e] at e'; cases e'; exact Int.le_refl _⟩
theorem qQ {p : Pr} {r : List Pr} {n a : Int} (h : Form (p :: r)) (e : p.1 = some a) (hn : J6 n (p :: r) = true) : a ≤ n := by
 rw [O9] at hn
 cases hp : M4 n p with
 | true=>exact (S6.mp hp).1 a e
 | false =>
  rw [hp,Bool.false_or] at hn
  obtain ⟨b,eb,hb⟩ := gP h hn
  have := h.ok p List.mem_cons_self a b e eb
  omega
theorem qI {p q : Pr} {r u : List Pr} (hp : Form (p :: r)) (hq : Form (q :: u)) (h : ∀ n,J6 n (p :: r) = J6 n (q :: u)) : ∀ a,p.1 = some a → ∃ a',q.1 = some a' ∧ a ≤ a' := by
 intro a e
 cases e2 : q.1 with
 | some a' =>
  refine ⟨a',rfl,?_⟩
  have : J6 a' (q :: u) = true := by rw [O9,qH (hq.ok q List.mem_cons_self) e2,Bool.true_or]
  rw [← h] at this
  exact qQ hp e this
 | none =>
  exfalso
  have : ∃ n : Int,n < a ∧ M4 n q = true := by
   cases e3 : q.2 with
   | none=>exact ⟨a - 1,by omega,S6.mpr ⟨fun _ z=>(by rw [e2] at z; cases z),fun _ z=>(by rw [e3] at z; cases z)⟩⟩
   | some b=>exact ⟨min (a - 1) b,by omega,S6.mpr ⟨fun _ z=>(by rw [e2] at z; cases z),fun b' z=>(by rw [e3] at z; cases z; omega)⟩⟩
  obtain ⟨n,hn,hm⟩ := this
  have z : J6 n (q :: u) = true := by rw [O9,hm,Bool.true_or]
  rw [← h] at z
  have := qQ hp e z
  omega
theorem lR {p q : Pr} {r u : List Pr} (hp : Form (p :: r)) (hq : Form (q :: u)) (h : ∀ n,J6 n (p :: r) = J6 n (q :: u)) (hl : p.1 = q.1) : ∀ b,p.2 = some b → ∃ b',q.2 = some b' ∧ b' ≤ b := by
 intro b e
 have out : J6 (b + 1) (p :: r) = false := by
  rw [O9]
  have h1 : M4 (b + 1) p = false := by
   cases z : M4 (b + 1) p with
   | false=>rfl
   | true=>have := (S6.mp z).2 b e; omega
  rw [h1,Bool.false_or]
  cases z : J6 (b + 1) r with
  | false=>rfl
  | true=>obtain ⟨b',e',hb⟩ := gP hp z; rw [e] at e'; cases e'; omega
 have nin : M4 (b + 1) q = false := by
  rw [h,O9] at out
  cases z : M4 (b + 1) q with
  | false=>rfl
  | true=>rw [z,Bool.true_or] at out; cases out
 have lo : ∀ a,q.1 = some a → a ≤ b + 1 := fun a ea=>by
  have := hp.ok p List.mem_cons_self a b (hl.trans ea) e
  omega
 cases e2 : q.2 with
 | none =>
  exfalso
  have : M4 (b + 1) q = true := S6.mpr ⟨lo,fun _ z=>by rw [e2] at z; cases z⟩
  rw [nin] at this; cases this
 | some b' =>
  refine ⟨b',rfl,?_⟩
  by_cases c : b' ≤ b
  ·exact c
  ·exfalso
   have : M4 (b + 1) q = true := S6.mpr ⟨lo,fun b'' z=>by rw [e2] at z; cases z; omega⟩
   rw [nin] at this; cases this
theorem Form.same : ∀ {ss ts : List Pr},Form ss → Form ts → (∀ n,J6 n ss = J6 n ts) → ss = ts
 | [],[],_,_,_=>rfl
 | [],q :: u,_,hq,h=>by
  exfalso
  obtain ⟨lo,hi⟩ := q
  have ok := hq.ok (lo,hi) List.mem_cons_self
  have : ∃ n,M4 n (lo,hi) = true := by
   cases lo with
   | some a=>exact ⟨a,qH ok rfl⟩
   | none =>
    cases hi with
    | some b=>exact ⟨b,tR ok rfl⟩
    | none=>exact ⟨0,rfl⟩
  obtain ⟨n,hn⟩ := this
  have := h n
  rw [O9,hn] at this
  cases this
 | p :: r,[],hp,_,h=>by
  exfalso
  obtain ⟨lo,hi⟩ := p
  have ok := hp.ok (lo,hi) List.mem_cons_self
  have : ∃ n,M4 n (lo,hi) = true := by
   cases lo with
   | some a=>exact ⟨a,qH ok rfl⟩
   | none =>
    cases hi with
    | some b=>exact ⟨b,tR ok rfl⟩
    | none=>exact ⟨0,rfl⟩
  obtain ⟨n,hn⟩ := this
  have := h n
  rw [O9,hn] at this
  cases this
 | p :: r,q :: u,hp,hq,h=>by
  have hl : p.1 = q.1 := by
   cases e1 : p.1 with
   | some a =>
    obtain ⟨a',e2,h1⟩ := qI hp hq h a e1
    obtain ⟨a'',e3,h2⟩ := qI hq hp (fun n=>(h n).symm) a' e2
    rw [e1] at e3; cases e3
    rw [e2]; congr 1; omega
   | none =>
    cases e2 : q.1 with
    | none=>rfl
    | some a'=>obtain ⟨a'',e3,_⟩ := qI hq hp (fun n=>(h n).symm) a' e2; rw [e1] at e3; cases e3
  have hh : p.2 = q.2 := by
   cases e1 : p.2 with
   | some b =>
    obtain ⟨b',e2,h1⟩ := lR hp hq h hl b e1
    obtain ⟨b'',e3,h2⟩ := lR hq hp (fun n=>(h n).symm) hl.symm b' e2
    rw [e1] at e3; cases e3
    rw [e2]; congr 1; omega
   | none =>
    cases e2 : q.2 with
    | none=>rfl
    | some b'=>obtain ⟨b'',e3,_⟩ := lR hq hp (fun n=>(h n).symm) hl.symm b' e2; rw [e1] at e3; cases e3
  have hpq : p = q := Prod.ext hl hh
  subst hpq
  have ht : ∀ n,J6 n r = J6 n u := fun n=>by
   have := h n
   rw [O9,O9] at this
   cases hm : M4 n p with
   | false=>rw [hm,Bool.false_or,Bool.false_or] at this; exact this
   | true =>
    have no : ∀ {z : List Pr},Form (p :: z) → J6 n z = false := fun {z} hz=>by
     cases c : J6 n z with
     | false=>rfl
     | true =>
      obtain ⟨b,eb,hb⟩ := gP hz c
      have := (S6.mp hm).2 b eb
      omega
    rw [no hp,no hq]
  rw [Form.same hp.tail hq.tail ht]
def eJ : En → En → Bool
 | none,_=>true
 | _,none=>true
 | some b,some a=>decide (a ≤ b + 1)
def higher : En → En → En
 | none,_=>none
 | _,none=>none
 | some a,some b=>some (if a < b then b else a)
def hG (ss : List Pr) (l p : Pr) : List Pr := if eJ l.2 p.1 = true then ss ++ [(l.1,higher l.2 p.2)] else ss ++ [l] ++ [p]
def step (ss : List Pr) (p : Pr) : List Pr := match ss.getLast? with
 | none=>[p]
 | some l=>hG ss.dropLast l p
theorem oX (p : Pr) : step [] p = [p] := rfl
theorem bP (ss : List Pr) (l p : Pr) : step (ss ++ [l]) p = hG ss l p := by
 unfold step
 rw [List.getLast?_append]
 simp
theorem Form.snoc {ss : List Pr} {p : Pr} : Form (ss ++ [p]) ↔ Form ss ∧ gE p ∧ ∀ q ∈ ss,AW6 q p := by
 constructor
 ·intro h
  have g := List.pairwise_append.mp h.gap
  exact ⟨⟨fun q hq=>h.ok q (List.mem_append_left _ hq),g.1⟩,h.ok p (by simp),fun q hq=>g.2.2 q hq p (by simp)⟩
 ·rintro ⟨h,ok,g⟩
  refine ⟨fun q hq=>?_,List.pairwise_append.mpr ⟨h.gap,by simp,fun q hq r hr=>?_⟩⟩
  ·rcases List.mem_append.mp hq with h1 | h1
   ·exact h.ok q h1
   ·rw [List.mem_singleton.mp h1]; exact ok
  ·rw [List.mem_singleton.mp hr]; exact g q hq
theorem AL3 {ss : List Pr} {p : Pr} (h : Form ss) (ok : gE p) (ord : ∀ q ∈ ss,U4 p.1 q.1 = false) : Form (step ss p) ∧ (∀ n,J6 n (step ss p) = (J6 n ss || M4 n p)) ∧ ∀ r : Pr,U4 r.1 p.1 = false → (∀ q ∈ ss,U4 r.1 q.1 = false) → ∀ q ∈ step ss p,U4 r.1 q.1 = false := by
 rcases List.eq_nil_or_concat ss with rfl | ⟨s0,l,e⟩
 ·rw [oX]
  refine ⟨⟨fun q hq=>by rw [List.mem_singleton.mp hq]; exact ok,by simp⟩,fun n=>by simp [J6],fun r h1 _ q hq=>by rw [List.mem_singleton.mp hq]; exact h1⟩
 ·rw [List.concat_eq_append] at e
  subst e
  rw [bP]
  obtain ⟨h0,okl,gl⟩ := Form.snoc.mp h
  have ol : U4 p.1 l.1 = false := ord l (by simp)
  obtain ⟨a,b⟩ := l
  obtain ⟨lo,hi⟩ := p
  unfold hG
  by_cases c : eJ b lo = true
  ·rw [if_pos c]
   refine ⟨Form.snoc.mpr ⟨h0,?_,gl⟩,fun n=>?_,fun r h1 h2 q hq=>?_⟩
   ·intro a' b' ea eb
    have ea : a = some a' := ea
    have eb : higher b hi = some b' := eb
    cases b with
    | none=>simp [higher] at eb
    | some b0 =>
     cases hi with
     | none=>simp [higher] at eb
     | some h0 =>
      have := okl a' b0 ea rfl
      simp only [higher,Option.some.injEq] at eb
      split at eb <;> omega
   ·rw [cP,cP,Bool.or_assoc]
    congr 1
    show (M4 n (a,higher b hi) || false) = ((M4 n (a,b) || false) || M4 n (lo,hi))
    rw [Bool.or_false,Bool.or_false]
    cases a <;> cases b <;> cases lo <;> cases hi <;> simp [M4,U7,gI,higher,eJ,U4,gE] at c ol ok okl ⊢
    all_goals (try (rw [Bool.eq_iff_iff]; simp; split <;> omega))
    all_goals (try (rw [Bool.eq_iff_iff]; simp; omega))
    all_goals (try omega)
   ·rcases List.mem_append.mp hq with hq | hq
    ·exact h2 q (List.mem_append_left _ hq)
    ·rw [List.mem_singleton.mp hq]; exact h2 (a,b) (by simp)
  ·rw [if_neg c]
   have cc : ∃ b0 l0,b = some b0 ∧ lo = some l0 ∧ b0 + 1 < l0 := by
    cases b with
    | none=>simp [eJ] at c
    | some b0 =>
     cases lo with
     | none=>simp [eJ] at c
     | some l0=>exact ⟨b0,l0,rfl,rfl,by simp [eJ] at c; omega⟩
   obtain ⟨b0,l0,rfl,rfl,hlt⟩ := cc
   refine ⟨Form.snoc.mpr ⟨h,ok,fun q hq=>?_⟩,fun n=>?_,fun r h1 h2 q hq=>?_⟩
   ·rcases List.mem_append.mp hq with hq | hq
    ·obtain ⟨x,y,e1,e2,h3⟩ := gl q hq
     have e2 : a = some y := e2
     have := okl y b0 e2 rfl
     exact ⟨x,l0,e1,rfl,by omega⟩
    ·rw [List.mem_singleton.mp hq]; exact ⟨b0,l0,rfl,rfl,hlt⟩
   ·rw [cP]
    congr 1
    show (M4 n _ || false) = _
    rw [Bool.or_false]
   ·rcases List.mem_append.mp hq with hq | hq
    ·exact h2 q hq
    ·rw [List.mem_singleton.mp hq]; exact h1
theorem tS : ∀ (qs ss : List Pr),Form ss → (∀ q ∈ qs,gE q) → (∀ q ∈ qs,∀ r ∈ ss,U4 q.1 r.1 = false) → qs.Pairwise (fun p q=>aC q p = false) →
  Form (qs.foldl step ss) ∧ ∀ n,J6 n (qs.foldl step ss) = (J6 n ss || J6 n qs)
 | [],ss,h,_,_,_=>⟨h,fun n=>by simp [eU]⟩
 | q :: r,ss,h,ok,ord,pw=>by
  obtain ⟨p1,p2⟩ := List.pairwise_cons.mp pw
  obtain ⟨f,m,o⟩ := AL3 h (ok q List.mem_cons_self) (ord q List.mem_cons_self)
  obtain ⟨f2,m2⟩ := tS r (step ss q) f (fun x hx=>ok x (List.mem_cons_of_mem _ hx)) (fun x hx y hy=>o x (lN (p1 x hx)) (fun z hz=>ord x (List.mem_cons_of_mem _ hx) z hz) y hy) p2
  refine ⟨f2,fun n=>?_⟩
  show J6 n (r.foldl step (step ss q)) = _
  rw [m2,m,O9,Bool.or_assoc]
theorem yL {n : Int} {ps qs : List Pr} (h : qs.Perm ps) : J6 n qs = J6 n ps := by
 rw [Bool.eq_iff_iff,bJ,bJ]
 exact ⟨fun ⟨p,hp,m⟩=>⟨p,h.mem_iff.mp hp,m⟩,fun ⟨p,hp,m⟩=>⟨p,h.mem_iff.mpr hp,m⟩⟩
theorem AT5 {ps qs : List Pr} (h : qs.Perm ps) (ok : ∀ p ∈ ps,gE p) (pw : qs.Pairwise (fun p q=>aC q p = false)) : Form (qs.foldl step []) ∧ ∀ n,J6 n (qs.foldl step []) = J6 n ps := by
 obtain ⟨f,m⟩ := tS qs [] Form.nil (fun q hq=>ok q (h.mem_iff.mp hq)) (fun _ _ r hr=>by cases hr) pw
 exact ⟨f,fun n=>by rw [m,eU,Bool.false_or,yL h]⟩
end L2.Sp
namespace L2
open PySem PySem.Spec PyProof.Rows
section
variable {κ : Type} [DecidableEq κ]
def P7 (kvs : List (κ × V)) (k : κ) : Option V := (kvs.find? fun kv=>decide (kv.1 = k)).map (·.2)
def Q9 (kvs : List (κ × V)) (k : κ) (v : V) : List (κ × V) :=
 if (kvs.any fun kv=>decide (kv.1 = k)) = true then kvs.map (fun kv=>if kv.1 = k then (kv.1,v) else kv) else kvs ++ [(k,v)]
def U2 (kvs : List (κ × V)) (k : κ) : List (κ × V) := kvs.filter fun kv=>decide (kv.1 ≠ k)
theorem oK {k : κ} : P7 ([] : List (κ × V)) k = none := rfl
theorem S4 {p : κ × V} {r : List (κ × V)} {k : κ} (e : p.1 = k) : P7 (p :: r) k = some p.2 := by simp [P7,List.find?_cons,e]
theorem T8 {p : κ × V} {r : List (κ × V)} {k : κ} (e : ¬ p.1 = k) : P7 (p :: r) k = P7 r k := by simp [P7,List.find?_cons,e]
theorem dR (k : κ) : ∀ kvs : List (κ × V),(kvs.any fun kv=>decide (kv.1 = k)) = (P7 kvs k).isSome
 | []=>rfl
 | p :: r=>by
  rw [List.any_cons]
  by_cases e : p.1 = k
  ·simp only [S4 e,decide_eq_true e,Bool.true_or,Option.isSome_some]
  ·rw [T8 e,decide_eq_false e,Bool.false_or]; exact dR k r
theorem mC (k j : κ) (y : V) : ∀ kvs : List (κ × V),P7 kvs k = none → P7 (kvs ++ [(k,y)]) j = if j = k then some y else P7 kvs j
 | [],_=>by
  by_cases e : k = j
  ·rw [if_pos e.symm]; exact S4 (p := (k,y)) e
  ·rw [if_neg (fun z=>e z.symm)]; exact T8 (p := (k,y)) e
 | p :: r,hn=>by
  rw [List.cons_append]
  have hk : ¬ p.1 = k := fun z=>by rw [S4 z] at hn; cases hn
  rw [T8 hk] at hn
  have ih := mC k j y r hn
  by_cases e : p.1 = j
  ·rw [S4 e,S4 e,if_neg (fun z=>hk (e.trans z))]
  ·rw [T8 e,T8 e,ih]
theorem cQ (kvs : List (κ × V)) (k : κ) (v : V) : (Q9 kvs k v).length ≤ kvs.length + 1 := by
 unfold Q9
 split
 ·rw [List.length_map]; omega
 ·rw [List.length_append,List.length_cons,List.length_nil]; omega
theorem pN {kvs : List (κ × V)} {k : κ} (v : V) (h : P7 kvs k = none) : Q9 kvs k v = kvs ++ [(k,v)] := by
 unfold Q9
 rw [dR,h]
 exact if_neg (by decide)
theorem RelO.isSome_eq {o : Option V} {u : Option Value} (r : RelO o u) : o.isSome = u.isSome := by
 cases o with
 | none=>cases u with
  | none=>rfl
  | some _=>exact (show False from r).elim
 | some _=>cases u with
  | none=>exact (show False from r).elim
  | some _=>rfl
theorem KV.val {kvs : List (κ × V)} {vs : List (κ × Value)} (r : KV kvs vs) (k : κ) : RelO (P7 kvs k) (valueAt vs k) := by
 unfold KV at r
 induction r with
 | nil=>exact True.intro
 | @cons p q ps qs h t ih =>
  obtain ⟨h1,h2⟩ := h
  by_cases e : p.1 = k
  ·have e' : q.1 = k := h1.symm.trans e
   have b : valueAt (q :: qs) k = some q.2 := by simp [valueAt,List.find?_cons,e']
   rw [S4 e,b]; exact h2
  ·have e' : ¬ q.1 = k := fun z=>e (h1.trans z)
   have b : valueAt (q :: qs) k = valueAt qs k := by simp [valueAt,List.find?_cons,e']
   rw [T8 e,b]; exact ih
theorem KV.any {kvs : List (κ × V)} {vs : List (κ × Value)} (r : KV kvs vs) (k : κ) : (kvs.any fun kv=>decide (kv.1 = k)) = vs.any fun kv=>decide (kv.1 = k) := by
 unfold KV at r
 induction r with
 | nil=>rfl
 | cons h t ih=>rw [List.any_cons,List.any_cons,ih,h.1]
theorem KV.repl {kvs : List (κ × V)} {vs : List (κ × Value)} (r : KV kvs vs) (k : κ) {y : V} {u : Value} (ry : RelV y u) :
  KV (kvs.map fun kv=>if kv.1 = k then (kv.1,y) else kv) (vs.map fun kv=>if kv.1 = k then (kv.1,u) else kv) := by
 unfold KV at r ⊢
 induction r with
 | nil=>exact .nil
 | @cons p q ps qs h t ih =>
  rw [List.map_cons,List.map_cons]
  refine .cons ?_ ih
  obtain ⟨h1,h2⟩ := h
  by_cases e : p.1 = k
  ·rw [if_pos e,if_pos (h1.symm.trans e)]; exact ⟨h1,ry⟩
  ·rw [if_neg e,if_neg (fun z=>e (h1.trans z))]; exact ⟨h1,h2⟩
theorem KV.put {kvs : List (κ × V)} {vs : List (κ × Value)} (r : KV kvs vs) (k : κ) {y : V} {u : Value} (ry : RelV y u) : KV (Q9 kvs k y) (stored vs k u) := by
 unfold Q9 stored
 rw [r.any k]
 by_cases e : (vs.any fun kv=>decide (kv.1 = k)) = true
 ·rw [if_pos e,if_pos e]; exact r.repl k ry
 ·rw [if_neg e,if_neg e]; exact Paired.snoc r ⟨rfl,ry⟩
theorem KV.drop {kvs : List (κ × V)} {vs : List (κ × Value)} (r : KV kvs vs) (k : κ) : KV (U2 kvs k) (without vs k) := by
 unfold KV at r ⊢
 unfold U2 without
 induction r with
 | nil=>exact .nil
 | @cons p q ps qs h t ih =>
  obtain ⟨h1,h2⟩ := h
  rw [List.filter_cons,List.filter_cons]
  by_cases e : p.1 = k
  ·have a : ¬ decide (p.1 ≠ k) = true := by simp [e]
   have b : ¬ decide (q.1 ≠ k) = true := by simp [h1.symm.trans e]
   rw [if_neg a,if_neg b]; exact ih
  ·have e' : ¬ q.1 = k := fun z=>e (h1.trans z)
   have a : decide (p.1 ≠ k) = true := by simp [e]
   have b : decide (q.1 ≠ k) = true := by simp [e']
   rw [if_pos a,if_pos b]; exact .cons ⟨h1,h2⟩ ih
theorem KV.length {kvs : List (κ × V)} {vs : List (κ × Value)} (r : KV kvs vs) : kvs.length = vs.length := Paired.length r
theorem AF9 (kvs : List (κ × V)) (k : κ) : (U2 kvs k).length ≤ kvs.length := List.length_filter_le _ _
end
theorem eZ {P : Program} {w : World} {k : G3} {u : Value} (r : RelV (kV k) u) : (K3 P w).is k u = true := by
 cases k with
 | inl i=>obtain ⟨t,e⟩ := (show ∃ t,u = Value.int i t from r); subst e; exact rS P w i t
 | inr x=>obtain ⟨t,e⟩ := (show ∃ t,u = Value.str x t from r); subst e; exact rR P w x t
theorem mR {P : Program} {w : World} : ∀ {ks : List G3} {us : List Value},Vals (ks.map kV) us → ItemsAre (K3 P w) ks us
 | [],_,r=>by rw [List.map_nil] at r; cases r; exact .nil
 | k :: ks,_,r=>by
  rw [List.map_cons] at r
  cases r with
  | cons h t=>exact .cons (eZ h) (mR t)
abbrev KT (H : Hp) : List (List G3 × V) → List (List G3 × Addr × Value) → Prop := Paired fun p q=>p.1 = q.1 ∧ H q.2.1 = some (.tup (p.1.map kV)) ∧ RelV p.2 q.2.2
theorem KT.val {H : Hp} {kvs : List (List G3 × V)} {xs : List (List G3 × Addr × Value)} (r : KT H kvs xs) (k : List G3) : RelO (P7 kvs k) ((atKey xs k).map (·.2)) := by
 induction r with
 | nil=>exact True.intro
 | @cons p q ps qs h t ih =>
  obtain ⟨h1,_,h2⟩ := h
  by_cases e : p.1 = k
  ·have e' : q.1 = k := h1.symm.trans e
   have b : atKey (q :: qs) k = some q.2 := by simp [atKey,List.find?_cons,e']
   rw [S4 e,b]; exact h2
  ·have e' : ¬ q.1 = k := fun z=>e (h1.trans z)
   have b : atKey (q :: qs) k = atKey qs k := by simp [atKey,List.find?_cons,e']
   rw [T8 e,b]; exact ih
theorem KT.repl {H : Hp} {kvs : List (List G3 × V)} {xs : List (List G3 × Addr × Value)} (r : KT H kvs xs) (k : List G3) {y : V} {u : Value} (ry : RelV y u) :
  KT H (kvs.map fun kv=>if kv.1 = k then (kv.1,y) else kv) (xs.map (putAt k u)) := by
 induction r with
 | nil=>exact .nil
 | @cons p q ps qs h t ih =>
  rw [List.map_cons,List.map_cons]
  refine .cons ?_ ih
  obtain ⟨h1,h2,h3⟩ := h
  unfold putAt
  by_cases e : p.1 = k
  ·rw [if_pos e,if_pos (h1.symm.trans e)]; exact ⟨h1,h2,ry⟩
  ·rw [if_neg e,if_neg (fun z=>e (h1.trans z))]; exact ⟨h1,h2,h3⟩
theorem KT.put {H : Hp} {kvs : List (List G3 × V)} {xs : List (List G3 × Addr × Value)} (r : KT H kvs xs) (k : List G3) {b : Addr} {y : V} {u : Value} (hb : H b = some (.tup (k.map kV))) (ry : RelV y u) :
  KT H (Q9 kvs k y) (storedH xs k b u) := by
 have e : (kvs.any fun kv=>decide (kv.1 = k)) = (atKey xs k).isSome := by
  rw [dR,(r.val k).isSome_eq,Option.isSome_map]
 unfold Q9 storedH
 rw [e]
 by_cases q : (atKey xs k).isSome = true
 ·rw [if_pos q,if_pos q]; exact r.repl k ry
 ·rw [if_neg q,if_neg q]; exact Paired.snoc r ⟨rfl,hb,ry⟩
theorem KT.keeps {H H' : Hp} {kvs : List (List G3 × V)} {xs : List (List G3 × Addr × Value)} (r : KT H kvs xs) (ht : ∀ b ys,H b = some (.tup ys) → H' b = some (.tup ys)) : KT H' kvs xs :=
 Paired.mapP r fun _ _ z=>⟨z.1,ht _ _ z.2.1,z.2.2⟩
section
variable {P : Program} {w : World} {H : Hp} {h : Heap} {a : Addr}
theorem AI1 {u : HO} (ok : HOk P w H h) (e : Rd H a u) : ObjOk P w H h a u := e.ok ok
theorem iN {kvs : List (G3 × V)} (ok : HOk P w H h) (e : Rd H a (.dK kvs)) : kvs.length ≤ sizeLine ∧ (a == sysModules) = false ∧ ∃ vs,KV kvs vs ∧ h.DictOf (K3 P w) a vs :=
 show ObjOk P w H h a (.dK kvs) from AI1 ok e
theorem oG {kvs : List (G3 × V)} (ok : HOk P w H h) (e : H a = some (.dK kvs)) : kvs.length ≤ sizeLine ∧ (a == sysModules) = false ∧ ∃ vs,KV kvs vs ∧ h.DictOf (K3 P w) a vs := iN ok (.inl e)
theorem jZ {ks : List G3} (ok : HOk P w H h) (e : H a = some (.tup (ks.map kV))) : (tupleKind (K3 P w)).is h ks a := by
 obtain ⟨_,its,r,o,h1,h2,n,h3⟩ := (show ObjOk P w H h a (.tup (ks.map kV)) from ok a _ e)
 exact ⟨o,its.toArray,n,h1,h2,h3,by simpa using mR r⟩
theorem kE {kvs : List (List G3 × V)} (ok : HOk P w H h) (e : Rd H a (.dT kvs)) : kvs.length ≤ sizeLine ∧ (a == sysModules) = false ∧
  ∃ xs,KT H kvs xs ∧ h.DictOfH (tupleKind (K3 P w)) a xs := by
 obtain ⟨z,y,xs,r,o,es,ep,h1,h2,h3,h4,h5⟩ := (show ObjOk P w H h a (.dT kvs) from AI1 ok e)
 refine ⟨z,y,xs,r,o,es,ep,h1,h2,h3,h4,fun x hx=>?_,h5⟩
 have all : ∀ {l : List (List G3 × V)} {m : List (List G3 × Addr × Value)},KT H l m → ∀ x ∈ m,(tupleKind (K3 P w)).is h x.1 x.2.1 := by
  intro l m q
  induction q with
  | nil=>intro x hx; exact nomatch hx
  | @cons p q ps qs hq t ih =>
   intro x hx
   rcases List.mem_cons.mp hx with e | hx
   ·subst e
    exact jZ ok (by rw [← hq.1]; exact hq.2.1)
   ·exact ih x hx
 exact all r x hx
theorem BB8 {kvs : List (List G3 × V)} (ok : HOk P w H h) (e : H a = some (.dT kvs)) : kvs.length ≤ sizeLine ∧ (a == sysModules) = false ∧
  ∃ xs,KT H kvs xs ∧ h.DictOfH (tupleKind (K3 P w)) a xs := kE ok (.inl e)
end
def DGet (H : Hp) (a : Addr) (y : V) (r : Option V) : Prop :=
 (∃ kvs k,Rd H a (.dK kvs) ∧ y = kV k ∧ r = P7 kvs k) ∨ ∃ kvs k b,Rd H a (.dT kvs) ∧ y = .ref b ∧ H b = some (.tup (k.map kV)) ∧ r = P7 kvs k
def DPut (H : Hp) (a : Addr) (y v : V) (H' : Hp) : Prop :=
 (∃ kvs k,H a = some (.dK kvs) ∧ y = kV k ∧ kvs.length < sizeLine ∧ H' = upd H a (.dK (Q9 kvs k v))) ∨
 ∃ kvs k b,H a = some (.dT kvs) ∧ y = .ref b ∧ H b = some (.tup (k.map kV)) ∧ kvs.length < sizeLine ∧ H' = upd H a (.dT (Q9 kvs k v))
theorem DGet.k {H : Hp} {a : Addr} {kvs : List (G3 × V)} {k : G3} (e : H a = some (.dK kvs)) : DGet H a (kV k) (P7 kvs k) := .inl ⟨kvs,k,.inl e,rfl,rfl⟩
theorem DPut.k {H : Hp} {a : Addr} {kvs : List (G3 × V)} {k : G3} {v : V} (e : H a = some (.dK kvs)) (hl : kvs.length < sizeLine) : DPut H a (kV k) v (upd H a (.dK (Q9 kvs k v))) := .inl ⟨kvs,k,e,rfl,hl,rfl⟩
section
variable {X : Cx} {pins : List (Addr × Obj)} {σ : St} {H : Hp} {s : Shared} {a : Addr} {y v : V} {u r : Value} {o : Option V} {A : Around} {E : Value → Shared → Prop}
theorem Inv.big (I : Inv X pins σ H s) : sysModules < s.heap.objs.size := by
 have h : mainGlobals < s.heap.objs.size := (I.mod.glob.keeps I.bk).lt
 exact Nat.lt_trans (by decide) h
theorem zQ {Q : Value → Shared → Prop} (hu : A.units + 1 < cLine) (I : Inv X pins σ H s) (g : DGet H a y (some v)) (ry : RelV y u) (h : ∀ w' s',Inv X pins σ H s' → RelV v w' → Q w' s') :
  wpAny (model X.prog X.w) A (getItem (.ref a) u) Q E s := by
 rcases g with ⟨kvs,k,e,ey,l⟩ | ⟨kvs,k,b,e,ey,eb,l⟩
 ·subst ey
  obtain ⟨z,hd,vs,rel,dd⟩ := iN I.hok e
  obtain ⟨w',hw,rw'⟩ := RelO.some_of (v := v) (o := valueAt vs k) (by rw [l]; exact rel.val k)
  exact wpAny_getItem_of (eZ ry) dd.mapOf hw (h w' _ (I.tok _) rw')
 ·subst ey
  cases (show u = Value.ref b from ry)
  obtain ⟨z,hd,xs,rel,dd⟩ := kE I.hok e
  obtain ⟨w',hw,rw'⟩ := RelO.some_of (v := v) (o := (atKey xs k).map (·.2)) (by rw [l]; exact rel.val k)
  obtain ⟨p,hp,hp2⟩ := Option.map_eq_some_iff.mp hw
  refine wpAny_getItem_heap (tupleKind_room_in1 hu) (jZ I.hok eb) dd hp ?_
  rw [hp2]
  exact h w' _ (I.tok _) rw'
theorem BG1 {Q : Value → Shared → Prop} (hu : A.units + 1 < cLine) (I : Inv X pins σ H s) (g : DGet H a y o) (ry : RelV y u) (h : ∀ s',Inv X pins σ H s' → Q (.bool o.isSome) s') :
  wpAny (model X.prog X.w) A (compareOp .In u (.ref a)) Q E s := by
 rcases g with ⟨kvs,k,e,ey,l⟩ | ⟨kvs,k,b,e,ey,eb,l⟩
 ·subst ey
  obtain ⟨z,hd,vs,rel,dd⟩ := iN I.hok e
  refine wpAny_in_of (eZ ry) hd dd.mapOf ?_
  rw [← (rel.val k).isSome_eq,← l]
  exact h _ (I.tok _)
 ·subst ey
  cases (show u = Value.ref b from ry)
  obtain ⟨z,hd,xs,rel,dd⟩ := kE I.hok e
  refine wpAny_in_heap (tupleKind_room_in1 hu) (jZ I.hok eb) hd dd ?_
  have q := (rel.val k).isSome_eq
  rw [Option.isSome_map] at q
  rw [← q,← l]
  exact h _ (I.tok _)
theorem iO {h' : Heap} {t' : Nat} {ob : HO} (I : Inv X pins σ H s) (mu : Mut (H a)) (hs : Heap.SameBut a s.heap h') (he : ∃ q,h'.get? a = some q) (new : ObjOk X.prog X.w (upd H a ob) h' a ob) :
  Inv X pins σ (upd H a ob) { s with heap := h',toks := t' } :=
 I.write (x := a) (e := a) mu (.inl rfl) (fun b q hb z=>(hs.2 b hb).trans z) he new
theorem qU {P : Program} {w : World} {H' : Hp} {h' : Heap} {kvs : List (G3 × V)} {vs : List (G3 × Value)} (z : kvs.length ≤ sizeLine) (hd : (a == sysModules) = false) (rel : KV kvs vs) (dd : h'.DictOf (K3 P w) a vs) :
  ObjOk P w H' h' a (.dK kvs) := ⟨z,hd,vs,rel,dd⟩
theorem zP {H' : Hp} {Q : Unit → Shared → Prop} (hu : A.units + 1 < cLine) (I : Inv X pins σ H s) (g : DPut H a y v H') (ry : RelV y u) (rv : RelV v r) (h : ∀ s',Inv X pins σ H' s' → Q () s') :
  wpAny (model X.prog X.w) A (setItem (.ref a) u r) Q E s := by
 rcases g with ⟨kvs,k,e,ey,l,eH⟩ | ⟨kvs,k,b,e,ey,eb,l,eH⟩
 ·subst ey eH
  obtain ⟨z,hd,vs,rel,dd⟩ := oG I.hok e
  have hz : vs.length ≤ sizeLine := by rw [← rel.length]; exact z
  have hl : (Q9 kvs k v).length ≤ sizeLine := by have := cQ kvs k v; omega
  refine wpAny_setItem_pairs (hsz := hz) (eZ ry) dd fun h' dd' hs=>h _ ?_
  have he : ∃ q,h'.get? a = some q := let ⟨q,_,_,hq,_⟩ := dd'; ⟨q,hq⟩
  exact iO I (by rw [e]; exact True.intro) hs he (qU hl hd (rel.put k rv) dd')
 ·subst ey eH
  cases (show u = Value.ref b from ry)
  obtain ⟨z,hd,xs,rel,dd⟩ := BB8 I.hok e
  have hz : xs.length ≤ sizeLine := by rw [← Paired.length rel]; exact z
  have hl : (Q9 kvs k v).length ≤ sizeLine := by have := cQ kvs k v; omega
  refine wpAny_setItem_heap (hsz := hz) (tupleKind_room_in1 hu) (jZ I.hok eb) dd fun h' dd' hs=>h _ ?_
  obtain ⟨q,es,ep,hq,h2,h3,h4,_,h5⟩ := dd'
  refine iO I (by rw [e]; exact True.intro) hs ⟨q,hq⟩ ⟨hl,hd,_,(rel.put k eb rv).keeps fun c ys ec=>?_,q,es,ep,hq,h2,h3,h4,h5⟩
  rw [B7 (vO ec e (fun z=>nomatch z))]
  exact ec
end
section
variable {X : Cx} {pins : List (Addr × Obj)} {σ : St} {H : Hp} {s : Shared} {a : Addr} {kvs : List (G3 × V)} {k : G3} {u : Value} {A : Around} {E : Value → Shared → Prop}
theorem BB9 {v : V} {more : List Value} {Q : Value → Shared → Prop} (I : Inv X pins σ H s) (e : H a = some (.dK kvs)) (ry : RelV (kV k) u) (l : P7 kvs k = some v) (hm : more = [] ∨ ∃ x,more = [x])
  (h : ∀ w' s',Inv X pins σ (upd H a (.dK (U2 kvs k))) s' → RelV v w' → Q w' s') : wpAny (model X.prog X.w) A (call (.builtin "dict.pop") (.ref a :: u :: more)) Q E s := by
 obtain ⟨z,hd,vs,rel,dd⟩ := oG I.hok e
 obtain ⟨w',hw,rw'⟩ := RelO.some_of (v := v) (o := valueAt vs k) (by rw [← l]; exact rel.val k)
 have hp : (keyPart u).isSome = true := by
  cases k with
  | inl i=>obtain ⟨t,q⟩ := (show ∃ t,u = Value.int i t from ry); subst q; rfl
  | inr x=>obtain ⟨t,q⟩ := (show ∃ t,u = Value.str x t from ry); subst q; rfl
 have ha : argsOk "dict.pop" ⟨.ref a :: u :: more,[]⟩ := by
  rcases hm with q | ⟨x,q⟩
  ·subst q; exact PySem.F.args_dict_pop_2 _ _
  ·subst q; exact PySem.F.args_dict_pop_3 _ _ _
 refine call_meetsIn PySem.F.slot_dict_pop dd.typeIs PySem.F.entry_dict_pop ha (meets_dict_pop_there (K3 X.prog X.w) a (eZ ry) more hm hp)
  ⟨vs,w',dd,by rw [← rel.length]; exact z,hw,fun h' dd' hs=>h w' _ ?_ rw'⟩
 have he : ∃ q,h'.get? a = some q := let ⟨q,_,_,hq,_⟩ := dd'; ⟨q,hq⟩
 exact iO I (by rw [e]; exact True.intro) hs he (qU (Nat.le_trans (AF9 kvs k) z) hd (rel.drop k) dd')
theorem BC0 {Q : Value → Shared → Prop} (I : Inv X pins σ H s) (e : Rd H a (.dK kvs)) (h : ∀ t s',Inv X pins σ H s' → Q (.int kvs.length t) s') : wpAny (model X.prog X.w) A (call (.builtin "len") [.ref a]) Q E s := by
 obtain ⟨z,hd,vs,rel,dd⟩ := iN I.hok e
 refine call_len_dict hd dd (by rw [← rel.length]; rw [sizeLine_eq] at z; omega) ?_
 rw [← rel.length]
 exact h _ _ (I.tok _)
end
def AY4 (i : Expr) : Prop := ∀ ov iv,subscripted i false ov iv = operate [ov,iv] (getItem ov iv)
theorem AL1 {prog : Program} {w : World} {A : Around} {E : Value → Shared → Prop} {s : Shared} {env : Env} {value slice : Expr} {pos : Pos} {T id : String} {Q : Value → Shared → Prop}
  (hl : typeLookup (.type T) "__getitem__" = pure (some (.builtin id))) (hs : AY4 slice)
  (h : wpAny (model prog w) A (eval value env) (fun o s₁=>wpAny (model prog w) A (eval slice env) (fun i s₂=>s₂.TypeIs o T ∧ wpAny (model prog w) A (getItem o i) Q E s₂) E s₁) E s) :
  wpAny (model prog w) A (eval (.Subscript value slice pos) env) Q E s := by
 refine Subscript_ (wpAny_mono h (fun o s₁ h₁=>wpAny_mono h₁ (fun i s₂ h₂=>?_) fun _ _ x=>x) fun _ _ x=>x)
 obtain ⟨hT,h₂⟩ := h₂
 unfold subscriptTail
 refine wpAny_bind ?_
 rw [getitemInPython_of_ne hT.not_modules]
 refine wpAny_bind (wpAny_specialOf hT hl ?_)
 have fin : wpAny (model prog w) A (subscripted slice false o i) (fun r s₃=>wpAny (model prog w) A (letTemporaryGo value o r >>= fun _=>pure r) Q E s₃) E s₂ := by
  rw [hs o i]
  exact wpAny_operating (wpAny_mono h₂ (fun r s₃ h₃=>wpAny_bind (wpAny_letTemporaryGo (wpAny_pure h₃))) fun _ _ x=>x)
 first
  | exact wpAny_pure (wpAny_bind fin)
  | exact wpAny_bind (wpAny_pure (wpAny_bind fin))
  | exact wpAny_bind fin
theorem rY {X : Cx} {pins : List (Addr × Obj)} {σ : St} {H : Hp} {s : Shared} {a : Addr} {y : V} {o : Option V} (I : Inv X pins σ H s) (g : DGet H a y o) : s.TypeIs (.ref a) "dict" := by
 rcases g with ⟨kvs,k,e,_,_⟩ | ⟨kvs,k,b,e,_,_,_⟩
 ·obtain ⟨_,_,vs,_,dd⟩ := iN I.hok e
  exact dd.typeIs
 ·obtain ⟨_,_,xs,_,dd⟩ := kE I.hok e
  exact dd.typeIs
def AZ4 (td ty : TE) : TE := fun σ H Q=>td σ H fun x H1=>ty σ H1 fun y H2=>∃ a v,x = .ref a ∧ DGet H2 a y (some v) ∧ Q v H2
def BD6 (ty td : TE) : TE := fun σ H Q=>ty σ H fun y H1=>td σ H1 fun x H2=>∃ a o,x = .ref a ∧ DGet H2 a y o ∧ Q (.bl o.isSome) H2
def BA1 (td ty tv : TE) : TS := fun D σ H=>tv σ H fun v H1=>td σ H1 fun x H2=>ty σ H2 fun y H3=>∃ a H4,x = .ref a ∧ DPut H3 a y v H4 ∧ D.nx σ H4
section
variable {X : Cx} {o i e value : Expr} {pos pos' tpos : Pos} {td ty tv : TE}
theorem AM4 (hu : X.A.units + 1 < cLine) (ho : PE X o td) (hi : PE X i ty) (hs : AY4 i) : PE X (.Subscript o i pos) (AZ4 td ty) := by
 intro pins s σ H Q I h
 refine AL1 PySem.F.slot_dict_getitem.lookup hs (J1 (ho pins s σ H _ I h) fun u s1 ⟨x,H1,I1,rx,q1⟩=>J1 (hi pins s1 σ H1 _ I1 q1) fun iv s2 ⟨y,H2,I2,ry,a,v,ex,g,q2⟩=>?_)
 subst ex
 obtain rfl : u = Value.ref a := rx
 exact ⟨rY I2 g,zQ hu I2 g ry fun w' s3 I3 rw'=>⟨v,H2,I3,rw',q2⟩⟩
theorem xY (hu : X.A.units + 1 < cLine) (hi : PE X i ty) (ho : PE X o td) : PC X .In i o (BD6 ty td) := by
 intro pins s σ H Q I h
 refine J1 (hi pins s σ H _ I h) fun iv s1 ⟨y,H1,I1,ry,q1⟩=>J1 (ho pins s1 σ H1 _ I1 q1) fun u s2 ⟨x,H2,I2,rx,a,ov,ex,g,q2⟩=>?_
 subst ex
 obtain rfl : u = Value.ref a := rx
 exact BG1 hu I2 g ry fun s3 I3=>⟨.bl ov.isSome,H2,I3,rfl,q2⟩
theorem iH (hu : X.A.units + 1 < cLine) (ho : PE X o td) (hi : PE X i ty) (hv : PE X value tv) (hs : swapsWith value (some (.Subscript o i pos')) pos.line X.env = pure false) :
  PS X (.Assign [.Subscript o i pos'] value pos) (BA1 td ty tv) := by
 intro pins s σ H D I h
 refine wpAny_Assign_Subscript (J1 (hv pins s σ H _ I h) fun r s1 ⟨v,H1,I1,rv,q1⟩=>J1 (ho pins s1 σ H1 _ I1 q1) fun u s2 ⟨x,H2,I2,rx,q2⟩=>J1 (hi pins s2 σ H2 _ I2 q2) fun iv s3 ⟨y,H3,I3,ry,a,H4,ex,g,q3⟩=>?_) hs
 subst ex
 obtain rfl : u = Value.ref a := rx
 exact zP hu I3 g ry rv fun s4 I4=>⟨σ,H4,I4,q3⟩
end
theorem qV {P : Program} {w : World} {H : Hp} (h : Heap) (hb : sysModules < h.objs.size) : ObjOk P w H (h.push { cls := .type "dict",data := .dict #[] }) h.objs.size (.dK []) :=
 ⟨Nat.zero_le _,beq_eq_false_iff_ne.mpr (Ne.symm (Nat.ne_of_lt hb)),[],.nil,Heap.DictOf.new h⟩
def AR7 : TE := fun _ H Q=>∀ p,H p = none → Q (.ref p) (upd H p (.dK []))
section
variable {X : Cx} {pos : Pos}
theorem iY : PE X (.Dict [] [] pos) AR7 := fun pins s σ H Q I h =>
 wpAny_Dict_empty ⟨.ref s.heap.objs.size,_,I.laid (a := s.heap.objs.size) (o := .dK []) (t' := s.toks) (fun _ _ q=>Heap.get?_push_of_some _ q) (Nat.le_refl _) (qV s.heap I.big),rfl,h _ (I.hok.fresh (Nat.le_refl _))⟩
end
def oU : List (TE × TE) → St → Hp → (List (V × V) → Hp → Prop) → Prop
 | [],_,H,Q=>Q [] H
 | (tk,tv) :: r,σ,H,Q=>tk σ H fun x H1=>tv σ H1 fun y H2=>oU r σ H2 fun ps H3=>Q ((x,y) :: ps) H3
abbrev VV : List (V × V) → List (Value × Value) → Prop := Paired fun p q=>RelV p.1 q.1 ∧ RelV p.2 q.2
def PPs (X : Cx) (pos : Pos) (keys : List (Option Expr)) (values : List Expr) (trs : List (TE × TE)) : Prop :=
 ∀ (pins : List (Addr × Obj)) (s : Shared) (σ : St) (H : Hp) (Q : List (V × V) → Hp → Prop),Inv X pins σ H s → oU trs σ H Q →
  wpAny (model X.prog X.w) X.A (evalPairs (pairTrees keys values X.env pos)) (fun vs s'=>∃ ps H',Inv X pins σ H' s' ∧ VV ps vs ∧ Q ps H') X.xe s
theorem AM1 {X : Cx} {pos : Pos} : PPs X pos [] [] [] := fun pins s σ H Q I h=>pairTrees_nil_walk ⟨[],H,I,.nil,h⟩
theorem pQ {X : Cx} {pos : Pos} {k v : Expr} {ks : List (Option Expr)} {vs : List Expr} {tk tv : TE} {trs : List (TE × TE)} (hk : PE X k tk) (hv : PE X v tv) (hr : PPs X pos ks vs trs) :
  PPs X pos (some k :: ks) (v :: vs) ((tk,tv) :: trs) := fun pins s σ H Q I h =>
 pairTrees_cons_walk (J1 (hk pins s σ H _ I h) fun u s1 ⟨x,H1,I1,rx,q1⟩=>J1 (hv pins s1 σ H1 _ I1 q1) fun w2 s2 ⟨y,H2,I2,ry,q2⟩ =>
  J1 (hr pins s2 σ H2 _ I2 q2) fun ws s3 ⟨ps,H3,I3,rel,q3⟩=>⟨(x,y) :: ps,H3,I3,.cons ⟨rx,ry⟩ rel,q3⟩)
def S1 (kvs more : List (G3 × V)) : List (G3 × V) := more.foldl (fun acc kv=>Q9 acc kv.1 kv.2) kvs
theorem KV.merge : ∀ {more : List (G3 × V)} {rs : List (G3 × Value)} {kvs : List (G3 × V)} {vs : List (G3 × Value)},KV more rs → KV kvs vs → KV (S1 kvs more) (merged vs rs) := by
 intro more rs kvs vs r
 unfold KV at r
 induction r generalizing kvs vs with
 | nil=>intro q; exact q
 | @cons p q ps qs h t ih =>
  intro r0
  have e : KV (Q9 kvs p.1 p.2) (stored vs q.1 q.2) := by
   have := r0.put p.1 h.2
   rw [← h.1]; exact this
  exact ih e
theorem aH : ∀ (more kvs : List (G3 × V)),(S1 kvs more).length ≤ kvs.length + more.length
 | [],kvs=>by show kvs.length ≤ kvs.length + 0; omega
 | p :: r,kvs=>by
  have h1 := aH r (Q9 kvs p.1 p.2)
  have h2 := cQ kvs p.1 p.2
  show (S1 (Q9 kvs p.1 p.2) r).length ≤ _
  rw [List.length_cons]; omega
theorem kG {P : Program} {w : World} : ∀ {kvs : List (G3 × V)} {ws : List (Value × Value)},VV (kvs.map fun kv=>(kV kv.1,kv.2)) ws → ∃ rs,Carries (K3 P w) ws rs ∧ KV kvs rs
 | [],_,r=>by rw [List.map_nil] at r; cases r; exact ⟨[],True.intro,.nil⟩
 | p :: kvs,_,r=>by
  rw [List.map_cons] at r
  cases r with
  | @cons a b as bs h t =>
   obtain ⟨rs,c,q⟩ := kG (P := P) (w := w) t
   obtain ⟨b1,b2⟩ := b
   exact ⟨(p.1,b2) :: rs,⟨eZ h.1,rfl,c⟩,.cons ⟨rfl,h.2⟩ q⟩
def AZ3 (trs : List (TE × TE)) : TE := fun σ H Q=>∀ p,H p = none → oU trs σ (upd H p (.dK [])) fun ps H2=>H2 p = some (.dK []) ∧ ∃ kvs : List (G3 × V),ps = kvs.map (fun kv=>(kV kv.1,kv.2)) ∧ kvs.length ≤ 15 ∧ Q (.ref p) (upd H2 p (.dK (S1 [] kvs)))
theorem AM3 {X : Cx} {pos : Pos} {keys : List (Option Expr)} {values : List Expr} {trs : List (TE × TE)} (h : PPs X pos keys values trs) (hall : keys.all (·.isSome) = true) (hl : keys.length = values.length) (h0 : keys ≠ [])
  (h15 : keys.length ≤ 15) : PE X (.Dict keys values pos) (AZ3 trs) := by
 intro pins s σ H Q I q
 have hn := I.hok.fresh (Nat.le_refl s.heap.objs.size)
 have I1 := I.laid (a := s.heap.objs.size) (o := .dK []) (h' := s.heap.push { cls := .type "dict",data := .dict #[] }) (t' := s.toks) (fun _ _ q=>Heap.get?_push_of_some _ q) (Nat.le_refl _) (qV s.heap I.big)
 refine wpAny_Dict_walk (knd := K3 X.prog X.w) hall hl h0 h15 (J1 (h pins _ σ _ _ I1 (q _ hn)) fun ws s2 ⟨ps,H2,I2,rel,e,kvs,ep,lk,q2⟩=>?_)
 subst ep
 obtain ⟨rs,c,rk⟩ := kG (P := X.prog) (w := X.w) rel
 obtain ⟨z,hd,vs0,r0,dd⟩ := oG I2.hok e
 cases r0
 refine ⟨rs,c,dd,fun h' dd' hs=>⟨.ref s.heap.objs.size,_,?_,rfl,q2⟩⟩
 have hz : (S1 [] kvs).length ≤ sizeLine := by
  have h1 := aH kvs []
  rw [List.length_nil] at h1
  rw [sizeLine_eq]; omega
 have he : ∃ q,h'.get? s.heap.objs.size = some q := let ⟨q,_,_,hq,_⟩ := dd'; ⟨q,hq⟩
 exact iO I2 (by rw [e]; exact True.intro) hs he (qU hz hd (rk.merge .nil) dd')
structure M1 (X : Cx) (o : Expr) (m : Str) (apos : Pos) (e : Expr) (cpos : Pos) : Prop where
 base : attributeBase o m X.env (eval o X.env) = eval o X.env
 few : ((backTo cpos (starEach [e] X.env)).all (fun x=>!x.1) && (backToKw cpos (keywordEach [] X.env)).all (fun x=>x.1.isSome)
  && decide (([e] : List Expr).length + ([] : List Keyword).length + (if ([] : List Keyword).isEmpty then 0 else 1) < 30)) = true
 line : (apos.endLine == cpos.line) = true
 trees : backTo cpos (starEach [e] X.env) = [(false,eval e X.env)]
def IsD (H : Hp) (a : Addr) : Prop := (∃ kvs,Rd H a (.dK kvs)) ∨ ∃ kvs,Rd H a (.dT kvs)
theorem yX {X : Cx} {pins : List (Addr × Obj)} {σ : St} {H : Hp} {s : Shared} {a : Addr} (I : Inv X pins σ H s) (d : IsD H a) :
  s.TypeIs (.ref a) "dict" ∧ (∀ b,Value.ref a = .ref b → ∃ ob,s.heap.get? b = some ob ∧ ob.dict = none) ∧ (a == sysModules) = false := by
 rcases d with ⟨kvs,e⟩ | ⟨kvs,e⟩
 ·obtain ⟨_,hd,vs,_,dd⟩ := iN I.hok e
  refine ⟨dd.typeIs,fun b q=>?_,hd⟩
  cases q
  obtain ⟨ob,_,_,h1,h2,_⟩ := dd
  exact ⟨ob,h1,h2.2.1⟩
 ·obtain ⟨_,hd,xs,_,dd⟩ := kE I.hok e
  refine ⟨dd.typeIs,fun b q=>?_,hd⟩
  cases q
  obtain ⟨ob,_,_,h1,h2,_⟩ := dd
  exact ⟨ob,h1,h2.2.1⟩
section
variable {X : Cx} {pins : List (Addr × Obj)} {σ : St} {H : Hp} {s : Shared} {a : Addr} {y d : V} {u r : Value} {o : Option V} {A : Around} {E : Value → Shared → Prop}
end
def AR6 (td ty : TE) : TE := fun σ H Q=>td σ H fun x H1=>∃ a,x = .ref a ∧ IsD H1 a ∧ ty σ H1 fun y H2=>∃ kvs k v,H2 a = some (.dK kvs) ∧ y = kV k ∧ P7 kvs k = some v ∧ Q v (upd H2 a (.dK (U2 kvs k)))
section
variable {X : Cx} {o e f : Expr} {apos cpos : Pos} {td ty tx : TE}
theorem pR (ho : PE X o td) (he : PE X e ty) (m : M1 X o "pop" apos e cpos) : PE X (.Call (.Attribute o "pop" apos) [e] [] cpos) (AR6 td ty) := by
 intro pins s σ H Q I h
 refine wpAny_Call_method m.base m.few m.line PySem.F.plainAttrs_dict PySem.F.slot_dict_pop PySem.F.type_dict_pop (J1 (ho pins s σ H _ I h) fun u s1 ⟨x,H1,I1,rx,a,ex,d,q1⟩=>?_)
 subst ex
 obtain rfl : u = Value.ref a := rx
 obtain ⟨t1,t2,_⟩ := yX I1 d
 refine ⟨t1,t2,?_⟩
 rw [m.trees]
 refine Calls.callWith_builtin rfl (Calls.evalArgs_plain (Calls.spliced_cons (J1 (he pins s1 σ H1 _ I1 q1) fun iv s2 ⟨y,H2,I2,ry,kvs,k,v,ea,ey,l,q2⟩=>Calls.spliced_nil ?_)))
 subst ey
 exact BB9 I2 ea ry l (.inl rfl) fun w' s3 I3 rw'=>⟨v,_,I3,rw',q2⟩
end
section
variable {X : Cx} {pins : List (Addr × Obj)} {σ : St} {H : Hp} {s : Shared} {a : Addr} {kvs : List (G3 × V)} {A : Around} {E : Value → Shared → Prop}
end
section
variable {X : Cx} {pins : List (Addr × Obj)} {σ : St} {H : Hp} {s : Shared} {a : Addr} {y : V} {u : Value} {A : Around} {E : Value → Shared → Prop}
end
end L2
namespace L2
open PySem PySem.Spec PyProof.Rows
section
variable {κ : Type} [DecidableEq κ]
theorem AK5 {kvs : List (κ × V)} {k : κ} {v : V} (h : P7 kvs k = some v) : k ∈ kvs.map (·.1) := by
 have q : (kvs.any fun kv=>decide (kv.1 = k)) = true := by
  rw [dR,h]
  all_goals rfl
 obtain ⟨p,hp,e⟩ := List.any_eq_true.mp q
 exact List.mem_map.mpr ⟨p,hp,of_decide_eq_true e⟩
theorem zL {p : κ × V} {r : List (κ × V)} {k : κ} (e : p.1 = k) : U2 (p :: r) k = U2 r k := by
 unfold U2
 rw [List.filter_cons,if_neg (by simp [e])]
theorem zM {p : κ × V} {r : List (κ × V)} {k : κ} (e : ¬ p.1 = k) : U2 (p :: r) k = p :: U2 r k := by
 unfold U2
 rw [List.filter_cons,if_pos (by simp [e])]
end
end L2
namespace L2
open PySem PySem.Spec PyProof.Rows
section
variable {X : Cx}
theorem jR : Q1 X (binaryOp .Mult) (fun x y H Q=>∃ i n,x = .str i ∧ y = .int n ∧ i.length ≤ 1000 ∧ 0 ≤ n ∧ n ≤ 1000 ∧ Q (.str (Txt.mul i n)) H) := by
 intro pins s σ H x y v u Q I rx ry h
 obtain ⟨i,n,rfl,rfl,h1,h2,h3,q⟩ := h
 obtain ⟨t,rfl⟩ := rx
 obtain ⟨t',rfl⟩ := ry
 exact SB.mul (PyProof.Rows.mulOk_of 1000 1000 h1 (by omega) (by omega) (by decide) (by decide)) fun t2 k=>⟨.str _,H,I.tok k,⟨t2,rfl⟩,q⟩
theorem mM : Q1 X (compareOp .LtE) (fun x y H Q=>∃ i j,x = .str i ∧ y = .str j ∧ Q (.bl (!decide (j.cps.toList < i.cps.toList))) H) := by
 intro pins s σ H x y v u Q I rx ry h
 obtain ⟨i,j,rfl,rfl,q⟩ := h
 obtain ⟨t,rfl⟩ := rx
 obtain ⟨t',rfl⟩ := ry
 exact PySem.P.le_str ⟨.bl _,H,I,rfl,q⟩
def Its (x : Str) : It := ⟨fun i _=>i < x.cps.size,fun i H v H'=>H' = H ∧ ∃ c,x.cps[i]? = some c ∧ v = .str ⟨#[c]⟩,fun i _=>x.cps.size ≤ i⟩
theorem oM {P : Program} {w : World} {K : PySem.W.Frag} {tg : Expr} (it : Addr) (T : String) (x : Str) (t : Tok) (hT : T = "str_ascii_iterator" ∨ T = "str_iterator") : gR P w K tg (Its x) [it] it (fun i h=>h.IsStrIter it T x t i) where
 mem := by simp
 obj := fun i h st b hb=>by
  have e : b = it := by simpa using hb
  subst e
  obtain ⟨o,e,c,d⟩ := st
  exact ⟨o,e,fun v z=>by rw [d] at z; cases z⟩
 keep := fun i h h' st k=>by
  obtain ⟨o,e,r⟩ := st
  exact ⟨o,k it (by simp) o e,r⟩
 item := by
  intro X hP hw hK hc i pins s σ H E I hf st hg
  subst hP hw hK
  have hg : i < x.cps.size := hg
  obtain ⟨f0,f1,f2,f3,f4,f5⟩ := hf it (by simp)
  rcases hT with rfl | rfl
  ·refine wpAny_pyNext_ascii_item st (c := x.cps[i]) (by simp [hg]) fun h' st' sb=>?_
   have I1 : Inv X pins σ H { s with heap := h',toks := s.toks + 1 } := I.turned (t' := s.toks + 1) (fun b o hb e=>(sb.2 b hb).trans e) f0 f1 f3 f4 f5
   obtain ⟨o,e,c,d⟩ := id st'
   exact ⟨_,rfl,iL (s := { s with heap := h',toks := s.toks + 1 }) e c d (by decide) ⟨.str ⟨#[x.cps[i]]⟩,H,I1,⟨_,rfl⟩,⟨rfl,_,by simp [hg],rfl⟩,st',fun b hb=>(hf b hb).1⟩⟩
  ·refine wpAny_pyNext_wide_item st (c := x.cps[i]) (by simp [hg]) fun h' st' sb=>?_
   have I1 : Inv X pins σ H { s with heap := h',toks := s.toks + 1 } := I.turned (t' := s.toks + 1) (fun b o hb e=>(sb.2 b hb).trans e) f0 f1 f3 f4 f5
   obtain ⟨o,e,c,d⟩ := id st'
   exact ⟨_,rfl,iL (s := { s with heap := h',toks := s.toks + 1 }) e c d (by decide) ⟨.str ⟨#[x.cps[i]]⟩,H,I1,⟨_,rfl⟩,⟨rfl,_,by simp [hg],rfl⟩,st',fun b hb=>(hf b hb).1⟩⟩
 done := by
  intro X hP hw hK hc i pins s σ H E I hf st hg
  subst hP hw hK
  have hg : x.cps.size ≤ i := hg
  obtain ⟨f0,f1,f2,f3,f4,f5⟩ := hf it (by simp)
  rcases hT with rfl | rfl
  ·exact wpAny_pyNext_ascii_end (I.ok.hd hc) st (by simp [hg]) fun h' eb=>⟨rfl,I.turned (t' := s.toks) (fun b o hb e=>eb b o hb e) f0 f1 f3 f4 f5⟩
  ·exact wpAny_pyNext_wide_end (I.ok.hd hc) st (by simp [hg]) fun h' eb=>⟨rfl,I.turned (t' := s.toks) (fun b o hb e=>eb b o hb e) f0 f1 f3 f4 f5⟩
 self := fun A i s Q E st h=>by
  rcases hT with rfl | rfl
  ·exact wpAny_pyIter_striter_ascii st h
  ·exact wpAny_pyIter_striter_wide st h
def BF8 (tl : TE) : TI := fun σ H R=>tl σ H fun v H1=>∃ x,v = .str x ∧ R (Its x) H1
theorem xT {tg l : Expr} {tl : TE} (hl : PE X l tl) : PI X tg l (BF8 tl) := by
 intro pins s σ H R I h
 refine J1 (hl pins s σ H _ I h) fun v s1 ⟨y,H1,I1,r1,q1⟩=>?_
 obtain ⟨x,e,q⟩ := q1
 subst e
 obtain ⟨t,rfl⟩ := r1
 have fp : ∀ (o : Obj) (b : Addr),b ∈ [s1.heap.objs.size] → S8 X pins H1 b := fun o b hb=>by
  have e : b = s1.heap.objs.size := by simpa using hb
  subst e
  exact I1.fpOk (Nat.le_refl _) (I1.hok.fresh (Nat.le_refl _))
 cases ha : x.cps.all (· < 128) with
 | false=>exact wpAny_pyIter_wide ha ⟨s1.heap.objs.size,[s1.heap.objs.size],_,_,H1,rfl,I1.kept (t' := s1.toks) fun b o e=>Heap.get?_push_of_some _ e,oM _ "str_iterator" x t (.inr rfl),⟨_,Heap.get?_push_size _ rfl,rfl,rfl⟩,fp default,q⟩
 | true=>exact wpAny_pyIter_ascii ha ⟨s1.heap.objs.size,[s1.heap.objs.size],_,_,H1,rfl,I1.kept (t' := s1.toks) fun b o e=>Heap.get?_push_of_some _ e,oM _ "str_ascii_iterator" x t (.inl rfl),⟨_,Heap.get?_push_size _ rfl,rfl,rfl⟩,fp default,q⟩
theorem qZ {fr : List (Option Nat)} {g : TG} {ti : TT} {te : TE} {σ : St} {H1 : Hp} {l : Addr} {Q : VK} {x : Str} (Pv : Nat → List V → Hp → Prop) (h0 : Pv 0 [] (upd H1 l (.lst [])))
  (hs : ∀ i c ys H,x.cps[i]? = some c → Pv i ys H → V0 fr g ti te σ l (.str ⟨#[c]⟩) ys H (Pv (i + 1))) (hd : ∀ ys H,Pv x.cps.size ys H → Q (.ref l) H) : iP (Its x) fr g ti te σ H1 l Q := by
 refine ⟨fun i m ys H=>m = x.cps.size - i ∧ i ≤ x.cps.size ∧ Pv i ys H,⟨x.cps.size,by simp,Nat.zero_le _,h0⟩,?_⟩
 rintro i m ys H ⟨rfl,hi,p⟩
 by_cases hlt : i < x.cps.size
 ·refine .inr ⟨hlt,Pv (i + 1),fun zs H' p'=>⟨x.cps.size - (i + 1),by omega,rfl,hlt,p'⟩,fun v H' y=>?_⟩
  obtain ⟨e,c,hc,e2⟩ := y
  subst e e2
  exact hs i c ys _ hc p
 ·have e : i = x.cps.size := by omega
  subst e
  exact .inl ⟨Nat.le_refl _,hd ys H p⟩
def T5 (a b : Str) : Bool := decide (a.cps.toList < b.cps.toList)
theorem Y8 (a : Str) : T5 a a = false := decide_eq_false (List.lt_irrefl _)
theorem qF {a b : Str} (h : T5 a b = true) : T5 b a = false := decide_eq_false fun z=>List.lt_asymm (of_decide_eq_true h) z
theorem AV6 {a b c : Str} (h1 : T5 b a = false) (h2 : T5 c b = false) : T5 c a = false := by
 have z1 : a.cps.toList ≤ b.cps.toList := of_decide_eq_false h1
 have z2 : b.cps.toList ≤ c.cps.toList := of_decide_eq_false h2
 exact decide_eq_false (fun z=>(List.le_trans z1 z2) z)
end
end L2
namespace L2
open PySem PySem.Spec PyProof.Rows
theorem lM : typeLookup (.type "list") "keys" = pure none := by rw [typeLookup_type,builtinLookup_eq_fast]; kernel_rfl
theorem jW : typeLookup (.type "tuple") "keys" = pure none := by rw [typeLookup_type,builtinLookup_eq_fast]; kernel_rfl
theorem W3 : entryFor table "dict.update.loop" = some Builtin.«dict.update.loop» := entryFor_of_tree (by kernel_rfl)
theorem P4 : plainId "dict.update.loop" = true := by decide +kernel
section
variable {prog : Program} {w : World} {A : Around} {E : Value → Shared → Prop} {s : Shared}
theorem rQ {a : Addr} {o : Obj} {xs : Array Value} {k : Nat} {Q : Option Value → Shared → Prop} (hx : s.heap.get? a = some o) (hc : o.cls = .type "list") (hdat : o.data = .seq xs k) (hd : o.dict = none) (hA : A.handled = none)
  (h : ∀ h' tk,(∀ b ob,s.heap.get? b = some ob → h'.get? b = some ob) → Q none { s with heap := h',toks := tk }) : wpAny (model prog w) A (getAttr? (.ref a) "keys") Q E s := by
 obtain ⟨c,dct,dat,sl⟩ := o
 simp only at hc hdat hd
 subst hc hdat hd
 obtain ⟨hp,g,d,tk,os⟩ := s
 have hT : ∀ tk',(⟨hp,g,d,tk',os⟩ : Shared).TypeIs (.ref a) "list" := fun _=>⟨_,hx,rfl⟩
 have f1 := sub_AttributeError
 have f3 := PySem.F.slot_list_getattribute.lookup
 have f4 := PySem.F.slot_list_getattribute.bind (.ref a)
 have f5 := am_list_getattr_none
 unfold getAttr? getAttrBy? getAttrBy
 repeat (any_goals (first | assumption | exact hT _ | ((with_reducible show wpAny _ _ (call (Value.builtin "list.__getattribute__") _ _) _ _ _); refine call_meets PySem.F.slot_list_getattribute (hT _) am_entry_list_getattribute (PySem.F.args_list_getattribute_2 _ _) (meets_getattribute_miss_list a xs k sl "keys" _ lM (by decide +kernel) (by size_fits)) ⟨hx,hA,fun h' tk' e hx'=>?_⟩) | wp_step))
 obtain ⟨t',u',he⟩ := hx'.there
 show wpAny _ _ (getattributeRaised _ _ _ _ _ _ _) _ _ _
 unfold getattributeRaised
 repeat (any_goals (first | assumption | wp_step))
 exact h _ _ hx'.keeps
theorem pY {a : Addr} {o : Obj} {xs : Array Value} {k : Nat} {Q : Option Value → Shared → Prop} (hx : s.heap.get? a = some o) (hc : o.cls = .type "tuple") (hdat : o.data = .seq xs k) (hd : o.dict = none) (hA : A.handled = none)
  (h : ∀ h' tk,(∀ b ob,s.heap.get? b = some ob → h'.get? b = some ob) → Q none { s with heap := h',toks := tk }) : wpAny (model prog w) A (getAttr? (.ref a) "keys") Q E s := by
 obtain ⟨c,dct,dat,sl⟩ := o
 simp only at hc hdat hd
 subst hc hdat hd
 obtain ⟨hp,g,d,tk,os⟩ := s
 have hT : ∀ tk',(⟨hp,g,d,tk',os⟩ : Shared).TypeIs (.ref a) "tuple" := fun _=>⟨_,hx,rfl⟩
 have f1 := sub_AttributeError
 have f3 := PySem.F.slot_tuple_getattribute.lookup
 have f4 := PySem.F.slot_tuple_getattribute.bind (.ref a)
 have f5 := am_tuple_getattr_none
 unfold getAttr? getAttrBy? getAttrBy
 repeat (any_goals (first | assumption | exact hT _ | ((with_reducible show wpAny _ _ (call (Value.builtin "tuple.__getattribute__") _ _) _ _ _); refine call_meets PySem.F.slot_tuple_getattribute (hT _) am_entry_tuple_getattribute (PySem.F.args_tuple_getattribute_2 _ _) (meets_getattribute_miss_tuple a xs k sl "keys" _ jW (by decide +kernel) (by size_fits)) ⟨hx,hA,fun h' tk' e hx'=>?_⟩) | wp_step))
 obtain ⟨t',u',he⟩ := hx'.there
 show wpAny _ _ (getattributeRaised _ _ _ _ _ _ _) _ _ _
 unfold getattributeRaised
 repeat (any_goals (first | assumption | wp_step))
 exact h _ _ hx'.keeps
end
section
variable {prog : Program} {w : World} {A : Around} {R : Result → Shared → Prop} {I : Addr} {fp wr : List Addr} {G : Array GenState → Array GenState → Prop} {n : Nat} {P : Nat → Value → Prop} {St : Nat → Shared → Prop}
theorem rT {K : Type} [DecidableEq K] (kvs more : List (K × Value)) (p : K × Value) : merged kvs (more ++ [p]) = stored (merged kvs more) p.1 p.2 := by
 unfold merged
 rw [List.foldl_append]
 rfl
theorem xD {K : Type} [DecidableEq K] (kvs : List (K × Value)) (k : K) (v : Value) : (stored kvs k v).length ≤ kvs.length + 1 := by
 unfold stored
 split
 ·rw [List.length_map]; exact Nat.le_succ _
 ·rw [List.length_append]; exact Nat.le_refl _
theorem mO {K : Type} [DecidableEq K] : ∀ (more kvs : List (K × Value)),(merged kvs more).length ≤ kvs.length + more.length
 | [],kvs=>Nat.le_refl _
 | p :: r,kvs=>by
  have h1 := mO r (stored kvs p.1 p.2)
  have h2 := xD kvs p.1 p.2
  show (merged (stored kvs p.1 p.2) r).length ≤ _
  rw [List.length_cons]
  omega
theorem yQ (W : WalksS prog w A.in1 I fp wr G n P St) (d : Addr) (hdf : d ∉ fp) (h0 : Heap) (more : List (G3 × Value)) (hm : more.length = n) (hz : n ≤ 1000) (res : Value)
  (hpair : ∀ i v,P i v → ∃ c o nn kv vv key,v = .ref c ∧ c ≠ d ∧ c ∉ wr ∧ h0.get? c = some o ∧ o.cls = .type "tuple" ∧ o.data = .seq #[kv,vv] nn ∧ more[i]? = some (key,vv) ∧ (K3 prog w).is key kv = true) :
  ∀ (k i : Nat) (j : Int) (tj : Tok) (s : Shared),n - i = k → i ≤ n → St i s → (∀ b o,b ≠ d → b ∉ wr → h0.get? b = some o → s.heap.get? b = some o) → s.heap.DictOf (K3 prog w) d (merged [] (more.take i)) →
   (∀ s',Moved (d :: wr) G s s' → s'.heap.DictOf (K3 prog w) d (merged [] more) → R (.ok (.ret res)) s') →
   codeAny (model prog w) A (.builtin "dict.update.loop" ⟨[.ref d,.ref I,.int j tj,res],[]⟩) R s := by
 have hdw : d ∉ wr := fun h=>hdf (W.sub _ h)
 have hsub : ∀ b ∈ wr,b ∈ d :: wr := fun b hb=>List.mem_cons_of_mem _ hb
 intro k
 induction k with
 | zero =>
  intro i j tj s hk hi hst hkp hD hR
  have hin : i = n := by omega
  subst hin
  refine codeAny_builtin W3 ?_
  rw [Around.under_plainId P4 _]
  show wpAny _ A.in1 (pyNext (.ref I) >>= _) _ _ s
  refine wpAny_bind (W.done s _ _ hst fun s' hmv=>?_)
  show wpAny _ A.in1 (Builtin.Dict.addKeywords d [] >>= fun _=>ret res) _ _ s'
  refine wpAny_bind (wpAny_pure (wpAny_pure (hR s' (hmv.mono hsub) ?_)))
  rw [← hm,List.take_length] at hD
  obtain ⟨o,es,ep,ho,r⟩ := hD
  exact ⟨o,es,ep,hmv.heap d o hdw ho,r⟩
 | succ k ih =>
  intro i j tj s hk hi hst hkp hD hR
  have hlt : i < n := by omega
  refine codeAny_builtin W3 ?_
  rw [Around.under_plainId P4 _]
  show wpAny _ A.in1 (pyNext (.ref I) >>= _) _ _ s
  refine wpAny_bind (W.item i s _ _ hlt hst fun v s' hP hst' hmv=>?_)
  obtain ⟨c,o,nn,kv,vv,key,rfl,hcd,hcw,hco,hcc,hcdat,hmi,hkey⟩ := hpair i v hP
  have hc' : s'.heap.get? c = some o := hmv.heap c o hcw (hkp c o hcd hcw hco)
  have hD' : s'.heap.DictOf (K3 prog w) d (merged [] (more.take i)) := by
   obtain ⟨o,es,ep,ho,r⟩ := hD
   exact ⟨o,es,ep,hmv.heap d o hdw ho,r⟩
  dsimp only
  refine wpAny_bind (wpAny_holding ?_)
  refine wpAny_bind ?_
  refine wpAny_tryCatch ?_
  unfold Builtin.Dict.pairItems
  refine wpAny_bind (wpAny_typeOf (T := "tuple") ⟨o,hc',hcc⟩ ?_)
  rw [if_pos (by decide)]
  refine wpAny_bind (wpAny_seqItems hc' hcdat (wpAny_pure ?_))
  show wpAny _ _ (holding [kv,vv] (dictSet d kv vv)) _ _ s'
  have hle : (merged [] (more.take i)).length ≤ i := by
   have := mO (more.take i) []
   rw [List.length_take] at this
   simp at this
   omega
  refine wpAny_holding (wpAny_dictSet_pairs hkey hD' (fun h' hD2 hsb=>?_) (by rw [sizeLine_eq]; omega))
  have hi2 : more.take (i + 1) = more.take i ++ [(key,vv)] := by rw [List.take_add_one,hmi]; rfl
  refine wpAny_pure ⟨plainId_quiet P4 _,ih (i + 1) _ _ _ (by omega) hlt (W.frame _ s' _ _ hst' (Nat.le_succ _) fun b hb o e=>?_) (fun b o hbd hbw e=>?_) (by rw [hi2,rT]; exact hD2) fun s'' hm'' hD''=>?_⟩
  ·rw [hsb.2 b (fun h : b = d=>hdf (by rw [← h]; exact hb))]; exact e
  ·show h'.get? b = some o
   rw [hsb.2 b hbd]
   exact hmv.heap b o hbw (hkp b o hbd hbw e)
  ·refine hR s'' (Moved.trans W.gtrans ((hmv.mono hsub).then_heap (Nat.le_succ _) fun b o hb e=>?_) hm'') hD''
   rw [hsb.2 b (fun h : b = d=>hb (by rw [h]; exact List.mem_cons_self))]; exact e
end
section
variable {prog : Program} {w : World} {A : Around} {E : Value → Shared → Prop} {s : Shared}
theorem fK {l : Addr} {T : String} {n : Nat} {P : Nat → Value → Prop} {Q : Value → Shared → Prop} {ol : Obj} {more : List (G3 × Value)}
  (hh : A.handled = none) (hne : (Value.type T != Value.type "dict") = true) (hol : s.heap.get? l = some ol) (hcl : ol.cls = .type T)
  (nk : ∀ (A' : Around) (s' : Shared) (Q' : Option Value → Shared → Prop) (E' : Value → Shared → Prop),A'.handled = none → s'.heap.get? l = some ol → (∀ h' tk,(∀ b ob,s'.heap.get? b = some ob → h'.get? b = some ob) → Q' none { s' with heap := h',toks := tk }) → wpAny (model prog w) A' (getAttr? (.ref l) "keys") Q' E' s')
  (it : ∀ s' : Shared,s'.heap.get? l = some ol → ∃ (oI : Obj) (St : Nat → Heap → Prop),
   (∀ (A' : Around) (E' : Value → Shared → Prop) (Q' : Value → Shared → Prop),Q' (.ref s'.heap.objs.size) { s' with heap := s'.heap.push oI } → wpAny (model prog w) A' (pyIter (.ref l)) Q' E' s') ∧
   (∀ A' : Around,A'.handled = none → Walks prog w A' s'.heap.objs.size [s'.heap.objs.size,l] [s'.heap.objs.size] n P St) ∧ St 0 (s'.heap.push oI))
  (hm : more.length = n) (hz : n ≤ 1000)
  (hpair : ∀ i v,P i v → ∃ c o nn kv vv key,v = .ref c ∧ s.heap.get? c = some o ∧ o.cls = .type "tuple" ∧ o.data = .seq #[kv,vv] nn ∧ more[i]? = some (key,vv) ∧ (K3 prog w).is key kv = true)
  (h : ∀ (h' : Heap) (tk : Nat),h'.DictOf (K3 prog w) s.heap.objs.size (merged [] more) → (∀ b o,s.heap.get? b = some o → h'.get? b = some o) → Q (.ref s.heap.objs.size) { s with heap := h',toks := tk }) :
  wpAny (model prog w) A (call (.type "dict") [.ref l]) Q E s := by
 refine callType_codes (Q₁ := fun obj s₁=>obj = .ref s.heap.objs.size ∧ s₁ = { s with heap := s.heap.push { cls := .type "dict",data := .dict #[] } }) PySem.F.kt_called_dict (PySem.F.kt_typeCall_dict_1 _) PySem.F.entry_dict_init (kt_code_dict_new _ ⟨rfl,rfl⟩) ?_
 rintro obj s₁ ⟨rfl,rfl⟩
 have hnew : (s.heap.push { cls := .type "dict",data := .dict #[] }).DictOf (K3 prog w) s.heap.objs.size [] := Heap.DictOf.new s.heap
 have hlt : l < s.heap.objs.size := Heap.lt_size hol
 refine ⟨hnew.typeIs,PySem.F.args_dict_init_2 _ _,?_⟩
 unfold Builtin.«dict.__init__»
 refine wpAny_bind ?_
 unfold Builtin.Dict.selfAndRest
 refine wpAny_bind (wpAny_notOrdered_dict hnew.typeIs ?_)
 show wpAny _ _ (pure (s.heap.objs.size,[Value.ref l])) _ _ _
 refine wpAny_pure ?_
 show wpAny _ _ (Builtin.Dict.updateFrom "dict.__init__" s.heap.objs.size (.ref l) [] .none) _ _ _
 unfold Builtin.Dict.updateFrom
 have hol1 : (s.heap.push { cls := .type "dict",data := .dict #[] }).get? l = some ol := Heap.get?_push_of_some _ hol
 refine wpAny_bind (wpAny_typeOf (T := T) ⟨ol,hol1,hcl⟩ ?_)
 rw [if_pos hne]
 refine wpAny_bind (nk _ { s with heap := s.heap.push { cls := .type "dict",data := .dict #[] } } _ _ hh hol1 fun h1 tk1 k1=>?_)
 rw [if_pos (show (none : Option Value).isNone = true from rfl)]
 refine wpAny_bind (wpAny_rule ?_)
 have hol2 := k1 _ _ hol1
 obtain ⟨oI,St,hit,W,st⟩ := it { s with heap := h1,toks := tk1 } hol2
 refine wpAny_bind (hit _ _ _ ?_)
 have hD1 : h1.DictOf (K3 prog w) s.heap.objs.size [] := by
  obtain ⟨o,es,ep,ho,r⟩ := hnew
  exact ⟨o,es,ep,k1 _ _ ho,r⟩
 have hds : s.heap.objs.size < h1.objs.size := by obtain ⟨o,es,ep,ho,r⟩ := hD1; exact Heap.lt_size ho
 have hdf : s.heap.objs.size ∉ [h1.objs.size,l] := by
  simp only [List.mem_cons,List.not_mem_nil,or_false,not_or]
  exact ⟨Nat.ne_of_lt hds,Nat.ne_of_gt hlt⟩
 refine wpAny_pure ⟨plainId_quiet P4 _,?_⟩
 refine yQ (W _ (by simp [hh])).toS s.heap.objs.size hdf s.heap more hm hz .none (fun i v hP=>?_) (n - 0) 0 _ _ _ (by omega) (Nat.zero_le _) st (fun b o _ _ e=>Heap.get?_push_of_some _ (k1 _ _ (Heap.get?_push_of_some _ e))) (hD1.push _) fun s' hmv hD'=>?_
 ·obtain ⟨c,o,nn,kv,vv,key,e1,e2,e3⟩ := hpair i v hP
  have := Heap.lt_size e2
  refine ⟨c,o,nn,kv,vv,key,e1,Nat.ne_of_lt this,?_,e2,e3⟩
  simp only [List.mem_cons,List.not_mem_nil,or_false]
  exact Nat.ne_of_lt (Nat.lt_trans this hds)
 ·obtain ⟨h',g',d',tk',os'⟩ := s'
  have eg : g' = s.gens := hmv.gens
  have ed : d' = s.drawn := hmv.drawn
  have eo : os' = s.os := hmv.os
  subst eg; subst ed; subst eo
  refine ⟨rfl,h h' tk' hD' fun b o e=>?_⟩
  have hb := Heap.lt_size e
  refine hmv.heap b o ?_ (Heap.get?_push_of_some _ (k1 _ _ (Heap.get?_push_of_some _ e)))
  simp only [List.mem_cons,List.not_mem_nil,or_false,not_or]
  refine ⟨Nat.ne_of_lt hb,?_⟩
  exact Nat.ne_of_lt (Nat.lt_trans hb hds)
end
def FT (H : Hp) (b : Addr) (rs : List V) : Prop := ∃ o,H b = some (.frz o (.tup rs)) ∧ o.dict = none
section
variable {X : Cx}
theorem sC : S3 X (.type "tuple") (fun xs H Q=>∃ (p : Addr) (ys : List V),xs = [.ref p] ∧ SqL X.K H p ys ∧ ∀ (l : Addr) (o : Obj),H l = none → o.dict = none → Q (.ref l) (upd H l (.frz o (.tup ys)))) := by
 intro pins s σ H xs us Q I r h
 obtain ⟨p,ys,rfl,hq,q⟩ := h
 obtain ⟨u,rfl,rx⟩ := dQ r
 cases rx
 obtain ⟨its,r',pl,hz⟩ := I.list hq
 have hlen := r'.length
 refine call_tuple_list pl.isList (fun h' kp=>?_) (by simp only [List.size_toArray] <;> omega)
 have I1 : Inv X pins σ H { s with heap := h' } := I.kept (t' := s.toks) kp
 have I2 : Inv X pins σ (upd H h'.objs.size (.frz { cls := .type "tuple",data := .seq its.toArray } (.tup ys))) { s with heap := h'.push { cls := .type "tuple",data := .seq its.toArray } } :=
  I1.laid (t' := s.toks) (fun b o e=>Heap.get?_push_of_some _ e) (Nat.le_refl _) ⟨Heap.get?_push_size _ rfl,hz,its,r',IsTup.new _ _⟩
 exact ⟨.ref h'.objs.size,_,I2,rfl,q _ _ (I1.hok.fresh (Nat.le_refl _)) rfl⟩
def PrV (K : PySem.W.Frag) (H : Hp) (v : V) (p : G3 × V) : Prop := ∃ c,v = .ref c ∧ SqT K H c [kV p.1,p.2]
theorem pP {pins : List (Addr × Obj)} {σ : St} {H : Hp} {s : Shared} (I : Inv X pins σ H s) : ∀ {rs : List V} {fs : List (G3 × V)} {its : List Value},Paired (PrV X.K H) rs fs → Vals rs its →
  ∃ more : List (G3 × Value),more.length = its.length ∧ KV fs more ∧ ∀ (i : Nat) (v : Value),its[i]? = some v → ∃ c o nn kv vv key,v = .ref c ∧ s.heap.get? c = some o ∧ o.cls = .type "tuple" ∧ o.data = .seq #[kv,vv] nn ∧ more[i]? = some (key,vv) ∧ (K3 X.prog X.w).is key kv = true
 | _,_,_,.nil,.nil=>⟨[],rfl,.nil,fun i v h=>by simp at h⟩
 | _,_,_,.cons (b := p) r t,.cons (b := u) ru tu=>by
  obtain ⟨more,h1,h2,h3⟩ := pP I t tu
  obtain ⟨c,rfl,hq⟩ := r
  cases (show u = Value.ref c from ru)
  obtain ⟨its2,rv,⟨o,ho,hc,nn,hd⟩,_⟩ := I.tuple hq
  cases rv with
  | cons ra rb =>
   cases rb with
   | cons rb rn =>
    cases rn
    rename_i ka vb
    refine ⟨(p.1,vb) :: more,by rw [List.length_cons,List.length_cons,h1],.cons ⟨rfl,rb⟩ h2,fun i v hv=>?_⟩
    cases i with
    | zero =>
     cases hv
     exact ⟨c,o,nn,ka,vb,p.1,rfl,ho,hc,hd,rfl,eZ ra⟩
    | succ i=>exact h3 i v (by simpa using hv)
theorem kH (hc : X.calm = true) : S3 X (.type "dict") (fun xs H Q=>∃ (p : Addr) (rs : List V) (fs : List (G3 × V)),xs = [.ref p] ∧ (SqL X.K H p rs ∨ FT H p rs) ∧ Paired (PrV X.K H) rs fs ∧ fs.length ≤ 60 ∧ ∀ D,H D = none → Q (.ref D) (upd H D (.dK (S1 [] fs)))) := by
 intro pins s σ H xs us Q I r h
 obtain ⟨p,rs,fs,rfl,hp,hP,h60,q⟩ := h
 obtain ⟨u,rfl,ru⟩ := dQ r
 cases ru
 have fin : ∀ (more : List (G3 × Value)),KV fs more → ∀ (h' : Heap) (tk : Nat),h'.DictOf (K3 X.prog X.w) s.heap.objs.size (merged [] more) → (∀ b o,s.heap.get? b = some o → h'.get? b = some o) → EP X pins σ Q (.ref s.heap.objs.size) { s with heap := h',toks := tk } := fun more kv h' tk hD kp=>by
  have hl := aH fs []
  have hb : (s.heap.objs.size == sysModules) = false := by
   have := I.big
   simp only [beq_eq_false_iff_ne]
   exact Nat.ne_of_gt this
  exact ⟨.ref s.heap.objs.size,_,I.laid (t' := tk) (o := .dK (S1 [] fs)) kp (Nat.le_refl _) ⟨by rw [sizeLine_eq]; simp at hl; omega,hb,_,KV.merge kv .nil,hD⟩,rfl,q _ (I.hok.fresh (Nat.le_refl _))⟩
 have hfl := hP.length
 rcases hp with hp | ⟨o,he,hdn⟩
 ·obtain ⟨its,rv,⟨o,n,ho,hcl,hdn,hd⟩,hz⟩ := I.list hp
  obtain ⟨more,h1,h2,h3⟩ := pP I hP rv
  have hl := rv.length
  refine fK (P := fun i v=>its.toArray[i]? = some v) (n := its.length) (I.ok.hd hc) (by decide) ho hcl (fun A' s' Q' E' hA hg hk=>rQ hg hcl hd hdn hA hk) (fun s' hg=>?_) h1 (by omega) (fun i v e=>h3 i v (by simpa using e)) (fin more h2)
  have hL : s'.heap.IsList p its.toArray := ⟨o,hg,hcl,n,hd⟩
  refine ⟨_,fun i h=>h.IsListIter s'.heap.objs.size p i ∧ h.IsList p its.toArray,fun A' E' Q' hq=>wpAny_pyIter_list hL hq,fun A' hh=>?_,⟨⟨_,Heap.get?_push_size _ rfl,rfl,rfl⟩,hL.push _⟩⟩
  have := Walks.list (prog := X.prog) (w := X.w) hh s'.heap.objs.size p (Nat.ne_of_lt (Heap.lt_size hg)) its.toArray
  rw [show its.toArray.size = its.length from by simp] at this
  exact this
 ·obtain ⟨ho,z,its,rv,⟨o',ho',hcl,n,hd⟩⟩ := I.hok _ _ he
  rw [ho] at ho'
  cases ho'
  obtain ⟨more,h1,h2,h3⟩ := pP I hP rv
  have hl := rv.length
  refine fK (P := fun i v=>its.toArray[i]? = some v) (n := its.length) (I.ok.hd hc) (by decide) ho hcl (fun A' s' Q' E' hA hg hk=>pY hg hcl hd hdn hA hk) (fun s' hg=>?_) h1 (by omega) (fun i v e=>h3 i v (by simpa using e)) (fin more h2)
  have hL : s'.heap.IsTuple p its.toArray := ⟨o,hg,hcl,n,hd⟩
  refine ⟨_,fun i h=>h.IsTupleIter s'.heap.objs.size p i ∧ h.IsTuple p its.toArray,fun A' E' Q' hq=>wpAny_pyIter_tuple hL hq,fun A' hh=>?_,⟨⟨_,Heap.get?_push_size _ rfl,rfl,rfl⟩,hL.push _⟩⟩
  have := Walks.tuple (prog := X.prog) (w := X.w) hh s'.heap.objs.size p (Nat.ne_of_lt (Heap.lt_size hg)) its.toArray
  rw [show its.toArray.size = its.length from by simp] at this
  exact this
end
end L2
namespace L2
open PySem PySem.Spec PyProof.Rows
section
variable {X : Cx} {pins : List (Addr × Obj)} {σ : St} {H : Hp} {s : Shared}
theorem Inv.turnedN {h' : Heap} {t' : Nat} {ch : List Addr} {N : Addr} {xs : List V} {us : List Value} (I : Inv X pins σ H s) (hf : ∀ b ∈ ch,S8 X pins H b) (k : ∀ b o,b ∉ ch → s.heap.get? b = some o → h'.get? b = some o)
  (hN : s.heap.objs.size ≤ N) (hz : xs.length ≤ sizeLine) (r : Vals xs us) (hT : IsTup h' N us.toArray) : Inv X pins σ (upd H N (.tup xs)) { s with heap := h',toks := t' } := by
 have nch : ∀ b u,H b = some u → b ∉ ch := fun b u e z=>by rw [(hf b z).1] at e; cases e
 have fr : H N = none := I.hok.fresh hN
 have ne : ∀ b o,s.heap.get? b = some o → b ≠ N := fun b o e z=>by
  have := Heap.lt_size e
  rw [z] at this
  exact absurd this (Nat.not_lt.mpr hN)
 refine I.step (g' := s.gens) (d' := s.drawn) (ch := ch) (fun b hb=>?_) (fun b o _ _ hc e _=>k b o hc e) (fun b o _ _ hc e _=>⟨o.slots,k b o hc e⟩) (fun b o _ e n=>by rw [B7 (ne b o e)]; exact n)
  (fun b o hc e=>⟨o,k b o hc e⟩) (fun b ys e=>by rw [B7 (E6 e fr)]; exact e) (fun b o u e=>by rw [B7 (E6 e fr)]; exact e) (fun b ps e=>⟨#[],by rw [B7 (E6 e fr),e]; simp⟩) (fun m hm=>?_) (fun b u e=>?_) I.bare
 ·obtain ⟨f0,f1,f2,f3,f4,f5⟩ := hf b hb
  exact ⟨f3,f1,f4,f5⟩
 ·obtain ⟨o,es,ep,ho,rr⟩ := hm
  exact ⟨o,es,ep,k _ o (fun z=>(hf _ z).2.1 rfl) ho,rr⟩
 ·by_cases hb : b = N
  ·subst hb
   rw [A5] at e
   cases e
   exact ⟨hz,us,r,hT⟩
  ·rw [B7 hb] at e
   refine (I.hok b u e).stay (fun c v hc q=>k c v ?_ q) (fun c q=>by rw [B7 (E6 q fr)]; exact q) fun c ys q=>by rw [B7 (E6 q fr)]; exact q
   rcases hc with z | z
   ·rw [z]; exact nch b u e
   ·exact nch c _ z
end
theorem AR9 {z TI TO i1 i2 c : Addr} (hc : c ∈ [z,TO,i1,i2]) : c ∈ [z,TI,TO,i1,i2] := by
 simp only [List.mem_cons,List.not_mem_nil,or_false] at hc ⊢
 rcases hc with h | h | h | h
 ·exact .inl h
 ·exact .inr (.inr (.inl h))
 ·exact .inr (.inr (.inr (.inl h)))
 ·exact .inr (.inr (.inr (.inr h)))
theorem AX1 : bootBuiltins "zip" = some (.type "zip") := by decide +kernel
section
variable {X : Cx}
end
end L2
namespace L2
open PySem PySem.Spec PyProof.Rows
section
variable {prog : Program} {w : World} {A : Around} {E : Value → Shared → Prop} {s : Shared}
theorem vN {it t : Addr} {i : Nat} {its : Array Value} {x : Value} {Q : Value → Shared → Prop} (hit : s.heap.IsTupleIter it t i) (ht : s.heap.IsTuple t its) (hx : its[i]? = some x)
  (hQ : ∀ h',h'.IsTupleIter it t (i + 1) → Heap.SameBut it s.heap h' → Q x { s with heap := h' }) : wpAny (model prog w) A (Builtin.SmallTypes.nextOf (.ref it)) Q E s := by
 obtain ⟨oi,hoi,hci,hdi⟩ := id hit
 obtain ⟨ot,hot,_,nt,hdt⟩ := ht
 unfold Builtin.SmallTypes.nextOf
 refine wpAny_bind (wpAny_callSpecial?_slot (name := Str.ofString "__next__") hit.typeIs PySem.F.slot_tuple_iterator_next (wpAny_call_entry PySem.F.slot_tuple_iterator_next hit.typeIs PySem.F.entry_tuple_iterator_next ?_ (PySem.F.args_tuple_iterator_next_1 _)))
 show wpAny _ _ (field (.ref it) 0 >>= _) _ _ s
 refine wpAny_bind (wpAny_field hoi hdi (x := .ref t) rfl ?_)
 show wpAny _ _ (if (Value.ref t == Value.none) = true then _ else _) _ _ s
 rw [if_neg (show ¬ ((Value.ref t == Value.none) = true) from Bool.false_ne_true)]
 show wpAny _ _ (field (.ref it) 1 >>= _) _ _ s
 refine wpAny_bind (wpAny_field hoi hdi (x := .int i 0) rfl ?_)
 show wpAny _ _ (seqItems? (.ref t) >>= _) _ _ s
 refine wpAny_bind (wpAny_seqItems hot hdt ?_)
 simp only [Int.toNat_natCast,hx]
 refine wpAny_bind (wpAny_setField hoi hdi (by simp) (wpAny_pure ⟨x,rfl,wpAny_pure (hQ _ ?_ (Heap.SameBut.update ..))⟩))
 exact ⟨_,Heap.get?_update_self _ hoi (Obj.isFreed_of_fields (Obj.data_mapFields hdi _)),(Obj.cls_mapFields ..).trans hci,by rw [Obj.data_mapFields hdi]; simp [rawInt]⟩
theorem yI {it t : Addr} {i : Nat} {its : Array Value} {Q : Value → Shared → Prop} (hh : A.handled = none) (hit : s.heap.IsTupleIter it t i) (ht : s.heap.IsTuple t its) (hx : its[i]? = none)
  (hE : ∀ h' e,Heap.ExtBut it s.heap h' → (∃ o,h'.get? e = some o ∧ o.cls = .type "StopIteration") → E (.ref e) { s with heap := h' }) : wpAny (model prog w) A (Builtin.SmallTypes.nextOf (.ref it)) Q E s := by
 obtain ⟨oi,hoi,hci,hdi⟩ := id hit
 obtain ⟨ot,hot,_,nt,hdt⟩ := ht
 unfold Builtin.SmallTypes.nextOf
 refine wpAny_bind (wpAny_callSpecial?_slot (name := Str.ofString "__next__") hit.typeIs PySem.F.slot_tuple_iterator_next (wpAny_call_entry PySem.F.slot_tuple_iterator_next hit.typeIs PySem.F.entry_tuple_iterator_next ?_ (PySem.F.args_tuple_iterator_next_1 _)))
 show wpAny _ _ (field (.ref it) 0 >>= _) _ _ s
 refine wpAny_bind (wpAny_field hoi hdi (x := .ref t) rfl ?_)
 show wpAny _ _ (if (Value.ref t == Value.none) = true then _ else _) _ _ s
 rw [if_neg (show ¬ ((Value.ref t == Value.none) = true) from Bool.false_ne_true)]
 show wpAny _ _ (field (.ref it) 1 >>= _) _ _ s
 refine wpAny_bind (wpAny_field hoi hdi (x := .int i 0) rfl ?_)
 show wpAny _ _ (seqItems? (.ref t) >>= _) _ _ s
 refine wpAny_bind (wpAny_seqItems hot hdt ?_)
 simp only [Int.toNat_natCast,hx]
 refine wpAny_bind (wpAny_rule (wpAny_bind (wpAny_setField hoi hdi (by simp) ?_)))
 show wpAny _ _ (newExc (.type "StopIteration") [] >>= _) _ _ _
 refine wpAny_bind ?_
 simp only [newExc,newTuple]
 refine wpAny_bind (wpAny_newObj_type ?_ (by size_fits))
 refine wpAny_bind (m := firstArgMember _ _) (wpAny_of_eq (a := Value.none) (by first | rfl | (simp only [firstArgMember]; rfl)) ?_)
 refine wpAny_newObj_type ?_ (by size_fits)
 simp only [raiseNew]
 refine wpAny_bind (wpAny_handled ?_)
 first | rw [show A.in1.handled = none from hh] | rw [hh]
 refine wpAny_bind (wpAny_pure (wpAny_throw ?_))
 exact hE _ _ (((Heap.SameBut.update ..).extBut.push _).push _) ⟨_,Heap.get?_push_size _ rfl,rfl⟩
theorem wM {z TI TO i1 i2 : Addr} {x y a b : Value} {N1 N2 : Heap → Prop} {Q : Value → Shared → Prop} (d1 : TI ≠ z) (d2 : TO ≠ z) (d3 : i1 ≠ z) (d4 : i2 ≠ z) (d5 : TO ≠ i1) (d6 : TO ≠ i2) (d7 : i1 ≠ i2)
  (hz : IsZip s.heap z TI TO .none) (hTI : IsPair s.heap TI (.ref i1) (.ref i2)) (hTO : IsPair s.heap TO a b)
  (n1 : ∀ (A' : Around) (s' : Shared) (Q' : Value → Shared → Prop) (E' : Value → Shared → Prop),(∀ c o,c ≠ z → s.heap.get? c = some o → s'.heap.get? c = some o) → (∀ h',N1 h' → Heap.SameBut i1 s'.heap h' → Q' x { s' with heap := h' }) → wpAny (model prog w) A' (Builtin.SmallTypes.nextOf (.ref i1)) Q' E' s')
  (n2 : ∀ (A' : Around) (s' : Shared) (Q' : Value → Shared → Prop) (E' : Value → Shared → Prop),(∀ c o,c ≠ z → c ≠ TO → c ≠ i1 → s.heap.get? c = some o → s'.heap.get? c = some o) → (∀ h',N2 h' → Heap.SameBut i2 s'.heap h' → Q' y { s' with heap := h' }) → wpAny (model prog w) A' (Builtin.SmallTypes.nextOf (.ref i2)) Q' E' s')
  (k1 : ∀ h h',N1 h → (∀ o,h.get? i1 = some o → h'.get? i1 = some o) → N1 h') (k2 : ∀ h h',N2 h → (∀ o,h.get? i2 = some o → h'.get? i2 = some o) → N2 h') (t1 : i1 < s.heap.objs.size) (t2 : i2 < s.heap.objs.size)
  (hQ : ∀ h',IsZip h' z TI TO (rawInt s.heap.objs.size) → IsPair h' TO x y → N1 h' → N2 h' → IsPair h' s.heap.objs.size x y →
   (∀ c o,c ≠ z → c ≠ TO → c ≠ i1 → c ≠ i2 → s.heap.get? c = some o → h'.get? c = some o) → Q (.ref s.heap.objs.size) { s with heap := h' }) :
  wpAny (model prog w) A (Builtin.«zip.__next__» ⟨[.ref z],[]⟩) (fun fin s'=>∃ v,fin = .done (.ret v) ∧ Q v s') E s := by
 show wpAny _ _ (field (.ref z) 2 >>= _) _ _ _
 refine wpAny_bind (wpAny_field hz rfl (x := .bool false) rfl ?_)
 show wpAny _ _ (field (.ref z) 3 >>= _) _ _ _
 refine wpAny_bind (wpAny_field hz rfl (x := .ref TI) rfl ?_)
 refine wpAny_bind (wpAny_seqItems hTI rfl ?_)
 show wpAny _ _ (Builtin.SmallTypes.ownedTupleIsFree (.ref z) >>= _) _ _ _
 refine wpAny_bind ?_
 unfold Builtin.SmallTypes.ownedTupleIsFree
 refine wpAny_bind (wpAny_field hz rfl (x := .none) rfl (wpAny_pure ?_))
 simp only [if_true]
 refine wpAny_bind (wpAny_rule ?_)
 refine wpAny_bind (wpAny_field hz rfl (x := .ref TO) rfl ?_)
 refine wpAny_bind (wpAny_setField_rec hz (by simp) fun g1 hz1 sb1=>?_)
 replace hz1 : IsZip g1 z TI TO .ellipsis := hz1
 refine wpAny_bind ?_
 simp only [List.zipIdx_cons,List.zipIdx_nil,List.forIn_cons,List.forIn_nil]
 refine wpAny_bind (wpAny_bind (wpAny_onRaise ?_))
 show wpAny _ _ (Builtin.SmallTypes.nextOf (.ref i1) >>= _) _ _ _
 refine wpAny_bind (n1 _ { s with heap := g1 } _ _ (fun c o hc e=>sb1.extBut c o hc e) fun g2 m1 sb2=>wpAny_pure ?_)
 have hTO2 : IsPair g2 TO a b := sb2.extBut _ _ d5 (sb1.extBut _ _ d2 hTO)
 refine wpAny_bind (wpAny_seqItems hTO2 rfl ?_)
 refine wpAny_bind (wpAny_updateSeq_pair hTO2 fun g3 hTO3 sb3=>?_)
 replace hTO3 : IsPair g3 TO x b := hTO3
 refine wpAny_bind (wpAny_letGo (wpAny_pure ?_))
 refine wpAny_bind (wpAny_bind (wpAny_onRaise ?_))
 show wpAny _ _ (Builtin.SmallTypes.nextOf (.ref i2) >>= _) _ _ _
 refine wpAny_bind (n2 _ { s with heap := g3 } _ _ (fun c o c1 c2 c3 e=>sb3.extBut c o c2 (sb2.extBut c o c3 (sb1.extBut c o c1 e))) fun g4 m2 sb4=>wpAny_pure ?_)
 have hTO4 : IsPair g4 TO x b := sb4.extBut _ _ d6 hTO3
 refine wpAny_bind (wpAny_seqItems hTO4 rfl ?_)
 refine wpAny_bind (wpAny_updateSeq_pair hTO4 fun g5 hTO5 sb5=>?_)
 replace hTO5 : IsPair g5 TO x y := hTO5
 refine wpAny_bind (wpAny_letGo (wpAny_pure (wpAny_pure ?_)))
 refine wpAny_bind (wpAny_seqItems hTO5 rfl ?_)
 refine wpAny_bind (wpAny_newTuple ?_)
 have hsz : g5.objs.size = s.heap.objs.size := by rw [sb5.1,sb4.1,sb3.1,sb2.1,sb1.1]
 have hz5 : IsZip g5 z TI TO .ellipsis := sb5.extBut _ _ d2.symm (sb4.extBut _ _ d4.symm (sb3.extBut _ _ d2.symm (sb2.extBut _ _ d3.symm hz1)))
 have hk5 : ∀ c o,c ≠ z → c ≠ TO → c ≠ i1 → c ≠ i2 → s.heap.get? c = some o → g5.get? c = some o := fun c o c1 c2 c3 c4 e =>
  sb5.extBut _ _ c2 (sb4.extBut _ _ c4 (sb3.extBut _ _ c2 (sb2.extBut _ _ c3 (sb1.extBut _ _ c1 e))))
 have m15 : N1 g5 := k1 _ _ m1 fun o e=>sb5.extBut _ _ d5.symm (sb4.extBut _ _ d7 (sb3.extBut _ _ d5.symm e))
 have m25 : N2 g5 := k2 _ _ m2 fun o e=>sb5.extBut _ _ d6.symm e
 have hzlt : z < g5.objs.size := Heap.lt_size hz5
 show wpAny _ _ (Builtin.SmallTypes.ownedTupleHandOut (.ref z) (.ref g5.objs.size) >>= _) _ _ _
 refine wpAny_bind ?_
 unfold Builtin.SmallTypes.ownedTupleHandOut
 have hz6 : IsZip (g5.push { cls := .type "tuple",data := .seq #[x,y] }) z TI TO .ellipsis := Heap.get?_push_of_some _ hz5
 refine wpAny_bind (wpAny_setField_rec hz6 (by simp) fun g7 hz7 sb7=>?_)
 replace hz7 : IsZip g7 z TI TO (rawInt g5.objs.size) := hz7
 refine wpAny_setField_rec hz7 (by simp) fun g8 hz8 sb8=>?_
 replace hz8 : IsZip g8 z TI TO (rawInt g5.objs.size) := hz8
 have up : ∀ c o,c ≠ z → g5.get? c = some o → g8.get? c = some o := fun c o c1 e=>sb8.extBut _ _ c1 (sb7.extBut _ _ c1 (Heap.get?_push_of_some _ e))
 have hT8 : IsPair g8 g5.objs.size x y := sb8.extBut _ _ (Nat.ne_of_gt hzlt) (sb7.extBut _ _ (Nat.ne_of_gt hzlt) (Heap.get?_push_size _ rfl))
 rw [hsz] at hz8 hT8
 refine wpAny_pure ⟨_,rfl,?_⟩
 show Q (.ref g5.objs.size) _
 rw [hsz]
 exact hQ g8 hz8 (up _ _ d2 hTO5) (k1 _ _ m15 fun o e=>up _ o d3 e) (k2 _ _ m25 fun o e=>up _ o d4 e) hT8 fun c o c1 c2 c3 c4 e=>up c o c1 (hk5 c o c1 c2 c3 c4 e)
end
end L2
namespace L2
open PySem PySem.Spec PyProof.Rows
section
variable {prog : Program} {w : World} {A : Around} {E : Value → Shared → Prop} {s : Shared}
end
section
variable {X : Cx} {pins : List (Addr × Obj)} {σ : St} {H : Hp} {s : Shared}
theorem Inv.turnedM {h' : Heap} {t' : Nat} {ch : List Addr} (I : Inv X pins σ H s) (hf : ∀ b ∈ ch,S8 X pins H b) (k : ∀ b o,b ∉ ch → s.heap.get? b = some o → h'.get? b = some o) : Inv X pins σ H { s with heap := h',toks := t' } := by
 have nch : ∀ b u,H b = some u → b ∉ ch := fun b u e z=>by rw [(hf b z).1] at e; cases e
 refine I.step (g' := s.gens) (d' := s.drawn) (ch := ch) (fun b hb=>?_) (fun b o _ _ hc e _=>k b o hc e) (fun b o _ _ hc e _=>⟨o.slots,k b o hc e⟩) (fun _ _ _ _ n=>n)
  (fun b o hc e=>⟨o,k b o hc e⟩) (fun _ _ e=>e) (fun _ _ _ e=>e) (fun b ps e=>⟨#[],by rw [e]; simp⟩) (fun m hm=>?_) (fun b u e=>?_) I.bare
 ·obtain ⟨f0,f1,f2,f3,f4,f5⟩ := hf b hb
  exact ⟨f3,f1,f4,f5⟩
 ·obtain ⟨o,es,ep,ho,rr⟩ := hm
  exact ⟨o,es,ep,k _ o (fun z=>(hf _ z).2.1 rfl) ho,rr⟩
 ·refine (I.hok b u e).stay (fun c v hc q=>k c v ?_ q) (fun _ q=>q) fun _ _ q=>q
  rcases hc with z | z
  ·rw [z]; exact nch b u e
  ·exact nch c _ z
end
section
variable {X : Cx}
end
end L2
namespace L2
open PySem PySem.Spec PyProof.Rows
section
variable {K : PySem.W.Frag} {H H' : Hp}
end
section
variable {X : Cx}
end
section
variable {X : Cx}
theorem pK {H : Hp} {p : Addr} (h : H p = none) (o : HO) : Same H (upd H p o) := fun b u q=>by rw [B7 (E6 q h)]; exact q
end
end L2
namespace L2
open PySem PySem.Spec PyProof.Rows
section
variable {prog : Program} {w : World} {A : Around} {E : Value → Shared → Prop} {s : Shared}
theorem wP {t sl : Addr} {items : Array Value} {vl vu : Value} {lo hi : Option Int} {Q : Value → Shared → Prop} (ht : IsTup s.heap t items) (hs : s.heap.IsSliceOf sl vl vu .none) (pl : IsPart vl lo) (pu : IsPart vu hi)
  (hw : HT.sIx items.size 0 lo = 0 ∧ HT.sIx items.size items.size hi = items.size) (h : Q (.ref t) s) : wpAny (model prog w) A (getItem (.ref t) (.ref sl)) Q E s := by
 obtain ⟨os,hos,hcs,hds⟩ := id hs
 have hTs : s.TypeIs (.ref sl) "slice" := ⟨os,hos,hcs⟩
 unfold getItem
 try with_reducible refine wpAny_holding ?_
 first | refine wpAny_bind (wpAny_pure ?_) | skip
 refine wpAny_bind (wpAny_sequenceKey ht.typeIs (by decide) ?_)
 refine wpAny_bind (wpAny_callSpecial?_slot (name := Str.ofString "__getitem__") ht.typeIs PyProof.Rows.slot_tuple_getitem
  (wpAny_call_entry PyProof.Rows.slot_tuple_getitem ht.typeIs entry_tuple_getitem ?_ (args_tuple_getitem _ _)))
 show wpAny _ _ (Builtin.Tuple.tupleItemsOf (.ref t) >>= _) _ _ s
 refine wpAny_bind (tupleItemsOf_ ht ?_)
 refine wpAny_bind (wpAny_typeOf hTs ?_)
 rw [if_pos (by decide)]
 refine wpAny_bind (HT.sliceApplied_gen hs pl pu ?_)
 have hyes : (((HT.sIx items.size 0 lo : Nat) : Int) == 0 && (1 : Int) == 1 && (HT.sIx items.size items.size hi - HT.sIx items.size 0 lo) == items.size) = true := by
  rw [hw.1,hw.2]
  simp
 show wpAny _ _ (if (((HT.sIx items.size 0 lo : Nat) : Int) == 0 && (1 : Int) == 1 && (HT.sIx items.size items.size hi - HT.sIx items.size 0 lo) == items.size) = true then _ else _) _ _ s
 rw [if_pos hyes]
 refine wpAny_bind ?_
 unfold Builtin.Tuple.tupleIsExact
 refine wpAny_bind (wpAny_typeOf ht.typeIs (wpAny_pure ?_))
 rw [if_pos (by decide)]
 refine wpAny_bind (wpAny_rule ?_)
 exact wpAny_pure ⟨_,rfl,wpAny_pure h⟩
end
section
variable {X : Cx}
def BE2 (K : PySem.W.Frag) : V → Option Int → Option Int → Hp → VK → Prop := fun x lo hi H Q=>∃ a xs,x = .ref a ∧ SqT K H a xs ∧ (HT.sIx xs.length 0 lo = 0 ∧ HT.sIx xs.length xs.length hi = xs.length) ∧ Q (.ref a) H
theorem sG : uJ X (BE2 X.K) := by
 intro pins s σ H x v vl vu lo hi sl Q I rx hs pl pu h
 obtain ⟨a,xs,rfl,hx,hw,q⟩ := h
 cases rx
 obtain ⟨its,r,ht,hz⟩ := I.tuple hx
 have hlen : its.toArray.size = xs.length := by rw [List.size_toArray]; exact r.length.symm
 refine ⟨"tuple",_,PyProof.Rows.slot_tuple_getitem.lookup,ht.typeIs,?_⟩
 exact wP ht hs pl pu (by rw [hlen]; exact hw) ⟨.ref a,H,I,rfl,q⟩
def BA2 (K : PySem.W.Frag) : V → Option Int → Option Int → Hp → VK → Prop := fun x lo hi H Q=>∃ a xs,x = .ref a ∧ lo = some 1 ∧ hi = none ∧ SqT K H a xs ∧ ∀ p H',Same H H' → SqT K H' p xs.tail → Q (.ref p) H'
theorem AC3 (n : Nat) : HT.sIx n 0 (some 1) = min 1 n ∧ HT.sIx n n none = n := by
 constructor
 ·unfold HT.sIx
  simp
  try omega
 ·rfl
theorem AL5 : uJ X (BA2 X.K) := by
 intro pins s σ H x v vl vu lo hi sl Q I rx hs pl pu h
 obtain ⟨a,xs,rfl,rfl,rfl,hx,q⟩ := h
 obtain ⟨e1,e2⟩ := AC3 xs.length
 cases xs with
 | nil=>exact sG pins s σ H _ v vl vu _ _ sl Q I rx hs pl pu ⟨a,[],rfl,hx,⟨by rw [e1]; rfl,e2⟩,q a H (fun _ _ h=>h) hx⟩
 | cons y ys =>
  refine xG pins s σ H _ v vl vu _ _ sl Q I rx hs pl pu ⟨a,y :: ys,rfl,hx,?_,fun p hp=>q p _ (pK hp _) ?_⟩
  ·rw [e1,List.length_cons]
   intro z
   have := z.1
   omega
  ·refine SqT.of ?_
   have : V4 (y :: ys) (some 1) none = ys := by
    unfold V4
    rw [e1,e2,List.length_cons]
    have : min 1 (ys.length + 1) = 1 := by omega
    rw [this]
    simp
   rw [this]
   exact A5
end
end L2
namespace L2
open PySem PySem.Spec PyProof.Rows
section
variable {X : Cx}
def BE5 (K : PySem.W.Frag) : V → Option Int → Option Int → Hp → VK → Prop := fun x lo hi H Q=>∃ a xs,x = .ref a ∧ SqT K H a xs ∧ ∀ p H',Same H H' → SqT K H' p (V4 xs lo hi) → Q (.ref p) H'
theorem sH : uJ X (BE5 X.K) := by
 intro pins s σ H x v vl vu lo hi sl Q I rx hs pl pu h
 obtain ⟨a,xs,rfl,hx,q⟩ := h
 by_cases hw : HT.sIx xs.length 0 lo = 0 ∧ HT.sIx xs.length xs.length hi = xs.length
 ·refine sG pins s σ H _ v vl vu _ _ sl Q I rx hs pl pu ⟨a,xs,rfl,hx,hw,q a H (fun _ _ h=>h) ?_⟩
  have : V4 xs lo hi = xs := by unfold V4; rw [hw.1,hw.2]; simp
  rw [this]; exact hx
 ·exact xG pins s σ H _ v vl vu _ _ sl Q I rx hs pl pu ⟨a,xs,rfl,hx,hw,fun p hp=>q p _ (pK hp _) (SqT.of A5)⟩
theorem zR {α : Type} (f : α → V) (us : List α) (n : Nat) : V4 (us.map f) none (some (n : Int)) = (us.take n).map f := by
 unfold V4
 rw [HT.sIx_nat,HT.sIx_none]
 simp only [List.length_map,List.drop_zero,Nat.sub_zero]
 rw [← List.map_take]
 congr 1
 rcases Nat.le_total n us.length with h | h
 ·rw [Nat.min_eq_left h]
 ·rw [Nat.min_eq_right h,List.take_length,List.take_of_length_le h]
end
end L2
namespace L2
open PySem PySem.Spec PyProof.Rows
section
variable {prog : Program} {w : World} {A : Around} {E : Value → Shared → Prop} {s : Shared}
theorem AA9 {M : Model} {a : Addr} {Q : Option Obj → Shared → Prop} (h : Q (s.heap.get? a) s) : wpAny M A (loadIfAlive a) Q E s := by
 intro Γ p hΓ
 show Sem.wp M Γ (Sem.loadIfAlive a Sem.pure) _ _ p s
 rw [Sem.wp_loadIfAlive]
 exact (wpAny_pure (M := M) (A := A) (E := E) (s := s) (Q := Q) (a := s.heap.get? a) h) Γ p hΓ
def R5 (d : Addr) (i n ep : Nat) (f0 f1 k0 v0 : Value) : Obj := { cls := .type "dict_itemiterator",data := .fields #[f0,f1,.ref d,.int (i : Int) 0,.int (n : Int) 0,.int (ep : Int) 0,k0,v0] }
theorem wQ {h : Heap} {it d : Addr} {i n ep : Nat} {f0 f1 k0 v0 : Value} (F : Obj → Obj) {i' n' : Nat} {f0' f1' k0' v0' : Value} (e : F (R5 d i n ep f0 f1 k0 v0) = R5 d i' n' ep f0' f1' k0' v0') (hi : h.get? it = some (R5 d i n ep f0 f1 k0 v0)) : (h.update it F).get? it = some (R5 d i' n' ep f0' f1' k0' v0') := by
 rw [Heap.get?_update_self F hi (by rw [e]; rfl),e]
theorem fR {M : Model} {h : Heap} {it d : Addr} {i n ep : Nat} {f0 f1 k0 v0 x : Value} {j : Nat} (f0' f1' k0' v0' : Value) {Q : Unit → Shared → Prop} (hi : h.get? it = some (R5 d i n ep f0 f1 k0 v0)) (hj : j < 8)
  (e : Obj.mapFields (fun y=>y.setIfInBounds j x) (R5 d i n ep f0 f1 k0 v0) = R5 d i n ep f0' f1' k0' v0')
  (q : ∀ h',h'.get? it = some (R5 d i n ep f0' f1' k0' v0') → Heap.SameBut it h h' → Q () { s with heap := h' }) : wpAny M A (setField (.ref it) j x) Q E { s with heap := h } :=
 wpAny_setField hi rfl (by show j < 8; exact hj) (q _ (wQ _ e hi) (Heap.SameBut.update h it _))
theorem dZ {a : Addr} {h h1 h2 : Heap} (x : Heap.SameBut a h h1) (y : Heap.SameBut a h1 h2) : Heap.SameBut a h h2 := ⟨y.1.trans x.1,fun b hb=>(y.2 b hb).trans (x.2 b hb)⟩
def lW (h : Heap) (it d : Addr) (i n ep : Nat) : Prop := ∃ f0 f1 k0 v0,h.get? it = some (R5 d i n ep f0 f1 k0 v0) ∧ (f0 = .none ∨ ∃ a t,f0 = .int a t)
theorem yH {it d : Addr} {o : Obj} {es : Array DictEntry} {ep i : Nat} {e : DictEntry} {Q : Option Value → Shared → Prop} (hit : lW s.heap it d i es.size ep) (hd : s.heap.get? d = some o) (hdd : o.data = .dict es ep) (he : es[i]? = some e)
    (h : ∀ h', lW h' it d (i + 1) es.size ep → h'.get? s.heap.objs.size = some { cls := .type "tuple", data := .seq #[e.key, e.val] } → h'.objs.size = s.heap.objs.size + 1 →
      (∀ b o, b ≠ it → s.heap.get? b = some o → h'.get? b = some o) → Q (some (.ref s.heap.objs.size)) { s with heap := h' }) : wpAny (model prog w) A (pyNext (.ref it)) Q E s := by
  obtain ⟨f0, f1, k0, v0, hi, hf⟩ := hit
  have hT : s.TypeIs (.ref it) "dict_itemiterator" := ⟨_, hi, rfl⟩
  unfold pyNext
  refine wpAny_bind (wpAny_attempt (wpAny_callSpecial?_slot hT PySem.F.slot_dict_itemiterator_next (wpAny_call_entry PySem.F.slot_dict_itemiterator_next hT PySem.F.entry_dict_itemiterator_next ?_ (PySem.F.args_dict_itemiterator_next_1 _))))
  unfold Builtin.«dict_itemiterator.__next__»
  refine wpAny_bind ?_
  unfold Builtin.Dict_items.slot0
  refine wpAny_bind (wpAny_pure (wpAny_pure ?_))
  refine wpAny_bind (wpAny_bind (wpAny_bind (wpAny_typeNameOfWhole_itemiter hT (wpAny_pure ?_))))
  refine wpAny_bind (wpAny_fieldsOf hi rfl ?_)
  show wpAny _ _ (if (Value.ref d == Value.none) = true then _ else _) _ _ s
  rw [if_neg (by simp)]
  refine wpAny_bind (wpAny_pure (wpAny_bind (wpAny_dictEntries hd hdd ?_)))
  dsimp only
  rw [if_neg (by simp)]
  refine wpAny_bind (wpAny_pure (wpAny_bind (wpAny_dictEpoch hd hdd ?_)))
  rw [if_neg (by simp)]
  refine wpAny_pure ?_
  have hlt : ¬ ((i : Int) < 0) := by omega
  show wpAny _ _ (match (if (i : Int) < 0 then none else es[(i : Int).toNat]?) with | some e => _ | none => _) _ _ s
  rw [if_neg hlt, Int.toNat_natCast, he]
  refine wpAny_bind (wpAny_bind (wpAny_typeNameOfWhole_itemiter hT (wpAny_pure ?_)))
  refine wpAny_bind (wpAny_isOneOf_itemiter hT ?_)
  refine wpAny_bind (wpAny_setField hi rfl (by show 3 < 8; decide) ?_)
  generalize hF : (Obj.mapFields fun x : Array Value => _) = F
  have eF : F (R5 d i es.size ep f0 f1 k0 v0) = R5 d (i + 1) es.size ep f0 f1 k0 v0 := by rw [← hF]; rfl
  have hA := wQ F eF hi
  have sA := Heap.SameBut.update s.heap it F
  generalize s.heap.update it F = h1 at hA sA
  clear hF eF
  have hT1 : ({ s with heap := h1 } : Shared).TypeIs (.ref it) "dict_itemiterator" := ⟨_, hA, rfl⟩
  have hlt1 : it < h1.objs.size := Heap.lt_size hA
  refine wpAny_bind (wpAny_holding (wpAny_bind (wpAny_isOneOf_itemiter hT1 ?_)))
  rw [if_neg (by decide)]
  refine wpAny_bind (wpAny_isOneOf_itemiter hT1 ?_)
  rw [if_neg (by decide)]
  unfold Builtin.Dict_items.pairFromOwner
  refine wpAny_bind (wpAny_newTuple ?_ (by show 2 ≤ sizeLine; decide))
  have hB : (h1.push { cls := .type "tuple", data := .seq [e.key, e.val].toArray }).get? it = some (R5 d (i + 1) es.size ep f0 f1 k0 v0) := Heap.get?_push_of_some _ hA
  have tB : (h1.push { cls := .type "tuple", data := .seq [e.key, e.val].toArray }).get? h1.objs.size = some { cls := .type "tuple", data := .seq #[e.key, e.val] } := Heap.get?_push_size _ rfl
  have zB : (h1.push { cls := .type "tuple", data := .seq [e.key, e.val].toArray }).objs.size = s.heap.objs.size + 1 := by rw [size_push', sA.1]
  have kB : ∀ b o, b ≠ it → s.heap.get? b = some o → (h1.push { cls := .type "tuple", data := .seq [e.key, e.val].toArray }).get? b = some o := fun b o hb q => Heap.get?_push_of_some _ ((sA.2 b hb).trans q)
  have hlt2 : it ≠ h1.objs.size := Nat.ne_of_lt hlt1
  generalize h1.push { cls := .type "tuple", data := .seq [e.key, e.val].toArray } = h2 at hB tB zB kB
  rw [sA.1] at tB hlt2 ⊢
  clear hT hT1 hA sA hlt1
  unfold Builtin.Dict_items.ownedTupleIsFree
  have fin : ∀ h3 : Heap, lW h3 it d (i + 1) es.size ep → Heap.SameBut it h2 h3 → Q (some (.ref s.heap.objs.size)) { s with heap := h3 } := fun h3 x sb =>
    h h3 x ((sb.2 _ (Ne.symm hlt2)).trans tB) (sb.1.trans zB) fun b o hb q => (sb.2 b hb).trans (kB b o hb q)
  have no : ∀ h3 : Heap, lW h3 it d (i + 1) es.size ep → Heap.SameBut it h2 h3 → wpAny (model prog w) A.in1 (pure (Value.ref s.heap.objs.size)) (fun a s' => wpAny (model prog w) A.in1 (ret a) (fun fin s' => ∃ v, fin = Fin.done (Flow.ret v) ∧ wpAny (model prog w) A (pure (some v)) Q E s')
      (fun e s' => wpAny (model prog w) A (do
          let __do_lift ← isInstance e (Value.type "StopIteration")
          if __do_lift = true then pure none else throw e) Q E s') s') (fun e s' => wpAny (model prog w) A (do
          let __do_lift ← isInstance e (Value.type "StopIteration")
          if __do_lift = true then pure none else throw e) Q E s') { s with heap := h3 } := fun h3 x sb => wpAny_pure (wpAny_pure ⟨_, rfl, wpAny_pure (fin h3 x sb)⟩)
  have yes : ∀ (f0 : Value), h2.get? it = some (R5 d (i + 1) es.size ep f0 f1 k0 v0) → wpAny (model prog w) A.in1 (do
            let __do_lift ← field (Value.ref it) 6
            let __do_lift_1 ← field (Value.ref it) (6 + 1)
            have old : List Value := [__do_lift, __do_lift_1]
            setField (Value.ref it) 6 e.key
            setField (Value.ref it) (6 + 1) e.val
            setField (Value.ref it) 0 (rawInt ↑s.heap.objs.size)
            setField (Value.ref it) 1 (Value.bool false)
            let __r ← letGo old [Value.ref s.heap.objs.size]
            pure (Value.ref s.heap.objs.size)) (fun a s' => wpAny (model prog w) A.in1 (ret a) (fun fin s' => ∃ v, fin = Fin.done (Flow.ret v) ∧ wpAny (model prog w) A (pure (some v)) Q E s')
      (fun e s' => wpAny (model prog w) A (do
          let __do_lift ← isInstance e (Value.type "StopIteration")
          if __do_lift = true then pure none else throw e) Q E s') s') (fun e s' => wpAny (model prog w) A (do
          let __do_lift ← isInstance e (Value.type "StopIteration")
          if __do_lift = true then pure none else throw e) Q E s') { s with heap := h2 } := fun f0 hB => by
    refine wpAny_bind (wpAny_field hB rfl rfl (wpAny_bind (wpAny_field hB rfl rfl ?_)))
    refine wpAny_bind (fR f0 f1 e.key v0 hB (by decide) rfl fun h3 e3 s3 => ?_)
    refine wpAny_bind (fR f0 f1 e.key e.val e3 (by decide) rfl fun h4 e4 s4 => ?_)
    refine wpAny_bind (fR (rawInt ↑s.heap.objs.size) f1 e.key e.val e4 (by decide) rfl fun h5 e5 s5 => ?_)
    refine wpAny_bind (fR (rawInt ↑s.heap.objs.size) (.bool false) e.key e.val e5 (by decide) rfl fun h6 e6 s6 => ?_)
    exact wpAny_bind (wpAny_letGo (no h6 ⟨_, _, _, _, e6, .inr ⟨_, _, rfl⟩⟩ (dZ (dZ (dZ s3 s4) s5) s6)))
  refine wpAny_bind (wpAny_bind (wpAny_field hB rfl rfl ?_))
  rcases hf with rfl | ⟨a, t, rfl⟩
  · refine wpAny_pure ?_
    show wpAny _ _ (if true = true then _ else _) _ _ _
    rw [if_pos rfl]
    exact yes _ hB
  · refine wpAny_bind (AA9 ?_)
    cases h2.get? a.toNat with
    | none =>
      show wpAny _ _ (if true = true then _ else _) _ _ _
      rw [if_pos rfl]
      refine wpAny_pure ?_
      show wpAny _ _ (if true = true then _ else _) _ _ _
      rw [if_pos rfl]
      exact yes _ hB
    | some ob =>
      show wpAny _ _ (if false = true then _ else _) _ _ _
      rw [if_neg (by decide)]
      refine wpAny_bind (wpAny_field hB rfl rfl ?_)
      split
      · refine wpAny_bind (fR (.int a t) (.bool true) k0 v0 hB (by decide) rfl fun h3 e3 s3 => ?_)
        refine wpAny_pure ?_
        show wpAny _ _ (if false = true then _ else _) _ _ _
        rw [if_neg (by decide)]
        exact no h3 ⟨_, _, _, _, e3, .inr ⟨_, _, rfl⟩⟩ s3
      · refine wpAny_pure ?_
        show wpAny _ _ (if false = true then _ else _) _ _ _
        rw [if_neg (by decide)]
        exact no h2 ⟨_, _, _, _, hB, .inr ⟨_, _, rfl⟩⟩ ⟨rfl, fun _ _ => rfl⟩
theorem vX : firstArgMember (.type "StopIteration") [] = pure Value.none := by kernel_rfl
theorem AB4 : isSubtype (.type "StopIteration") (.type "StopIteration") = pure true := by kernel_rfl
theorem AE0 {it d : Addr} {o : Obj} {es : Array DictEntry} {ep i : Nat} {Q : Option Value → Shared → Prop} (hA : A.handled = none) (hit : lW s.heap it d i es.size ep) (hd : s.heap.get? d = some o) (hdd : o.data = .dict es ep) (he : es.size ≤ i)
  (h : ∀ h',(∀ b o,b ≠ it → s.heap.get? b = some o → h'.get? b = some o) → Q none { s with heap := h' }) : wpAny (model prog w) A (pyNext (.ref it)) Q E s := by
 obtain ⟨f0,f1,k0,v0,hi,hf⟩ := hit
 have hT : s.TypeIs (.ref it) "dict_itemiterator" := ⟨_,hi,rfl⟩
 unfold pyNext
 refine wpAny_bind (wpAny_attempt (wpAny_callSpecial?_slot hT PySem.F.slot_dict_itemiterator_next (wpAny_call_entry PySem.F.slot_dict_itemiterator_next hT PySem.F.entry_dict_itemiterator_next ?_ (PySem.F.args_dict_itemiterator_next_1 _))))
 unfold Builtin.«dict_itemiterator.__next__»
 refine wpAny_bind ?_
 unfold Builtin.Dict_items.slot0
 refine wpAny_bind (wpAny_pure (wpAny_pure ?_))
 refine wpAny_bind (wpAny_bind (wpAny_bind (wpAny_typeNameOfWhole_itemiter hT (wpAny_pure ?_))))
 refine wpAny_bind (wpAny_fieldsOf hi rfl ?_)
 show wpAny _ _ (if (Value.ref d == Value.none) = true then _ else _) _ _ s
 rw [if_neg (by simp)]
 refine wpAny_bind (wpAny_pure (wpAny_bind (wpAny_dictEntries hd hdd ?_)))
 dsimp only
 rw [if_neg (by simp)]
 refine wpAny_bind (wpAny_pure (wpAny_bind (wpAny_dictEpoch hd hdd ?_)))
 rw [if_neg (by simp)]
 refine wpAny_pure ?_
 have hlt : ¬ ((i : Int) < 0) := by omega
 show wpAny _ _ (match (if (i : Int) < 0 then none else es[(i : Int).toNat]?) with | some e=>_ | none=>_) _ _ s
 rw [if_neg hlt,Int.toNat_natCast,Array.getElem?_eq_none he]
 refine wpAny_bind (wpAny_bind (wpAny_typeNameOfWhole_itemiter hT (wpAny_pure ?_)))
 refine wpAny_bind (wpAny_setField hi rfl (by show 2 < 8; decide) ?_)
 generalize hF : (Obj.mapFields fun x : Array Value=>_) = F
 have sA := Heap.SameBut.update s.heap it F
 generalize s.heap.update it F = h1 at sA
 clear hF
 refine wpAny_bind ?_
 unfold newExc
 refine wpAny_bind (wpAny_newTuple ?_ (Nat.zero_le _))
 rw [vX]
 refine wpAny_bind (wpAny_pure (wpAny_newObj_type ?_ (by show (6 : Nat) ≤ sizeLine + 2; decide)))
 refine wpAny_raiseNew_none (by simpa using hA) ?_
 generalize hh2 : (h1.push _) = h2
 have k2 : ∀ b o,b ≠ it → s.heap.get? b = some o → h2.get? b = some o := fun b o hb q=>by rw [← hh2]; exact Heap.get?_push_of_some _ ((sA.2 b hb).trans q)
 refine wpAny_bind (wpAny_isInstance (T := "StopIteration") ⟨_,Heap.get?_push_size _ rfl,rfl⟩ AB4 ?_)
 rw [if_pos rfl]
 exact wpAny_pure (h _ fun b o hb q=>Heap.get?_push_of_some _ (k2 b o hb q))
theorem vT {v d : Addr} {o : Obj} {es : Array DictEntry} {ep : Nat} {Q : Value → Shared → Prop} (hv : s.heap.IsItemsView v d) (hd : s.heap.get? d = some o) (hdd : o.data = .dict es ep)
  (h : Q (.ref s.heap.objs.size) { s with heap := s.heap.push (R5 d 0 es.size ep .none (.bool false) .none .none) }) : wpAny (model prog w) A (pyIter (.ref v)) Q E s := by
 obtain ⟨ov,ho,hc,hdat⟩ := hv
 have hT : s.TypeIs (.ref v) "dict_items" := ⟨ov,ho,hc⟩
 refine wpAny_pyIter_slot hT PySem.F.slot_dict_items_iter (wpAny_call_entry PySem.F.slot_dict_items_iter hT PySem.F.entry_dict_items_iter ?_ (PySem.F.args_dict_items_iter_1 _))
 unfold Builtin.«dict_items.__iter__»
 refine wpAny_bind ?_
 unfold Builtin.Dict_items.slot0
 refine wpAny_bind (wpAny_pure (wpAny_pure ?_))
 refine wpAny_bind (wpAny_bind (wpAny_field ho hdat rfl (wpAny_pure ?_)))
 refine wpAny_bind (wpAny_bind (wpAny_dictEntries hd hdd (wpAny_bind (wpAny_dictEpoch hd hdd (wpAny_newObj_type ?_ (by show (8 : Nat) ≤ sizeLine + 2; decide))))))
 exact wpAny_pure ⟨_,rfl,"dict_itemiterator",_,⟨_,Heap.get?_push_size _ rfl,rfl⟩,PySem.F.slot_dict_itemiterator_next.lookup,h⟩
theorem rP : splitId "dict_items.__len__" = some ("dict_items","__len__") := by decide +kernel
theorem xC : isSubtype (.type "dict_items") (.type "dict_items") = pure true := by kernel_rfl
theorem vV {v d : Addr} {Q : Bool → Shared → Prop} (hv : s.heap.IsItemsView v d) (h : Q false s) : wpAny (model prog w) A (Builtin.List.listLengthHint (.ref v)) Q E s := by
 obtain ⟨ov,ho,hc,hdat⟩ := hv
 have hT : s.TypeIs (.ref v) "dict_items" := ⟨ov,ho,hc⟩
 unfold Builtin.List.listLengthHint
 refine wpAny_bind (wpAny_specialOf hT PySem.F.slot_dict_items_len.lookup ?_)
 simp only [rP]
 refine wpAny_bind (wpAny_isInstance hT xC ?_)
 rw [if_neg (by decide)]
 rw [if_pos (by decide +kernel)]
 exact wpAny_bind (wpAny_typeOf hT (wpAny_pure h))
end
section
variable {X : Cx} {pins : List (Addr × Obj)} {σ : St}
theorem zG {H : Hp} {b N : Addr} {o : HO} (f : S8 X pins H b) (n : b ≠ N) : S8 X pins (upd H N o) b := by
 obtain ⟨f0,r⟩ := f
 exact ⟨by rw [B7 n]; exact f0,r⟩
def bO (d v : Addr) : HO := .ext fun h=>h.IsItemsView v d
theorem AK4 {H : Hp} {s : Shared} {d v : Addr} (I : Inv X pins σ H s) (h : H v = some (bO d v)) : s.heap.IsItemsView v d := (show ObjOk X.prog X.w H s.heap v (bO d v) from I.hok v _ h).1
end
end L2
namespace L2
open PySem PySem.Spec PyProof.Rows HS
theorem AE3 {a b : Str} (h1 : T5 b a = false) (h2 : T5 a b = false) : a = b := by
 have z1 : a.cps.toList ≤ b.cps.toList := of_decide_eq_false h1
 have z2 : b.cps.toList ≤ a.cps.toList := of_decide_eq_false h2
 have e : a.cps.toList = b.cps.toList := List.le_antisymm z1 z2
 obtain ⟨x⟩ := a
 obtain ⟨y⟩ := b
 have : x = y := Array.toList_inj.mp e
 rw [this]
section
variable {prog : Program} {w : World} {A : Around} {E : Value → Shared → Prop} {s : Shared}
end
end L2
namespace L2
open PySem PySem.Spec PyProof.Rows
section
variable {prog : Program} {w : World} {A : Around} {E : Value → Shared → Prop} {s : Shared}
end
section
variable {X : Cx}
theorem AQ3 : bootBuiltins "reversed" = some (.type "reversed") := by decide +kernel
end
end L2
namespace L2
open PySem PySem.Spec PyProof.Rows
section
variable {X : Cx}
theorem lY : ∀ {xs : List V} {us vs : List Value},(∀ x ∈ xs,∃ a,x = .ref a) → Vals xs us → Vals xs vs → us = vs
 | [],_,_,_,.nil,.nil=>rfl
 | x :: xs,_,_,h,.cons r rr,.cons q qq=>by
  obtain ⟨a,rfl⟩ := h x List.mem_cons_self
  cases r
  cases q
  rw [lY (fun y hy=>h y (List.mem_cons_of_mem _ hy)) rr qq]
def BE7 : R2 := fun x y H Q=>∃ a b xs,x = .ref a ∧ y = .ref b ∧ H a = some (.lst xs) ∧ H b = some (.lst xs) ∧ (∀ x ∈ xs,∃ a,x = .ref a) ∧ Q (.bl false) H
theorem xZ (hu : X.A.units + 64 < cLine) : Q1 X (compareOp .NotEq) BE7 := by
 intro pins s σ H x y v u Q I rx ry h
 obtain ⟨a,b,xs,rfl,rfl,ha,hb,hr,q⟩ := h
 cases rx
 cases ry
 obtain ⟨its,rv,p,_⟩ := I.list (SqL.of (K := X.K) ha)
 obtain ⟨its2,rv2,p2,_⟩ := I.list (SqL.of (K := X.K) hb)
 have e := lY hr rv rv2
 subst e
 refine PySem.SeqAt.RcNeAt.lists (e := fun _=>true) p.isList p2.isList rfl (by omega) (fun j h1 h2=>PySem.SeqAt.EqAt.same _) _ _ _ _ ⟨.bl _,H,I,rfl,?_⟩
 have e : (!(List.range its.toArray.size).all fun _=>true) = false := by simp
 rw [e]
 exact q
end
end L2
namespace L2
open PySem PySem.Spec PyProof.Rows
section
variable {X : Cx}
theorem aF : S3 X (.type "int") (fun xs H Q=>∃ b,xs = [.bl b] ∧ Q (.int (if b then 1 else 0)) H) := by
 intro pins s σ H xs us Q I r h
 obtain ⟨b,rfl,q⟩ := h
 obtain ⟨u,rfl,ru⟩ := dQ r
 cases (show u = Value.bool b from ru)
 exact call_int_bool ⟨.int _,H,I.tok _,⟨_,rfl⟩,q⟩
end
end L2
namespace L2
open PySem PySem.Spec PyProof.Rows
section
variable {X : Cx}
def BG2 (X : Cx) (ss : List Stmt) : TS := fun D σ H=>∃ t,PSs X ss t ∧ t D σ H
theorem lH {ss : List Stmt} : PSs X ss (BG2 X ss) := fun pins s σ H D I ⟨_,h,g⟩=>h pins s σ H D I g
end
end L2
namespace L2
open PySem PySem.Spec PyProof.Rows PySem.W
def Ext (h h' : Heap) : Prop := ∀ b o,h.get? b = some o → h'.get? b = some o
theorem Ext.trans {a b c : Heap} (x : Ext a b) (y : Ext b c) : Ext a c := fun q o e=>y q o (x q o e)
def wC (params : Arguments) (body : Expr) (scope : Scope) : Prop :=
 ∃ (x : Str) (p1 p2 p3 : Pos) (n : Nat),body = .Subscript (.Name x p1) (.Constant (.int 0) n p2) p3 ∧ scope.names = [(x,.local)] ∧ scope.kind = .function ∧ scope.isCoroutine = false ∧ scope.isGenerator = false ∧ (x == ("__debug__" : Str)) = false ∧
  ∀ (name qual : Str) (cl : List (Str × Addr)) (pm cdv ct : Value) (v : Value),bindArgs (kla_fn name qual params body scope cl pm cdv ct) ⟨[v],[]⟩ = pure [(x,v)]
section
variable {prog : Program} {w : World} {A : Around} {s : Shared}
theorem AF0 {f c' t : Addr} {name qual : Str} {params : Arguments} {body : Expr} {scope : Scope} {pm ctv : Value} {its : Array Value} {u : Value} (L : wC params body scope)
  (hf : s.heap.get? f = some (kla_obj name qual params body scope [] pm c' ctv)) (hcd : s.heap.CodeRec (.ref c') qual) (lim : s.heap.NoLimit) (hroom : A.depth < recursionLimit) (ht : IsTup s.heap t its) (hu : its[0]? = some u) :
  wpAny (model prog w) A (call (.ref f) [.ref t]) (fun v s'=>v = u ∧ ∃ h' tk,s' = { s with heap := h',toks := tk } ∧ Ext s.heap h') (fun _ _=>False) s := by
 obtain ⟨x,p1,p2,p3,n,rfl,hn,hk,hco,hgen,hdb,hb⟩ := L
 refine wpAny_call (kla_callFunE hroom hf rfl hco hgen rfl hcd ?_)
 rw [hb]
 have hl : scope.names.lookup x = some .local := by rw [hn]; simp
 refine wpAny_pure (wpAny_newFunctionEnv (fun y hy=>?_) (fun y hy=>?_) (fun h₁ hns hsb=>⟨lim.fresh _ hsb,?_⟩) hk)
 ·rw [hn] at hy; rw [List.mem_singleton.mp hy]; exact nofun
 ·rw [List.mem_singleton.mp hy]; exact hl
 have hk₁ : Ext s.heap h₁ := fun b o e=>hsb.extBut b o (Nat.ne_of_lt (Heap.lt_size e)) (Heap.get?_push_of_some _ e)
 refine kla_codeExpr ?_
 refine Subscript_ (wpAny_Name (wpAny_loadName_local (v := .ref t) hk hl hns (by simp) ?_) hdb)
 refine wpAny_Constant_int ?_
 have ht₁ : IsTup h₁ t its := ht.keeps hk₁
 refine subscriptTail_builtinR (x := u) ht₁.typeIs slot_tuple_getitem.lookup (getItem_tuple (j := 0) ht₁ (by decide) (by decide) ?_ hu ⟨rfl,rfl,h₁,_,rfl,hk₁⟩)
 have : 0 < its.size := by
  rcases Nat.lt_or_ge 0 its.size with h | h
  ·exact h
  ·rw [Array.getElem?_eq_none h] at hu; cases hu
 unfold seqIndex?
 simp [this]
end
end L2
namespace L2
open PySem PySem.Spec PyProof.Rows PySem.W
def rJ (ks : List Str) (vs out : List Value) : Prop := ∃ ps : List (Str × Value),ps.Perm (ks.zip vs) ∧ out = ps.map Prod.snd ∧ ps.Pairwise fun p q=>T5 p.1 q.1 = false
theorem Ext.but {h₀ h h' : Heap} {a : Addr} (x : Ext h₀ h) (n : h₀.get? a = none) (hs : Heap.SameBut a h h') : Ext h₀ h' := fun b o e=>(hs.2 b fun z=>by rw [z,n] at e; cases e).trans (x b o e)
section
variable {prog : Program} {w : World} {A : Around} {E : Value → Shared → Prop} {s : Shared} {h₀ : Heap} {a kS : Addr} {vs : List Value} {ks : List Str} {keys : Array Value} {e e1 : Nat} {P : PySem.Fin → Shared → Prop}
theorem oY {st : SortSt} (hx : Ext h₀ s.heap) (na : h₀.get? a = none) (nk : h₀.get? kS = none) (hka : kS ≠ a) (hk : s.heap.get? kS = some (seqObj "list" keys e)) (ha : s.heap.get? a = some (seqObj "list" #[] e1)) (z1 : keys.size < 64) (z2 : (arrOf st).size < 64) (hf : failedOf st = none)
  (h : ∀ h' c,Ext h₀ h' → h'.get? a = some (seqObj "list" ((arrOf st).map (·.2)).reverse c) → P (.done (.ret .none)) { s with heap := h' }) : wpAny (model prog w) A (ksk_tail a true e1 (.ref kS) st) P E s := by
 have k1 := Heap.SameBut.update s.heap kS (Obj.mapSeq fun _=>(#[] : Array Value))
 have ha1 := (k1.2 a hka.symm).trans ha
 have k2 := Heap.SameBut.update (s.heap.update kS (Obj.mapSeq fun _=>(#[] : Array Value))) a (Obj.mapSeq fun _=>((arrOf st).map (·.2)).reverse)
 have ha2 := get?_update_seq ha1 fun _=>((arrOf st).map (·.2)).reverse
 have zo : ((arrOf st).map (·.2)).reverse.size < 64 := by rw [Array.size_reverse,Array.size_map]; exact z2
 unfold ksk_tail
 dsimp only
 refine wpAny_bind (listUpdate_at hk rfl (wpAny_bind (wpAny_letGo (wpAny_bind (seqEpoch_at ha1 rfl (wpAny_bind (listUpdate_at ha1 rfl ?_ (Nat.zero_le _) (by rw [if_pos rfl,sizeLine_eq]; omega))))))) (by rw [sizeLine_eq]; omega) (Nat.zero_le _))
 rw [hf]
 simp only [bne_self_eq_false,Bool.false_eq_true,if_false]
 exact wpAny_pure (h _ _ ((hx.but nk k1).but na k2) ha2)
theorem AB5 (hk : StrsAre keys.toList ks) : ∀ p ∈ (keys.zip vs.toArray).toList,∃ x t,p.1 = Value.str x t := fun p hp=>by
 rw [ksk_zip] at hp
 exact hk.all _ (List.of_mem_zip (show (p.1,p.2) ∈ _ from hp)).1
theorem sF (hk : StrsAre keys.toList ks) {xs : Array Keyed} (hp : xs.Perm (keys.zip vs.toArray)) (hs : SortedToK strKind xs xs.size) : rJ ks vs (xs.map (·.2)).reverse.toList := by
 have hl : xs.toList.Perm (keys.toList.zip vs) := by rw [← ksk_zip]; exact Array.perm_iff_toList_perm.mp hp
 have st : ∀ p ∈ xs.toList,∃ x t,p.1 = Value.str x t := fun p h=>hk.all _ (List.of_mem_zip (show (p.1,p.2) ∈ _ from hl.mem_iff.mp h)).1
 refine ⟨(xs.toList.map fun p : Keyed=>(strOf p.1,p.2)).reverse,(List.reverse_perm _).trans ?_,?_,?_⟩
 ·have e2 : (keys.toList.zip vs).map (fun p : Keyed=>(strOf p.1,p.2)) = ks.zip vs := by
   rw [← hk.strs,List.zip_map_left]
   exact List.map_congr_left fun q _=>rfl
  exact e2 ▸ hl.map fun p : Keyed=>(strOf p.1,p.2)
 ·rw [Array.toList_reverse,Array.toList_map,List.map_reverse,List.map_map]
  rfl
 ·rw [List.pairwise_reverse,List.pairwise_iff_getElem]
  intro i j hi hj hij
  have hi' : i < xs.size := by simpa using hi
  have hj' : j < xs.size := by simpa using hj
  have q := hs i j (Nat.le_of_lt hij) hj'
  obtain ⟨x,t,ex⟩ := st xs[i] (by simp)
  obtain ⟨y,u,ey⟩ := st xs[j] (by simp)
  rw [KK_str hi' (x := x) (t := t) (q := xs[i].2) (Prod.ext ex rfl),KK_str hj' (x := y) (t := u) (q := xs[j].2) (Prod.ext ey rfl)] at q
  simp only [List.getElem_map,Array.getElem_toList,ex,ey]
  exact q
theorem AL4 (hx : Ext h₀ s.heap) (na : h₀.get? a = none) (nk : h₀.get? kS = none) (hka : kS ≠ a) (hk : s.heap.get? kS = some (seqObj "list" keys e)) (ha : s.heap.get? a = some (seqObj "list" #[] e1)) (hS : StrsAre keys.toList ks) (hl : ks.length = vs.length) (h64 : vs.length < 64)
  (h : ∀ h' tk out c,Ext h₀ h' → h'.get? a = some (seqObj "list" out c) → rJ ks vs out.toList → P (.done (.ret .none)) { s with heap := h',toks := tk }) : wpAny (model prog w) A (ksk_end a true vs.toArray e1 (.ref kS) keys) P E s := by
 have kz : keys.size = vs.length := by
  have := hS.strs
  have h2 := congrArg List.length this
  rw [List.length_map,Array.length_toList] at h2
  omega
 have hz : (keys.zip vs.toArray).size = vs.length := by rw [Array.size_zip,kz,List.size_toArray,Nat.min_self]
 have hr : (keys.zip vs.toArray).reverse.Perm (keys.zip vs.toArray) := Array.perm_iff_toList_perm.mpr (by rw [Array.toList_reverse]; exact List.reverse_perm _)
 unfold ksk_end
 dsimp only
 rw [if_pos rfl]
 refine wpAny_bind (wpAny_rule ?_)
 by_cases h2 : vs.toArray.size < 2
 ·rw [if_pos h2,if_pos h2]
  refine wpAny_bind (wpAny_pure ?_)
  rw [StateT.run_pure]
  refine wpAny_bind (wpAny_pure ?_)
  dsimp only
  have z0 : (keys.zip vs.toArray).reverse.size < 2 := by rw [hr.size_eq,hz]; simpa using h2
  refine oY (st := SortSt.mk' general' (if true = true then (keys.zip vs.toArray).reverse else keys.zip vs.toArray) #[] 7 none) hx na nk hka hk ha (by omega) (by show (keys.zip vs.toArray).reverse.size < 64; omega) rfl fun h' c x1 x2=>h h' s.toks _ c x1 x2 (sF hS hr fun i j hij hj=>?_)
  have hj : j < (keys.zip vs.toArray).reverse.size := hj
  have : i = j := by omega
  subst this
  exact KeyOrd.kle_refl _
 ·rw [if_neg h2,if_neg h2]
  rw [List.size_toArray] at h2
  obtain ⟨v₁,v₂,rest,ek⟩ : ∃ v₁ v₂ rest,keys.toList = v₁ :: v₂ :: rest := by
   have q : 2 ≤ keys.toList.length := by rw [Array.length_toList]; omega
   match keys.toList,q with
   | v₁ :: v₂ :: rest,_=>exact ⟨v₁,v₂,rest,rfl⟩
  have ek2 : keys = (v₁ :: v₂ :: rest).toArray := by rw [← ek,Array.toArray_toList]
  have hkk : keyKind' keys = pure oneType' := by
   rw [ek] at hS
   rw [ek2]
   exact keyKind_strs hS
  rw [hkk]
  refine wpAny_bind (wpAny_pure ?_)
  refine wpAny_bind (wpAny_mono (wpS_sortRunsK (κ := strKind) strKind_oneLt (a₀ := keys.zip vs.toArray) (st := SortSt.mk' oneType' (if true = true then (keys.zip vs.toArray).reverse else keys.zip vs.toArray) #[] 7 none)
   (Q := fun _ st'=>(arrOf st').Perm (keys.zip vs.toArray) ∧ failedOf st' = none ∧ SortedToK strKind (arrOf st') (keys.zip vs.toArray).size)
   (fun p hp=>?_) ⟨hr,rfl,rfl,rfl⟩ (by omega) (by omega) fun st' a1 a2 a3=>⟨a1,a2,a3⟩) ?_ fun _ _ e=>e)
  ·obtain ⟨x,t,ex⟩ := AB5 hS p hp
   exact ⟨x.cps.toList,by rw [ex]⟩
  rintro ⟨⟨⟩,st'⟩ s' ⟨rfl,hp,hf,hs⟩
  dsimp only
  have zz : (arrOf st').size = vs.length := by rw [hp.size_eq,hz]
  exact oY hx na nk hka hk ha (by omega) (by omega) hf fun h' c x1 x2=>h h' _ _ c x1 x2 (sF hS hp (by rw [hp.size_eq]; exact hs))
def lV (s : Shared) (h : Heap) (k : Str) (v : Value) (s' : Shared) : Prop := (∃ t,v = .str k t) ∧ ∃ h' tk,s' = { s with heap := h',toks := tk } ∧ Ext h h'
theorem mD {x : Str} {t : Tok} : ∀ {us : List Value} {ss : List Str},StrsAre us ss → StrsAre (us ++ [.str x t]) (ss ++ [x])
 | _,_,.nil=>.cons x t .nil
 | _,_,.cons y u h=>.cons y u (mD h)
theorem AB7 {f : Value} (hx : Ext h₀ s.heap) (na : h₀.get? a = none) (nk : h₀.get? kS = none) (hka : kS ≠ a) (hk : s.heap.get? kS = some (seqObj "list" #[] 0)) (ha : s.heap.get? a = some (seqObj "list" #[] e1)) (hl : ks.length = vs.length) (h64 : vs.length < 64)
  (turn : ∀ (i : Nat) (v : Value) (k : Str),vs[i]? = some v → ks[i]? = some k → ∀ (h : Heap) (tk : Nat),Ext h₀ h → wpAny (model prog w) A (call f [v]) (lV s h k) (fun _ _=>False) { s with heap := h,toks := tk })
  (h : ∀ h' tk out c,Ext h₀ h' → h'.get? a = some (seqObj "list" out c) → rJ ks vs out.toList → P (.done (.ret .none)) { s with heap := h',toks := tk }) : wpAny (model prog w) A (ksk_rest a f true vs.toArray e1 (.ref kS)) P E s := by
 unfold ksk_rest
 refine wpAny_bind (wpAny_rule ?_)
 rw [List.forIn_toArray]
 refine wpAny_bind (ksk_fold (fun i s'=>∃ h' tk kA e,s' = { s with heap := h',toks := tk } ∧ Ext h₀ h' ∧ h'.get? kS = some (seqObj "list" kA e) ∧ h'.get? a = some (seqObj "list" #[] e1) ∧ StrsAre kA.toList (ks.take i)) vs 0 s
  ⟨s.heap,s.toks,#[],0,rfl,hx,hk,ha,by simpa using StrsAre.nil⟩ (fun j x s' hj ⟨h',tk,kA,e,es,x1,x2,x3,x4⟩=>?_) (fun s' ⟨h',tk,kA,e,es,x1,x2,x3,x4⟩=>?_))
 ·subst es
  rw [Nat.zero_add] at x4 ⊢
  have hj' : j < vs.length := (List.getElem?_eq_some_iff.mp hj).1
  have ekj : ks[j]? = some ks[j] := List.getElem?_eq_getElem (by omega)
  have zA : kA.size = j := by
   have h2 := congrArg List.length x4.strs
   rw [List.length_map,Array.length_toList,List.length_take] at h2
   omega
  refine wpAny_bind (wpAny_attempt (wpAny_mono (turn j x _ hj ekj h' tk x1) (fun v s'' hd=>?_) fun _ _ z=>z.elim))
  obtain ⟨⟨t,rfl⟩,h2,tk2,rfl,y1⟩ := hd
  dsimp only
  have k1 := Heap.SameBut.update h2 kS (Obj.mapSeq (·.push (Value.str ks[j] t)))
  refine wpAny_bind (listUpdate_at (y1 _ _ x2) rfl ?_ (by rw [sizeLine_eq]; omega) (by rw [Array.size_push,sizeLine_eq]; omega))
  refine wpAny_pure ⟨rfl,_,_,_,_,rfl,(x1.trans y1).but nk k1,get?_update_seq (y1 _ _ x2) (·.push (Value.str ks[j] t)),(k1.2 a hka.symm).trans (y1 _ _ x3),?_⟩
  rw [Array.toList_push,List.take_add_one,ekj]
  exact mD x4
 ·subst es
  rw [Nat.zero_add,List.take_of_length_le (by omega)] at x4
  refine wpAny_bind (listItems_at x2 rfl ?_)
  exact AL4 (s := { s with heap := h',toks := tk }) x1 na nk hka x2 x3 x4 hl h64 fun h3 tk3 out c y1 y2 y3=>h h3 tk3 out c y1 y2 y3
theorem AB6 {f : Value} {n : Nat} (hx : Ext h₀ s.heap) (na : h₀.get? a = none) (h0 : h₀.objs.size ≤ s.heap.objs.size) (ho : s.heap.get? a = some (seqObj "list" vs.toArray n)) (hl : ks.length = vs.length) (h64 : vs.length < 64)
  (turn : ∀ (i : Nat) (v : Value) (k : Str),vs[i]? = some v → ks[i]? = some k → ∀ (h : Heap) (tk : Nat),Ext h₀ h → wpAny (model prog w) A (call f [v]) (lV s h k) (fun _ _=>False) { s with heap := h,toks := tk })
  (h : ∀ h' tk out c,Ext h₀ h' → h'.get? a = some (seqObj "list" out c) → rJ ks vs out.toList → P (.done (.ret .none)) { s with heap := h',toks := tk }) : wpAny (model prog w) A (ksk_tree a f true) P E s := by
 have hlt : a < s.heap.objs.size := Heap.lt_size ho
 have k1 := Heap.SameBut.update s.heap a (Obj.mapSeq fun _=>(#[] : Array Value))
 have ho1 := get?_update_seq ho fun _=>(#[] : Array Value)
 have sz : ((s.heap.update a (Obj.mapSeq fun _=>(#[] : Array Value))).push (seqObj "tuple" vs.toArray 0)).objs.size = s.heap.objs.size + 1 := by rw [size_push',Heap.size_update]
 unfold ksk_tree
 refine wpAny_bind (listItems_at ho rfl (wpAny_bind (listUpdate_at ho rfl ?_ (by rw [List.size_toArray,sizeLine_eq]; omega) (Nat.zero_le _))))
 refine wpAny_bind (seqEpoch_at ho1 rfl (wpAny_bind (wpAny_newTuple ?_ (by show vs.length ≤ _; rw [sizeLine_eq]; omega))))
 refine wpAny_bind (wpAny_newList (wpAny_holding ?_) (Nat.zero_le _))
 have x1 : Ext h₀ (((s.heap.update a (Obj.mapSeq fun _=>(#[] : Array Value))).push (seqObj "tuple" vs.toArray 0)).push (seqObj "list" #[] 0)) := fun b o q=>Heap.get?_push_of_some _ (Heap.get?_push_of_some _ (hx.but na k1 b o q))
 exact AB7 (s := { s with heap := ((s.heap.update a (Obj.mapSeq fun _=>(#[] : Array Value))).push (seqObj "tuple" vs.toArray 0)).push (seqObj "list" #[] 0) }) (kS := ((s.heap.update a (Obj.mapSeq fun _=>(#[] : Array Value))).push (seqObj "tuple" vs.toArray 0)).objs.size)
  x1 na (Heap.get?_none_of_le (Nat.le_trans h0 (by rw [sz]; exact Nat.le_succ _))) (Nat.ne_of_gt (Nat.lt_of_lt_of_le hlt (by rw [sz]; exact Nat.le_succ _))) (Heap.get?_push_size _ rfl) (Heap.get?_push_of_some _ (Heap.get?_push_of_some _ ho1)) hl h64 turn h
end
section
variable {prog : Program} {w : World} {A : Around} {E : Value → Shared → Prop} {s : Shared} {l q : Addr} {vs : List Value} {ks : List Str} {Q : Value → Shared → Prop}
theorem uW (hl : s.heap.IsList l vs.toArray) (hn : ks.length = vs.length) (h64 : vs.length < 64)
  (turn : ∀ (i : Nat) (v : Value) (k : Str),vs[i]? = some v → ks[i]? = some k → ∀ (h : Heap) (tk : Nat),Ext s.heap h → wpAny (model prog w) A.in1.in1 (call (.ref q) [v]) (lV s h k) (fun _ _=>False) { s with heap := h,toks := tk })
  (h : ∀ D h' tk out c,Ext s.heap h' → s.heap.objs.size ≤ D → h'.get? D = some (seqObj "list" out c) → rJ ks vs out.toList → Q (.ref D) { s with heap := h',toks := tk }) :
  wpAny (model prog w) A (call (.builtin "sorted") [.ref l] [(Str.ofString "key",.ref q),(Str.ofString "reverse",.bool true)]) Q E s := by
 refine call_function_entry_kw kind_sorted plain_sorted entry_sorted (ksk_s2 _ _ _) ?_
 unfold Builtin.«sorted»
 refine wpAny_bind (m := checkCount "sorted" 1 1 _) (wpAny_pure (wpAny_bind (collect_list hl ?_ (by rw [sizeLine_eq]; omega))))
 refine wpAny_bind (wpAny_newList ?_ (by rw [sizeLine_eq]; omega))
 have sz : ((s.heap.push (seqObj "list" #[] 0)).update s.heap.objs.size (Obj.mapSeq (· ++ vs.toArray))).objs.size = s.heap.objs.size + 1 := by rw [Heap.size_update,size_push']
 have hoL : (((s.heap.push (seqObj "list" #[] 0)).update s.heap.objs.size (Obj.mapSeq (· ++ vs.toArray))).push (seqObj "list" vs.toArray 0)).get? (s.heap.objs.size + 1) = some (seqObj "list" vs.toArray 0) := by rw [← sz]; exact Heap.get?_push_size _ rfl
 have x1 : Ext s.heap (((s.heap.push (seqObj "list" #[] 0)).update s.heap.objs.size (Obj.mapSeq (· ++ vs.toArray))).push (seqObj "list" vs.toArray 0)) := fun b o z=>by
  have hlt : b < s.heap.objs.size := Heap.lt_size z
  rw [Heap.get?_push_ne _ _ _ (by rw [sz]; exact Nat.ne_of_lt (Nat.lt_succ_of_lt hlt)),Heap.get?_update_ne _ _ _ _ (Nat.ne_of_lt hlt),Heap.get?_push_ne _ _ _ (Nat.ne_of_lt hlt)]
  exact z
 show wpAny _ _ _ _ _ { s with heap := ((s.heap.push (seqObj "list" #[] 0)).update s.heap.objs.size (Obj.mapSeq (· ++ vs.toArray))).push (seqObj "list" vs.toArray 0) }
 rw [sz]
 refine wpAny_bind (wpAny_holding (wpAny_call_entry_kw slot_list_sort ⟨_,hoL,rfl⟩ entry_list_sort ?body (ksk_l2 _ _ _)))
 case body =>
  show wpAny (model prog w) A.in1.in1 (Builtin.«list.sort» ⟨[.ref (s.heap.objs.size + 1)],_⟩) _ _ _
  rw [ksk_t2]
  refine AB6 (h₀ := s.heap) x1 (Heap.get?_none_of_le (by omega)) (by show s.heap.objs.size ≤ (Heap.push _ _).objs.size; rw [size_push',sz]; omega) hoL hn h64 turn fun h' tk out c y1 y2 y3=>?_
  exact ⟨_,rfl,wpAny_pure ⟨_,rfl,h _ h' tk out c y1 (by omega) y2 y3⟩⟩
end
end L2
namespace L2
open PySem PySem.Spec PyProof.Rows PySem.W
def aK (T : Addr) (ps : Array Value) : HO := .ext fun h=>h.get? T = some (tabObj ps)
def AY7 (c : Addr) (qual : Str) : HO := .ext fun h=>h.CodeRec (.ref c) qual
structure TabH (H : Hp) (T : Addr) (pos : Pos) (qual : Str) : Prop where
 ex : ∃ ps,H T = some (aK T ps) ∧ TriplesOk ps.toList ∧ (codeAmong pos ps.toList = none ∨ ∃ c',codeAmong pos ps.toList = some (.ref c') ∧ H c' = some (AY7 c' qual))
theorem TabH.same {H H' : Hp} {T : Addr} {pos : Pos} {qual : Str} (h : TabH H T pos qual) (g : Same H H') : TabH H' T pos qual := by
 obtain ⟨ps,h1,h2,h3⟩ := h.ex
 refine ⟨ps,g _ _ h1,h2,?_⟩
 rcases h3 with h3 | ⟨c,h3,h4⟩
 ·exact .inl h3
 ·exact .inr ⟨c,h3,g _ _ h4⟩
theorem oP {c : Value} {pos : Pos} : ∀ (l : List Value),TriplesOk l → TriplesOk (l ++ [rawInt pos.line,rawInt pos.col,c]) := fun l h=>by
 fun_induction TriplesOk l with
 | case1=>simp [TriplesOk,rawInt]
 | case2 a b c d e rest ih=>simpa [TriplesOk] using ih h
 | case3=>exact h.elim
section
variable {X : Cx} {pins : List (Addr × Obj)} {σ : St} {H : Hp} {s : Shared}
theorem Inv.trackO {S : Addr} {o : HO} (I : Inv X pins σ H s) (f : S8 X pins H S) (hx : ObjOk X.prog X.w (upd H S o) s.heap S o) : Inv X pins σ (upd H S o) s := by
 obtain ⟨f0,f1,f2,f3,f4,f5⟩ := f
 exact I.step (h' := s.heap) (H' := upd H S o) (g' := s.gens) (t' := s.toks) (d' := s.drawn) (ch := [S]) (fun b hb=>by
   rw [List.mem_singleton.mp hb]
   exact ⟨f3,f1,f4,f5⟩) (fun b o _ _ _ e _=>e) (fun b o _ _ _ e _=>⟨o.slots,e⟩) (fun b o hb _ n=>by rw [B7 (by simpa using hb)]; exact n) (fun b o _ e=>⟨o,e⟩)
  (fun b ys e=>by rw [B7 (E6 e f0)]; exact e) (fun b o u e=>by rw [B7 (E6 e f0)]; exact e) (fun b ps e=>⟨#[],by rw [B7 (E6 e f0),e]; simp⟩) (fun m hm=>hm) (fun b u e=>by
   by_cases hb : b = S
   ·subst hb
    rw [A5] at e
    cases e
    exact hx
   ·rw [B7 hb] at e
    exact (I.hok b u e).stay (fun c v _ q=>q) (fun c q=>by rw [B7 (E6 q f0)]; exact q) fun c ys q=>by rw [B7 (E6 q f0)]; exact q) I.bare
theorem eI {h1 h2 : Heap} {c : Addr} {q : Str} (r : h1.CodeRec (.ref c) q) (k : ∀ o,h1.get? c = some o → h2.get? c = some o) : h2.CodeRec (.ref c) q := by
 obtain ⟨c',o,vs,t,e,e1,e2,e3⟩ := r
 cases e
 exact ⟨c,o,vs,t,rfl,k _ e1,e2,e3⟩
theorem xL {h : Heap} {c : Addr} {q : Str} (r : h.CodeRec (.ref c) q) : ∃ o,h.get? c = some o := by
 obtain ⟨c',o,vs,t,e,e1,_⟩ := r
 cases e
 exact ⟨o,e1⟩
theorem AE9 {E : Value → Shared → Prop} {A : Around} {T c : Addr} {pos : Pos} {params : Arguments} {body : Expr} {scope : Scope} {Q : Value → Shared → Prop} (I : Inv X pins σ H s) (hT : TabH H T pos (X.env.qual ++ "<lambda>")) (hcode : X.env.code = .ref c) (C : CodeHd X.base c T) (B : X.base.BuiltinsAt X.mg T)
  (hcl : closureFor scope X.env = pure []) (hdef : defaultsOf params X.env = ([],[]))
  (h : ∀ f c' pm ctv h' tk H',(∀ b o,b ≠ T → H b = some o → H' b = some o) → TabH H' T pos (X.env.qual ++ "<lambda>") → Inv X pins σ H' { s with heap := h',toks := tk } → h'.get? f = some (kla_obj "<lambda>" (X.env.qual ++ "<lambda>") params body scope [] pm c' ctv) → h'.CodeRec (.ref c') (X.env.qual ++ "<lambda>") → Q (.ref f) { s with heap := h',toks := tk }) :
  wpAny (model X.prog X.w) A (eval (.Lambda params body scope pos) X.env) Q E s := by
 obtain ⟨ps,hH,tr,hc⟩ := hT.ex
 obtain ⟨hP,⟨_,_⟩,_⟩ := I.hok T _ hH
 have hg := I.mod.glob.keeps I.bk
 have CH := C.keeps I.bk
 have BH := B.keeps I.bk
 refine kla_eval hdef ?_
 rcases hc with hn | ⟨c',hf,hc'⟩
 ·have hgT : mainGlobals ≠ T := fun q=>by
   obtain ⟨o,es,ep,e,hd,_⟩ := hg
   rw [q,hP] at e; cases e; cases hd
  refine kla_makeFunction (mg := X.mg) hcl I.ok.glob hg hcode CH hP tr hn hgT BH fun c' ctv h' tk hx hge hlt hrec htb=>?_
  have k1 : ∀ b u,b ≠ T → s.heap.get? b = some u → (h'.push (kla_obj "<lambda>" (X.env.qual ++ "<lambda>") params body scope [] ((X.mg "__name__").getD .none) c' ctv)).get? b = some u := fun b u hb e=>Heap.get?_push_of_some _ (hx b u hb e)
  have htb2 := Heap.get?_push_of_some (kla_obj "<lambda>" (X.env.qual ++ "<lambda>") params body scope [] ((X.mg "__name__").getD .none) c' ctv) htb
  have hrec2 : (h'.push (kla_obj "<lambda>" (X.env.qual ++ "<lambda>") params body scope [] ((X.mg "__name__").getD .none) c' ctv)).CodeRec (.ref c') (X.env.qual ++ "<lambda>") := eI hrec fun o e=>Heap.get?_push_of_some _ e
  have hc0 : H c' = none := I.hok.fresh hge
  have ncT : c' ≠ T := fun e=>by rw [e,hH] at hc0; cases hc0
  have I1 := I.write (x := T) (e := T) (t' := tk) (o := aK T (ps ++ #[rawInt pos.line,rawInt pos.col,.ref c'])) (by rw [hH]; exact True.intro) (.inl rfl) k1 ⟨_,htb2⟩ ⟨htb2,⟨_,htb2⟩,fun h1 h2 e k=>k _ e⟩
  have I2 := I1.trackO (S := c') (o := AY7 c' (X.env.qual ++ "<lambda>")) (I.fpOk hge (by rw [B7 ncT]; exact hc0)) ⟨hrec2,xL hrec2,fun h1 h2 e k=>eI e k⟩
  refine h _ c' _ ctv _ tk _ (fun b o hb e=>?_) ⟨_,by rw [B7 (Ne.symm ncT)]; exact A5,?_,.inr ⟨c',?_,A5⟩⟩ I2 (Heap.get?_push_size _ rfl) hrec2
  ·rw [B7 (E6 e hc0),B7 hb]; exact e
  ·rw [Array.toList_append]; exact oP _ tr
  ·rw [Array.toList_append]; exact codeAmong_snoc _ tr hn
 ·obtain ⟨hr,_⟩ := I.hok c' _ hc'
  refine kla_makeFunctionHit (mg := X.mg) hcl I.ok.glob hg hcode CH hP tr hf BH fun ctv h' tk hx hsz=>?_
  have k1 : ∀ b u,s.heap.get? b = some u → (h'.push { cls := .type "function",data := .func (kla_fn "<lambda>" (X.env.qual ++ "<lambda>") params body scope [] ((X.mg "__name__").getD .none) (.ref c') ctv) }).get? b = some u := fun b u e=>Heap.get?_push_of_some _ (hx b u e)
  exact h _ c' _ ctv _ tk H (fun b o _ e=>e) hT (I.kept (t' := tk) k1) (Heap.get?_push_size _ rfl) (eI hr fun o e=>k1 _ _ e)
end
theorem Z2 {α β : Type} {R : α → β → Prop} {l₂ l₂' : List β} (p : l₂.Perm l₂') : ∀ {l₁ : List α},Paired R l₁ l₂ → ∃ l₁',l₁'.Perm l₁ ∧ Paired R l₁' l₂' := by
 induction p with
 | nil=>intro l₁ h; exact ⟨l₁,.refl _,h⟩
 | cons x _ ih =>
  intro l₁ h
  cases h with
  | cons a b =>
   obtain ⟨l',p',h'⟩ := ih b
   exact ⟨_ :: l',p'.cons _,.cons a h'⟩
 | swap x y l =>
  intro l₁ h
  cases h with
  | cons a b =>
   cases b with
   | cons c d=>exact ⟨_ :: _ :: _,.swap _ _ _,.cons c (.cons a d)⟩
 | trans _ _ ih1 ih2 =>
  intro l₁ h
  obtain ⟨a,p1,h1⟩ := ih1 h
  obtain ⟨b,p2,h2⟩ := ih2 h1
  exact ⟨b,p2.trans p1,h2⟩
theorem mB : ∀ {xs : List V} {us : List Value} {i : Nat} {u : Value},Vals xs us → us[i]? = some u → ∃ x,xs[i]? = some x ∧ RelV x u
 | _,_,i,u,.nil,h=>by cases h
 | _,_,0,u,.cons r _,h=>by cases h; exact ⟨_,rfl,r⟩
 | _,_,i + 1,u,.cons _ t,h=>by
  rw [List.getElem?_cons_succ] at h
  obtain ⟨x,h1,h2⟩ := mB t h
  exact ⟨x,by rw [List.getElem?_cons_succ]; exact h1,h2⟩
def PkR (p : Str × V) (q : Str × Value) : Prop := p.1 = q.1 ∧ RelV p.2 q.2
theorem wJ : ∀ {ks : List Str} {xs : List V} {vs : List Value},Vals xs vs → Paired PkR (ks.zip xs) (ks.zip vs)
 | [],_,_,_=>by simpa using Paired.nil
 | _ :: _,_,_,.nil=>by simpa using Paired.nil
 | k :: ks,_,_,.cons r t=>.cons ⟨rfl,r⟩ (wJ t)
theorem sV : ∀ {ps : List (Str × V)} {qs : List (Str × Value)},Paired PkR ps qs → Vals (ps.map Prod.snd) (qs.map Prod.snd)
 | _,_,.nil=>.nil
 | _,_,.cons a b=>.cons a.2 (sV b)
theorem xS : ∀ {ps : List (Str × V)} {qs : List (Str × Value)},Paired PkR ps qs → ps.map Prod.fst = qs.map Prod.fst
 | _,_,.nil=>rfl
 | _,_,.cons a b=>by rw [List.map_cons,List.map_cons,a.1,xS b]
theorem pM {α : Type} {R : Str → Str → Prop} {ps : List (Str × α)} : ps.Pairwise (fun p q=>R p.1 q.1) ↔ (ps.map Prod.fst).Pairwise R := by rw [List.pairwise_map]
def AR1 (K : PySem.W.Frag) (T : Addr) (pos : Pos) (qual : Str) (ta : TA) : TE := fun σ H Q=>ta σ H fun vs H1=>∃ (a : Addr) (xs : List V) (ks : List Str),vs = [.ref a] ∧ H1 a = some (.lst xs) ∧ TabH H1 T pos qual ∧ ks.length = xs.length ∧ xs.length < 64 ∧
 (∀ (i : Nat) v k,xs[i]? = some v → ks[i]? = some k → ∃ t ys,v = .ref t ∧ SqT K H1 t (.str k :: ys)) ∧
 ∀ (H2 : Hp) (D : Addr) (ps : List (Str × V)),(∀ b o,b ≠ T → H1 b = some o → H2 b = some o) → TabH H2 T pos qual → H2 D = none → ps.Perm (ks.zip xs) → ps.Pairwise (fun p q=>T5 p.1 q.1 = false) → Q (.ref D) (upd H2 D (.lst (ps.map Prod.snd)))
theorem rE : bootBuiltins "sorted" = some (.builtin "sorted") := by decide +kernel
theorem AD0 {X : Cx} {T c : Addr} {e : Expr} {ta : TA} {params : Arguments} {body : Expr} {scope : Scope} {lpos p kp kp2 p2 pos : Pos} {j : Nat} (L : wC params body scope) (hcode : X.env.code = .ref c) (C : CodeHd X.base c T) (B : X.base.BuiltinsAt X.mg T) (hcl : closureFor scope X.env = pure [])
  (hdef : defaultsOf params X.env = ([],[])) (hdp : X.A.depth < recursionLimit) (hg : Gl X "sorted") (hm : X.mg "sorted" = none) (he : PA X [e] ta) (hs : starEach [e] X.env = [(false,eval e X.env)] := by rfl) :
  PE X (.Call (.Name "sorted" p) [e] [⟨some "key",.Lambda params body scope lpos,kp⟩,⟨some "reverse",.Constant (.bool true) j p2,kp2⟩] pos) (AR1 X.K T lpos (X.env.qual ++ "<lambda>") ta) := by
 intro pins s σ H Q I h
 refine wpAny_Call_Name_kw (aD I hg hm rE ?_)
 refine callWith_kw (J1 (he pos pins s σ H _ I h) fun us s1 ⟨vs,H1,I1,r1,a,xs,ks,ev,ha,hT,hl,h64,hk,q⟩=>?_) (by rw [hs]; rfl) (by rw [hs]; rfl)
 subst ev
 obtain ⟨u,rfl,ru⟩ := Vals.one r1
 cases ru
 refine kws_cons (AE9 I1 hT hcode C B hcl hdef fun f c' pm ctv h2 tk H2 g2 hT2 I2 hf hrec=>?_)
 refine kws_cons (Constant_bool (kws_nil ?_))
 have naT : a ≠ T := fun e=>by
  obtain ⟨ps,z,_⟩ := hT.ex
  rw [← e,ha] at z; cases z
 obtain ⟨z,its,n,rv,_,e1⟩ := I2.lstM (g2 a _ naT ha)
 have hln := rv.length
 refine uW (l := a) (q := f) (vs := its) (ks := ks) (PySem.IsL.isList e1) (by omega) (by omega) (fun i v k hv hki h3 tk3 x3=>?_) fun D h3 tk3 out cc x3 hD hg3 ho=>?_
 ·obtain ⟨x',hx',rx⟩ := mB rv hv
  obtain ⟨t,ys,rfl,hq⟩ := hk i x' k hx' hki
  have hq2 : SqT X.K H2 t (.str k :: ys) := hq.keep fun b u=>⟨fun w=>g2 b _ (fun e=>by obtain ⟨ps,z,_⟩ := hT.ex; rw [← e,w] at z; cases z) w,fun o w=>g2 b _ (fun e=>by obtain ⟨ps,z,_⟩ := hT.ex; rw [← e,w] at z; cases z) w⟩
  obtain ⟨its2,r2,pl,_⟩ := I2.tuple hq2
  cases rx
  cases r2 with
  | cons rk rr =>
   obtain ⟨tt,rfl⟩ := rk
   refine wpAny_mono (AF0 (s := { s1 with heap := h3,toks := tk3 }) (u := .str k tt) L (x3 _ _ hf) (eI hrec fun o e=>x3 _ _ e) (I2.nolimit.keeps x3) hdp (pl.keeps x3) rfl) (fun v' s' hd=>?_) fun _ _ z=>z
   obtain ⟨rfl,h4,tk4,rfl,x4⟩ := hd
   exact ⟨⟨tt,rfl⟩,h4,tk4,rfl,x4⟩
 ·obtain ⟨qs,p1,p2,p3⟩ := ho
  obtain ⟨ps,pp,pr⟩ := Z2 p1.symm (wJ (ks := ks) rv)
  have hz : ps.length = xs.length := by rw [pp.length_eq,List.length_zip,hl,Nat.min_self]
  have hq2 := q H2 D ps g2 hT2 (I2.hok.fresh hD) pp ((pM (R := fun a b=>T5 a b = false)).mpr (by rw [xS pr]; exact (pM (R := fun a b=>T5 a b = false)).mp p3))
  refine ⟨.ref D,_,I2.laid (t' := tk3) (o := .lst (ps.map Prod.snd)) x3 hD ⟨by rw [List.length_map,sizeLine_eq]; omega,_,cc,sV pr,?_⟩,rfl,hq2⟩
  rw [← p2]
  exact hg3
end L2
namespace L2
open PySem PySem.Spec PyProof.Rows
def Itv (K : PySem.W.Frag) (a : Addr) (n : Nat) : It :=
 ⟨fun i H=>i < n ∧ ∃ xs,SqL K H a xs ∧ xs.length = n,fun i H x H'=>H' = H ∧ ∀ xs,SqL K H a xs → xs[n - 1 - i]? = some x,fun i _=>i = n⟩
theorem AB0 {P : Program} {w : World} {K : PySem.W.Frag} {tg : Expr} (a it : Addr) (n : Nat) : gR P w K tg (Itv K a n) [it] it (fun i h=>h.IsRevIter it a ((n : Int) - 1 - (i : Int))) where
 mem := by simp
 obj := fun i h st b hb=>by
  rw [List.mem_singleton.mp hb]
  obtain ⟨o,e,c,d⟩ := st
  exact ⟨o,e,fun v z=>by rw [d] at z; cases z⟩
 keep := fun i h h' st k=>st.at fun o e=>k it (by simp) o e
 item := by
  intro X hP hw hK hc i pins s σ H E I hf st hg
  subst hP hw hK
  obtain ⟨hi,xs,hq,hn⟩ := hg
  obtain ⟨its,rv,p,hz⟩ := I.list hq
  have hx : xs[n - 1 - i]? = some xs[n - 1 - i] := List.getElem?_eq_getElem (by omega)
  obtain ⟨u,hu,ru⟩ := rv.get hx
  obtain ⟨f0,f1,f2,f3,f4,f5⟩ := hf it (by simp)
  rw [show (n : Int) - 1 - (i : Int) = ((n - 1 - i : Nat) : Int) by omega] at st
  refine wpAny_pyNext_rev_item st p.isList (x := u) (by simpa using hu) fun h' st' sb=>?_
  have I1 : Inv X pins σ H { s with heap := h' } := I.turned (t' := s.toks) (fun b o hb e=>(sb.2 b hb).trans e) f0 f1 f3 f4 f5
  obtain ⟨o,e,c,d⟩ := id st'
  refine ⟨u,rfl,iL (s := { s with heap := h' }) e c d (by decide) ⟨_,H,I1,ru,⟨rfl,fun ys hy=>by rw [I.list_inj hy hq]; exact hx⟩,?_,fun b hb=>(hf b hb).1⟩⟩
  rw [show (n : Int) - 1 - ((i + 1 : Nat) : Int) = ((n - 1 - i : Nat) : Int) - 1 by omega]
  exact st'
 done := by
  intro X hP hw hK hc i pins s σ H E I hf st hg
  subst hP hw hK
  have hg : i = n := hg
  obtain ⟨f0,f1,f2,f3,f4,f5⟩ := hf it (by simp)
  rw [show (n : Int) - 1 - (i : Int) = -1 by omega] at st
  exact wpAny_pyNext_rev_end (I.ok.hd hc) st fun h' eb=>⟨rfl,I.turned (t' := s.toks) (fun b o hb e=>eb b o hb e) f0 f1 f3 f4 f5⟩
 self := fun _ _ _ _ _ st h=>wpAny_pyIter_revIter st h
def BF9 (K : PySem.W.Frag) (ta : TA) : TI := fun σ H R=>ta σ H fun vs H1=>∃ a xs,vs = [.ref a] ∧ SqL K H1 a xs ∧ R (Itv K a xs.length) H1
theorem AT7 {X : Cx} {tg a : Expr} {ta : TA} {p pos : Pos} (hg : Gl X "reversed") (hm : X.mg "reversed" = none) (ha : PA X [a] ta) (hs : starEach [a] X.env = [(false,eval a X.env)] := by rfl) : PI X tg (.Call (.Name "reversed" p) [a] [] pos) (BF9 X.K ta) := by
 intro pins s σ H R I h
 refine Call_ (aD I hg hm AQ3 (PyProof.Rows.callWith_type1 (J1 (ha pos pins s σ H _ I h) fun us s1 ⟨vs,H1,I1,r1,q1⟩=>?_) hs rfl))
 obtain ⟨b,xs,e,hq,q⟩ := q1
 subst e
 obtain ⟨u,rfl,ru⟩ := Vals.one r1
 cases ru
 obtain ⟨its,rv,p,hz⟩ := I1.list hq
 have hl := rv.length
 refine call_reversed_list p.isList ?_
 have hit : (s1.heap.push (revObj b ((its.toArray.size : Int) - 1))).IsRevIter s1.heap.objs.size b ((its.toArray.size : Int) - 1) := ⟨_,Heap.get?_push_size _ rfl,rfl,rfl⟩
 refine wpAny_pyIter_revIter (s := { s1 with heap := s1.heap.push (revObj b ((its.toArray.size : Int) - 1)) }) hit ?_
 refine ⟨s1.heap.objs.size,[s1.heap.objs.size],_,_,H1,rfl,I1.kept (t' := s1.toks) fun b o e=>Heap.get?_push_of_some _ e,AB0 b _ xs.length,?_,fun c hb=>?_,q⟩
 ·show (s1.heap.push (revObj b ((its.toArray.size : Int) - 1))).IsRevIter s1.heap.objs.size b ((xs.length : Int) - 1 - ((0 : Nat) : Int))
  rw [show (xs.length : Int) - 1 - ((0 : Nat) : Int) = (its.toArray.size : Int) - 1 by rw [List.size_toArray,← hl]; omega]
  exact hit
 ·rw [List.mem_singleton.mp hb]
  exact I1.fpOk (Nat.le_refl _) (I1.hok.fresh (Nat.le_refl _))
theorem AP9 {K : PySem.W.Frag} {a : Addr} {xs : List V} {g : TG} {tb : TS} {D : fF} {σ : St} {H : Hp} (Pv : Nat → St → Hp → Prop) (h0 : Pv 0 σ H) (hl : ∀ i σ H,i ≤ xs.length → Pv i σ H → SqL K H a xs)
  (hs : ∀ i x σ H,xs.reverse[i]? = some x → Pv i σ H → g x σ H fun σ2 H2=>tb { D with nx := Pv (i + 1),ct := Pv (i + 1),bk := D.nx } σ2 H2) (hd : ∀ σ H,Pv xs.length σ H → D.nx σ H) :
  ∃ W : Nat → Nat → St → Hp → Prop,(∃ m,W 0 m σ H) ∧ ∀ i m σ H,W i m σ H →
   ((Itv K a xs.length).stop i H ∧ D.nx σ H) ∨ ((Itv K a xs.length).go i H ∧ ∃ N : St → Hp → Prop,(∀ σ' H',N σ' H' → ∃ m',m' < m ∧ W (i + 1) m' σ' H') ∧ ∀ x H',(Itv K a xs.length).yld i H x H' → g x σ H' fun σ2 H2=>tb { D with nx := N,ct := N,bk := D.nx } σ2 H2) := by
 refine ⟨fun i m σ H=>m = xs.length - i ∧ i ≤ xs.length ∧ Pv i σ H,⟨xs.length,by simp,Nat.zero_le _,h0⟩,?_⟩
 rintro i m σ H ⟨rfl,hi,p⟩
 have q := hl i σ H hi p
 by_cases hlt : i < xs.length
 ·refine .inr ⟨⟨hlt,xs,q,rfl⟩,Pv (i + 1),fun σ' H' p'=>⟨xs.length - (i + 1),by omega,rfl,hlt,p'⟩,fun x H' y=>?_⟩
  obtain ⟨e,y⟩ := y
  subst e
  refine hs i x σ _ ?_ p
  rw [List.getElem?_reverse hlt]
  exact y xs q
 ·have e : i = xs.length := by omega
  subst e
  exact .inl ⟨rfl,hd σ H p⟩
end L2
namespace L2
open PySem PySem.Spec PyProof.Rows
section
variable {prog : Program} {w : World} {A : Around} {E : Value → Shared → Prop} {s : Shared}
theorem wW {t : Addr} {its : List Value} {ss : List Str} {x : Str} {tx : Tok} {j : Nat} {Q : Value → Shared → Prop} (ht : IsTup s.heap t its.toArray) (r : Vals (ss.map V.str) its) (hj : ss[j]? = some x) (hno : ∀ m, m < j → ss[m]? ≠ some x) (h : Q (.int j s.toks) { s with toks := s.toks + 1 }) :
    wpAny (model prog w) A (call (.builtin "tuple.index") [.ref t, .str x tx]) Q E s := by
  refine wpAny_call_entry PySem.F.slot_tuple_index ht.typeIs PySem.F.entry_tuple_index ?_ (PySem.F.args_tuple_index_2 _ _)
  obtain ⟨o, ho, hc, n, hd⟩ := ht
  unfold Builtin.«tuple.index»
  refine wpAny_bind (wpAny_of_eq (a := (Value.ref t, [Value.str x tx])) rfl ?_)
  dsimp only
  refine wpAny_bind (wpAny_tupleItemsOf ho hd ?_)
  refine wpAny_bind (wpAny_pure (wpAny_bind (wpAny_pure ?_)))
  rw [Std.Legacy.Range.forIn_eq_forIn_range']
  have hl : ss.length = its.length := by have := r.length; simpa using this
  have hjl : j < its.length := by have := (List.getElem?_eq_some_iff.mp hj).1; omega
  have at_ : ∀ i, i < its.length → ∃ t, its[i]? = some (Value.str (ss.getD i Str.empty) t) := fun i hi => by
    have e : (ss.map V.str)[i]? = some (.str (ss.getD i Str.empty)) := by
      have hi' : i < ss.length := by omega
      simp [hi']
    obtain ⟨u, hu, t, rfl⟩ := r.get e
    exact ⟨t, hu⟩
  refine wpAny_bind ?_
  show wpAny _ _ (forIn (List.range' 0 ((min its.toArray.size its.toArray.size - 0 + 1 - 1) / 1) 1) _ _) _ _ _
  rw [Nat.min_self, List.size_toArray, Nat.sub_zero, Nat.add_sub_cancel, Nat.div_one]
  have key : ∀ (d i k : Nat), d = j - i → i ≤ j → i + k = its.length → ∀ {R : (Option PySem.Fin × Unit) → Shared → Prop}, R (some (.done (.ret (.int j s.toks))), ()) { s with toks := s.toks + 1 } →
      wpAny (model prog w) A.in1 (forIn (List.range' i k 1) ((none : Option PySem.Fin), ()) fun (i : Nat) _ => (match its.toArray[i]? with
            | some y => do
              let b ← eqBool y (Value.str x tx)
              if b = true then do
                  let c ← retInt ((i : Nat) : Int)
                  pure (ForInStep.done (some c, ()))
                else pure (ForInStep.yield (none, ()))
            | _ => pure (ForInStep.yield (none, ())))) R E s := by
    intro d
    induction d with
    | zero =>
      intro i k hd' hij hk R hR
      have e : i = j := by omega
      subst e
      obtain ⟨k', rfl⟩ : ∃ k', k = k' + 1 := ⟨k - 1, by omega⟩
      obtain ⟨u, hu⟩ := at_ i hjl
      rw [List.range'_succ, List.forIn_cons]
      have eu : its.toArray[i]? = some (Value.str (ss.getD i Str.empty) u) := by simpa using hu
      rw [eu]
      have ex : ss.getD i Str.empty = x := by simp [hj]
      refine wpAny_bind (wpAny_bind (PySem.SeqAt.EqAt.str_str (A := A.in1) (s := s) _ _ _ _ prog w _ _ ?_))
      rw [ex, beq_self_eq_true, if_pos rfl]
      exact wpAny_bind (wpAny_bind (wpAny_mkInt (wpAny_pure (wpAny_pure (wpAny_pure hR)))))
    | succ d ih =>
      intro i k hd' hij hk R hR
      obtain ⟨k', rfl⟩ : ∃ k', k = k' + 1 := ⟨k - 1, by omega⟩
      obtain ⟨u, hu⟩ := at_ i (by omega)
      rw [List.range'_succ, List.forIn_cons]
      have eu : its.toArray[i]? = some (Value.str (ss.getD i Str.empty) u) := by simpa using hu
      rw [eu]
      have ex : (ss.getD i Str.empty == x) = false := by
        rw [beq_eq_false_iff_ne]
        intro z
        have hi' : i < ss.length := by omega
        exact hno i (by omega) (by rw [← z]; simp [hi'])
      refine wpAny_bind (wpAny_bind (PySem.SeqAt.EqAt.str_str (A := A.in1) (s := s) _ _ _ _ prog w _ _ ?_))
      rw [ex, if_neg Bool.false_ne_true]
      exact wpAny_pure (ih (i + 1) k' (by omega) (by omega) (by omega) hR)
  exact key j 0 its.length (by omega) (by omega) (by omega) (wpAny_pure ⟨_, rfl, h⟩)
end
end L2
namespace L2
open PySem PySem.Spec PyProof.Rows
theorem qD {X : Cx} : MtM X "tuple.index" (fun x vs H Q=>∃ (t : Addr) (ss : List Str) (j : Nat) (y : Str),x = .ref t ∧ vs = [.str y] ∧ SqT X.K H t (ss.map V.str) ∧ ss[j]? = some y ∧ (∀ m,m < j → ss[m]? ≠ some y) ∧ Q (.int j) H) := by
 intro pins s σ H x vs v us Q I rx rv h
 obtain ⟨t,ss,j,y,rfl,rfl,hq,hj,hno,q⟩ := h
 cases rx
 obtain ⟨u,rfl,ru⟩ := rv.one
 obtain ⟨tk,rfl⟩ := ru
 obtain ⟨its,r,pl,_⟩ := I.tuple hq
 exact wW pl r hj hno ⟨.int j,H,I.tok _,⟨_,rfl⟩,q⟩
end L2
namespace L2
open PySem PySem.Spec PyProof.Rows
def PrK (H : Hp) (v : V) (p : G3 × V) : Prop := ∃ c,v = .ref c ∧ H c = some (.tup [kV p.1,p.2])
theorem PrK.same {H H' : Hp} {v : V} {p : G3 × V} (g : Same H H') (h : PrK H v p) : PrK H' v p := by
 obtain ⟨c,e,h1⟩ := h
 exact ⟨c,e,g _ _ h1⟩
theorem AP5 {P : Program} {w : World} {k : G3} {v : Value} (h : (K3 P w).is k v = true) : RelV (kV k) v := by
 rcases O3 (show eY k v = true from h) with ⟨i,t,rfl,rfl⟩ | ⟨x,t,rfl,rfl⟩
 ·exact ⟨t,rfl⟩
 ·exact ⟨t,rfl⟩
theorem AW9 {P : Program} {w : World} : ∀ {es : List DictEntry} {vs : List (G3 × Value)} {kvs : List (G3 × V)},Pairs (K3 P w) es vs → KV kvs vs → ∀ (i : Nat) (e : DictEntry),es[i]? = some e → ∃ p,kvs[i]? = some p ∧ RelV (kV p.1) e.key ∧ RelV p.2 e.val
 | _,_,_,.nil,.nil,i,e,h=>by cases h
 | _,_,_,.cons a b c,.cons r t,0,e,h=>by
  cases h
  exact ⟨_,rfl,by rw [r.1]; exact AP5 a,by rw [b]; exact r.2⟩
 | _,_,_,.cons a b c,.cons r t,i + 1,e,h=>by
  rw [List.getElem?_cons_succ] at h
  obtain ⟨p,h1,h2⟩ := AW9 c t i e h
  exact ⟨p,by rw [List.getElem?_cons_succ]; exact h1,h2⟩
theorem AX0 {P : Program} {w : World} {kvs : List (G3 × V)} {vs : List (G3 × Value)} {h : Heap} {d : Addr} (kv : KV kvs vs) (hd : h.DictOf (K3 P w) d vs) :
  ∃ (od : Obj) (es : Array DictEntry) (ep : Nat),h.get? d = some od ∧ od.data = .dict es ep ∧ es.size = kvs.length ∧ ∀ (i : Nat) (e : DictEntry),es[i]? = some e → ∃ p,kvs[i]? = some p ∧ RelV (kV p.1) e.key ∧ RelV p.2 e.val := by
 obtain ⟨o,es,ep,h1,_,h2,_,h3,_⟩ := hd
 refine ⟨o,es,ep,h1,h2,by rw [← Array.length_toList,h3.length,kv.length],fun i e he=>AW9 h3 kv i e (by rw [Array.getElem?_toList]; exact he)⟩
section
variable {X : Cx} {pins : List (Addr × Obj)} {σ : St}
theorem rW {A : Around} {it d S : Addr} {o : Obj} {es : Array DictEntry} {ep : Nat} {res : Value} {R : Result → Shared → Prop} {H0 : Hp} {kvs : List (G3 × V)} (hA : A.handled = none) (hz : es.size ≤ 1000) (hne : it ≠ S)
  (hlen : kvs.length = es.size) (ent : ∀ (i : Nat) (e : DictEntry),es[i]? = some e → ∃ p,kvs[i]? = some p ∧ RelV (kV p.1) e.key ∧ RelV p.2 e.val) (hdd : o.data = .dict es ep) (hd0 : ∃ u,H0 d = some u) :
  ∀ (k i : Nat) (s : Shared) (H : Hp) (acc : List Value) (c : Nat) (out : List V),es.size - i = k → i ≤ es.size → Inv X pins σ H s → Same H0 H → S8 X pins H it → S8 X pins H S → lW s.heap it d i es.size ep → s.heap.get? d = some o →
   s.heap.get? S = some { cls := .type "list",data := .seq acc.toArray c } → Vals out acc → Paired (PrK H) out (kvs.take i) →
   (∀ (s' : Shared) (H' : Hp) (acc' : List Value) (c' : Nat) (out' : List V),Inv X pins σ H' s' → Same H0 H' → s'.heap.get? S = some { cls := .type "list",data := .seq acc'.toArray c' } → Vals out' acc' → Paired (PrK H') out' kvs → R (.ok (.ret res)) s') →
   codeAny (model X.prog X.w) A (.builtin "list.extend.loop" ⟨[.ref S,.ref it,res],[]⟩) R s := by
 intro k
 induction k with
 | zero =>
  intro i s H acc c out hk hi I g0 fi fS hit hd hSl hv hP hR
  have hin : i = es.size := by omega
  subst hin
  refine codeAny_builtin PySem.F.entry_extend_loop ?_
  rw [Around.under_plainId PySem.F.plain_extend_loop _]
  show wpAny _ A.in1 (pyNext (.ref it) >>= _) _ _ s
  refine wpAny_bind (AE0 (by simpa using hA) hit hd hdd (Nat.le_refl _) fun h' kp=>?_)
  obtain ⟨f0,f1,f2,f3,f4,f5⟩ := fi
  have I' : Inv X pins σ H { s with heap := h' } := I.turned (t' := s.toks) (fun b o hb e=>kp b o hb e) f0 f1 f3 f4 f5
  rw [List.take_of_length_le (by omega)] at hP
  exact wpAny_pure (hR _ H acc c out I' g0 (kp S _ (Ne.symm hne) hSl) hv hP)
 | succ k ih =>
  intro i s H acc c out hk hi I g0 fi fS hit hd hSl hv hP hR
  have hlt : i < es.size := by omega
  refine codeAny_builtin PySem.F.entry_extend_loop ?_
  rw [Around.under_plainId PySem.F.plain_extend_loop _]
  show wpAny _ A.in1 (pyNext (.ref it) >>= _) _ _ s
  refine wpAny_bind (yH hit hd hdd (Array.getElem?_eq_getElem hlt) fun h' hit' ht hsz' kp=>?_)
  have hSl' := kp S _ (Ne.symm hne) hSl
  have hal : acc.length = i := by
   have h1 := hv.length
   have h2 := Paired.length hP
   rw [List.length_take] at h2
   omega
  refine wpAny_bind (listUpdate_at hSl' rfl ?_ (by rw [List.size_toArray,sizeLine_eq]; omega) (by rw [Array.size_push,List.size_toArray,sizeLine_eq]; omega))
  have hS2 := get?_update_seq (h := h') (a := S) (c := "list") (xs := acc.toArray) (n := c) hSl' (fun x=>x.push (.ref s.heap.objs.size))
  have sb := Heap.SameBut.update h' S (Obj.mapSeq fun x=>x.push (.ref s.heap.objs.size))
  generalize h'.update S (Obj.mapSeq fun x=>x.push (.ref s.heap.objs.size)) = h2 at hS2 sb
  generalize (if ((acc.toArray.push (Value.ref s.heap.objs.size)).size == acc.toArray.size) = true then c else c + 1) = c2 at hS2
  obtain ⟨p,hp,e2,e3⟩ := ent i es[i] (Array.getElem?_eq_getElem hlt)
  have nS : s.heap.objs.size ≠ S := Nat.ne_of_gt (Heap.lt_size hSl)
  have ni : s.heap.objs.size ≠ it := by obtain ⟨_,_,_,_,q,_⟩ := hit; exact Nat.ne_of_gt (Heap.lt_size q)
  have kk : ∀ b o,b ∉ [it,S] → s.heap.get? b = some o → h2.get? b = some o := fun b o hb q=>by
   simp only [List.mem_cons,List.not_mem_nil,or_false,not_or] at hb
   exact (sb.2 b hb.2).trans (kp b o hb.1 q)
  have ff : ∀ b ∈ [it,S],S8 X pins H b := fun b hb=>by
   simp only [List.mem_cons,List.not_mem_nil,or_false] at hb
   rcases hb with rfl | rfl
   ·exact fi
   ·exact fS
  have I2 : Inv X pins σ (upd H s.heap.objs.size (.tup [kV p.1,p.2])) { s with heap := h2,toks := s.toks } := I.turnedN (t' := s.toks) (ch := [it,S]) (us := [es[i].key,es[i].val]) ff kk (Nat.le_refl _) (by show 2 ≤ sizeLine; decide) (.cons e2 (.cons e3 .nil))
   ⟨_,(sb.2 _ nS).trans ht,rfl,_,rfl⟩
  have hN := I.hok.fresh (Nat.le_refl s.heap.objs.size)
  have gN : Same H (upd H s.heap.objs.size (.tup [kV p.1,p.2])) := fun b u q=>by rw [B7 (E6 q hN)]; exact q
  obtain ⟨u0,hu0⟩ := hd0
  have hdi : d ∉ [it,S] := fun hb=>by
   have := (ff d hb).1
   rw [g0 _ _ hu0] at this
   cases this
  refine wpAny_pure ⟨plainId_quiet PySem.F.plain_extend_loop _,ih (i + 1) _ (upd H s.heap.objs.size (.tup [kV p.1,p.2])) (acc ++ [.ref s.heap.objs.size]) c2 (out ++ [.ref s.heap.objs.size]) (by omega) hlt I2 (fun b u q=>gN _ _ (g0 _ _ q)) (zG fi (Ne.symm ni)) (zG fS (Ne.symm nS)) ?_ (kk d _ hdi hd) ?_ ?_ ?_ ?_⟩
  ·obtain ⟨f0,f1,k0,v0,q,hf⟩ := hit'
   exact ⟨f0,f1,k0,v0,(sb.2 it hne).trans q,hf⟩
  ·rw [← List.push_toArray]; exact hS2
  ·exact Paired.snoc hv rfl
  ·rw [List.take_add_one,hp]
   exact Paired.snoc (Paired.mapP hP fun _ _ z=>z.same gN) ⟨_,rfl,A5⟩
  ·intro s' H' acc' c' out' I' g' hS' hv' hP'
   exact hR s' H' acc' c' out' I' g' hS' hv' hP'
theorem sB {A : Around} {E : Value → Shared → Prop} {s : Shared} {H : Hp} {d v : Addr} {kvs : List (G3 × V)} {Q : List Value → Shared → Prop} (hA : A.handled = none) (I : Inv X pins σ H s) (hv : H v = some (bO d v)) (hd : H d = some (.dK kvs)) (hz : kvs.length ≤ 1000)
  (h : ∀ (s' : Shared) (H' : Hp) (acc : List Value) (out : List V),Inv X pins σ H' s' → Same H H' → Vals out acc → Paired (PrK H') out kvs → Q acc s') : wpAny (model X.prog X.w) A (collect (.ref v)) Q E s := by
 have hview := AK4 I hv
 obtain ⟨hz',hsys,vs,kv,hdo⟩ := oG I.hok hd
 obtain ⟨od,es,ep,ho,hdd,hlen,ent⟩ := AX0 kv hdo
 obtain ⟨ov,hov,hvc,hvd⟩ := id hview
 unfold collect
 refine wpAny_bind (wpAny_runValue (codeAny_builtin entry_proto_collect' ?_))
 rw [Around.under_plainId PySem.F.plain_proto_collect _]
 show wpAny _ A.in1 (newList [] >>= fun z=>again (.builtin "list.__iadd__" ⟨[z,.ref v],[]⟩)) _ _ s
 refine wpAny_bind (wpAny_newObj_type (wpAny_pure ⟨plainId_quiet PySem.F.plain_list_iadd _,codeAny_builtin entry_list_iadd' ?_⟩))
 rw [Around.under_plainId PySem.F.plain_list_iadd _]
 have hS : (s.heap.push { cls := .type "list",data := .seq ([] : List Value).toArray }).get? s.heap.objs.size = some { cls := .type "list",data := .seq #[] } := Heap.get?_push_size _ rfl
 show wpAny _ A.in1 (Builtin.List.listExtendWith (.ref s.heap.objs.size) (.ref v) (.ref s.heap.objs.size)) _ _ { s with heap := s.heap.push { cls := .type "list",data := .seq ([] : List Value).toArray } }
 have k1 : ∀ b o,s.heap.get? b = some o → (s.heap.push { cls := .type "list",data := .seq ([] : List Value).toArray }).get? b = some o := fun b o e=>Heap.get?_push_of_some _ e
 have z1 : (s.heap.push { cls := .type "list",data := .seq ([] : List Value).toArray }).objs.size = s.heap.objs.size + 1 := size_push' _ _
 generalize hh1 : s.heap.push { cls := .type "list",data := .seq ([] : List Value).toArray } = h1 at hS k1 z1
 have I1 : Inv X pins σ H { s with heap := h1 } := I.kept (t' := s.toks) k1
 have hv1 : h1.IsItemsView v d := ⟨ov,k1 _ _ hov,hvc,hvd⟩
 unfold Builtin.List.listExtendWith
 refine wpAny_bind (wpAny_typeOf (T := "dict_items") ⟨ov,k1 _ _ hov,hvc⟩ ?_)
 have nSv : s.heap.objs.size ≠ v := Nat.ne_of_gt (Heap.lt_size hov)
 rw [if_neg (by
  have : Builtin.List.listSameRef (.ref s.heap.objs.size) (.ref v) = false := by
   show (s.heap.objs.size == v) = false
   exact beq_eq_false_iff_ne.mpr nSv
  rw [this]; decide)]
 refine wpAny_bind (vT (s := { s with heap := h1 }) hv1 (k1 _ _ ho) hdd ?_)
 have k2 : ∀ b o,h1.get? b = some o → (h1.push (R5 d 0 es.size ep .none (.bool false) .none .none)).get? b = some o := fun b o e=>Heap.get?_push_of_some _ e
 have e2 : (h1.push (R5 d 0 es.size ep .none (.bool false) .none .none)).get? h1.objs.size = some (R5 d 0 es.size ep .none (.bool false) .none .none) := Heap.get?_push_size _ rfl
 generalize hh2 : h1.push (R5 d 0 es.size ep .none (.bool false) .none .none) = h2 at k2 e2
 have I2 : Inv X pins σ H { s with heap := h2 } := I1.kept (t' := s.toks) k2
 refine wpAny_bind (wpAny_holding (vV (s := { s with heap := h2 }) (d := d) ⟨ov,k2 _ _ (k1 _ _ hov),hvc,hvd⟩ ?_))
 rw [if_pos (by decide +kernel)]
 refine wpAny_bind (wpAny_rule ?_)
 refine wpAny_bind ?_
 unfold Builtin.List.listTouch
 have hS2 : h2.get? s.heap.objs.size = some (seqObj "list" #[] 0) := k2 _ _ hS
 refine wpAny_bind (listUpdate_at (s := { s with heap := h2 }) hS2 rfl ?_ (Nat.zero_le _) (by show 1 ≤ sizeLine + 1; decide))
 have hS3 := get?_update_seq (h := h2) hS2 (fun x=>x.push Value.none)
 have sb3 := Heap.SameBut.update h2 s.heap.objs.size (Obj.mapSeq fun x=>x.push Value.none)
 generalize h2.update s.heap.objs.size (Obj.mapSeq fun x=>x.push Value.none) = h3 at hS3 sb3
 refine listUpdate_at (s := { s with heap := h3 }) hS3 rfl ?_ (by show 1 ≤ sizeLine; decide) (by show 0 ≤ sizeLine + 1; decide)
 have hS4 := get?_update_seq (h := h3) hS3 (fun x=>x.pop)
 have sb4 := Heap.SameBut.update h3 s.heap.objs.size (Obj.mapSeq fun x=>x.pop)
 generalize h3.update s.heap.objs.size (Obj.mapSeq fun x=>x.pop) = h4 at hS4 sb4
 have sb := dZ sb3 sb4
 have hne : h1.objs.size ≠ s.heap.objs.size := by omega
 have fS : S8 X pins H s.heap.objs.size := I.fpOk (Nat.le_refl _) (I.hok.fresh (Nat.le_refl _))
 have fi : S8 X pins H h1.objs.size := I1.fpOk (Nat.le_refl _) (I1.hok.fresh (Nat.le_refl _))
 obtain ⟨c4,hS5⟩ : ∃ c4,h4.get? s.heap.objs.size = some { cls := .type "list",data := .seq ([] : List Value).toArray c4 } := ⟨_,hS4⟩
 have I4 : Inv X pins σ H { s with heap := h4 } := by
  obtain ⟨f0,f1,f2,f3,f4,f5⟩ := id fS
  exact I2.turned (t' := s.toks) (fun b o hb e=>(sb.2 b hb).trans e) f0 f1 f3 f4 f5
 have ndS : d ≠ s.heap.objs.size := Nat.ne_of_lt (Heap.lt_size ho)
 refine wpAny_pure ⟨plainId_quiet PySem.F.plain_extend_loop _,rW (pins := pins) (σ := σ) (H0 := H) (kvs := kvs) (by simpa using hA) (by omega) hne hlen.symm ent hdd ⟨_,hd⟩ es.size 0 _ H [] c4 [] (by omega) (Nat.zero_le _) I4 (fun _ _ q=>q) fi fS ⟨_,_,_,_,(sb.2 _ hne).trans e2,.inl rfl⟩ ((sb.2 _ ndS).trans (k2 _ _ (k1 _ _ ho))) hS5 .nil .nil ?_⟩
 intro s' H' acc c out I' g hS' hv' hP
 show wpAny _ A (load s.heap.objs.size >>= _) _ _ _
 exact wpAny_bind (wpAny_load hS' (wpAny_pure (by simpa using h s' H' acc out I' g hv' hP)))
end
end L2
namespace L2
open PySem PySem.Spec PyProof.Rows HS
section
variable {X : Cx} {pins : List (Addr × Obj)} {σ : St} {H : Hp} {s : Shared}
def AL0 (td : TE) : TE := fun σ H Q=>td σ H fun x H1=>∃ d kvs,x = .ref d ∧ H1 d = some (.dK kvs) ∧ ∀ v,H1 v = none → Q (.ref v) (upd H1 v (bO d v))
theorem xW {o : Expr} {td : TE} {apos cpos : Pos} (ho : PE X o td) (hbase : attributeBase o "items" X.env (eval o X.env) = eval o X.env := by rfl) (hline : (apos.endLine == cpos.line) = true := by rfl) : PE X (.Call (.Attribute o "items" apos) [] [] cpos) (AL0 td) := by
 intro pins s σ H Q I h
 refine wpAny_Call_method0_late hbase hline (J1 (ho pins s σ H _ I h) fun u s1 ⟨x,H1,I1,rx,d,kvs,ex,hd,q⟩=>?_)
 subst ex
 obtain rfl : u = Value.ref d := rx
 obtain ⟨t1,t2,hsys⟩ := yX I1 (.inl ⟨kvs,.inl hd⟩)
 refine ⟨"dict","dict.items",PySem.F.plainAttrs_dict,PySem.F.slot_dict_items,PySem.F.type_dict_items,t1,fun b e=>t2 b e,Calls.callWith_builtin rfl (PySem.evalArgs_none ?_)⟩
 refine wpAny_call_entry PySem.F.slot_dict_items t1 PySem.F.entry_dict_items ?_ (PySem.F.args_dict_items_1 _)
 unfold Builtin.«dict.items»
 refine wpAny_bind ?_
 unfold Builtin.Dict.noArgs
 refine wpAny_bind (wpAny_notOrdered_dict t1 ?_)
 refine wpAny_bind (wpAny_pure ?_)
 refine wpAny_bind (wpAny_bind (wpAny_pure (wpAny_pure (wpAny_pure ?_))))
 refine wpAny_bind ?_
 unfold Builtin.Dict.showsAll
 rw [if_neg (by rw [hsys]; decide)]
 refine wpAny_pure (wpAny_bind (wpAny_newObj_type (wpAny_pure ⟨_,rfl,?_⟩) (by show (1 : Nat) ≤ sizeLine + 2; decide)))
 have hfr := I1.hok.fresh (Nat.le_refl s1.heap.objs.size)
 refine ⟨.ref s1.heap.objs.size,_,I1.laid (t' := s1.toks) (o := bO d s1.heap.objs.size) (fun b u e=>Heap.get?_push_of_some _ e) (Nat.le_refl _) ⟨?_,⟨_,Heap.get?_push_size _ rfl⟩,fun h1 h2 x k=>?_⟩,rfl,q _ hfr⟩
 ·exact ⟨_,Heap.get?_push_size _ rfl,rfl,rfl⟩
 ·obtain ⟨ob,e,r⟩ := x
  exact ⟨ob,k _ e,r⟩
abbrev Kd := Str × PyData
structure KdAt (h : Heap) (u : Value) (p : Kd) : Prop where
 ok : p.2.canLay0 = true ∧ p.2.depth ≤ 40
 ex : ∃ (a : Addr) (t : Tok) (v : Value) (as : List Addr),u = .ref a ∧ IsTup h a #[.str p.1 t,v] ∧ Reads h v p.2 as
theorem vJ {h h' : Heap} (k : ∀ b o,h.get? b = some o → h'.get? b = some o) {v : Value} {d : PyData} {as : List Addr} (r : Reads h v d as) : Reads h' v d as := by
 first | exact PyProof.Rows.Reads.keeps k r | exact Reads.keeps k r | exact PyProof.V.Reads.keeps k r
theorem KdAt.kp {h h' : Heap} {u : Value} {p : Kd} (x : KdAt h u p) (k : Srt.Kp h h') : KdAt h' u p := by
 obtain ⟨a,t,v,as,rfl,⟨o,ho,r⟩,h1⟩ := x.ex
 exact ⟨x.ok,a,t,v,as,rfl,⟨o,k _ _ ho,r⟩,vJ k h1⟩
theorem KdAt.lt {prog : Program} {w : World} {A : Around} {s : Shared} {u v : Value} {p q : Kd} {Q : Bool → Shared → Prop} (x : KdAt s.heap u p) (y : KdAt s.heap v q) (hd : p.1 = q.1 → p = q) (hu : A.units + 64 < cLine) (h : Q (T5 p.1 q.1) s) :
  wpAny (model prog w) A (keyLt' (tuples' true) u v) Q (fun _ _=>False) s := by
 obtain ⟨a,t1,v1,as1,rfl,⟨o,ho,c,n,d⟩,r1⟩ := x.ex
 obtain ⟨b,t2,v2,as2,rfl,⟨o',ho',c',n',d'⟩,r2⟩ := y.ex
 refine PySem.W.kat_lt ho d ho' d' ?_
 show PySem.W.KatLex prog w A true _ Q [(.str p.1 t1,.str q.1 t2),(v1,v2)] 0 s
 refine PySem.W.kat_cons (PySem.SeqAt.EqAt.str_str (A := A) (s := s) _ _ _ _ prog w _ _ ?_)
 by_cases e : p.1 = q.1
 ·have e' := hd e
  rw [e,beq_self_eq_true]
  refine PySem.W.kat_yes (PySem.W.kat_cons ?_)
  refine PySem.SeqAt.eqBoolOverData prog w A _ s _ _ p.2 q.2 _ _ _ r1 r2 x.ok.1 y.ok.1 (by have := x.ok.2; omega) ?_
  rw [e',PySem.SeqAt.eqv_refl _ y.ok.1]
  refine PySem.W.kat_yes (PySem.W.kat_nil ?_)
  rw [e,Y8] at h
  exact h
 ·rw [beq_eq_false_iff_ne.mpr e]
  exact PySem.W.kat_no (oneLt_str h)
theorem oN {h : Heap} : ∀ {us : List Value} {ps : List Kd},Paired (KdAt h) us ps → ∃ fs : List Value,PySem.W.KatTups h us fs ∧ fs.length = us.length ∧ ∀ f ∈ fs,∃ x t,f = Value.str x t
 | _,_,.nil=>⟨[],.nil,rfl,fun _ hf=>by cases hf⟩
 | _,p :: _,.cons x r=>by
  obtain ⟨fs,t,l,al⟩ := oN r
  obtain ⟨a,t1,v1,as1,rfl,⟨o,ho,c,n,d⟩,_⟩ := x.ex
  refine ⟨.str p.1 t1 :: fs,.cons ho c d (by simp) t,by simp [l],fun f hf=>?_⟩
  rcases List.mem_cons.mp hf with rfl | hf
  ·exact ⟨_,_,rfl⟩
  ·exact al f hf
structure uM (K : PySem.W.Frag) (H : Hp) (p : G3 × V) (q : Kd) : Prop where
 k : p.1 = Sum.inr q.1
 d : DatV K H q.2 p.2
 ok : q.2.canLay0 = true ∧ q.2.depth ≤ 40
def PrD (K : PySem.W.Frag) (H : Hp) (v : V) (p : Kd) : Prop := ∃ c x,v = .ref c ∧ H c = some (.tup [.str p.1,x]) ∧ DatV K H p.2 x
theorem xQ {K : PySem.W.Frag} {H H' : Hp} (g : Same H H') : ∀ {vs : List V} {kvs : List (G3 × V)} {ps : List Kd},Paired (PrK H') vs kvs → Paired (uM K H) kvs ps → Paired (PrD K H') vs ps
 | _,_,_,.nil,.nil=>.nil
 | _,_,_,.cons a r,.cons b t=>by
  obtain ⟨c,e,h1⟩ := a
  refine .cons ⟨c,_,e,?_,DatV.mono g.keeps2 _ _ b.d⟩ (xQ g r t)
  rw [h1,b.k]; rfl
theorem yV (I : Inv X pins σ H s) : ∀ {vs : List V} {us : List Value} {ps : List Kd},Paired (PrD X.K H) vs ps → Vals vs us → (∀ p ∈ ps,p.2.canLay0 = true ∧ p.2.depth ≤ 40) → Paired (KdAt s.heap) us ps
 | _,_,_,.nil,.nil,_=>.nil
 | _,_,_,.cons h t,.cons r rr,ok=>by
  refine .cons ⟨ok _ List.mem_cons_self,?_⟩ (yV I t rr fun p hp=>ok p (List.mem_cons_of_mem _ hp))
  obtain ⟨c,x,rfl,h1,h2⟩ := h
  cases r
  obtain ⟨its,rv,tt,_⟩ := I.tuple (SqT.of (K := X.K) h1)
  obtain ⟨u1,u2,rfl,r1,r2⟩ := jI rv
  obtain ⟨tk,rfl⟩ := r1
  obtain ⟨as,rd⟩ := Y5 I _ _ _ h2 r2
  exact ⟨c,tk,u2,as,rfl,tt,rd⟩
theorem AP2 (ps : List Kd) : Srt.Ord fun i j=>T5 (ps.getD i (Str.empty,.none)).1 (ps.getD j (Str.empty,.none)).1 :=
 ⟨fun a=>Y8 _,fun a b h=>qF h,fun a b c h1 h2=>AV6 h1 h2⟩
theorem AJ2 {K : PySem.W.Frag} {H : Hp} : ∀ {kvs : List (G3 × V)} {ps : List Kd},Paired (uM K H) kvs ps → ∀ p ∈ ps,p.2.canLay0 = true ∧ p.2.depth ≤ 40
 | _,_,.nil,p,h=>by cases h
 | _,_,.cons a t,p,h=>by
  rcases List.mem_cons.mp h with rfl | h
  ·exact a.ok
  ·exact AJ2 t p h
theorem AO6 {ps : List Kd} (h : (ps.map (·.1)).Nodup) {i j : Nat} (hi : i < ps.length) (hj : j < ps.length) : (ps.getD i (Str.empty,.none)).1 = (ps.getD j (Str.empty,.none)).1 → ps.getD i (Str.empty,.none) = ps.getD j (Str.empty,.none) := fun e=>by
 have e1 : (ps.map (·.1))[i]? = (ps.map (·.1))[j]? := by
  simp only [List.getD_eq_getElem?_getD,List.getElem?_eq_getElem hi,List.getElem?_eq_getElem hj,Option.getD_some] at e
  rw [List.getElem?_map,List.getElem?_map,List.getElem?_eq_getElem hi,List.getElem?_eq_getElem hj,Option.map_some,Option.map_some,e]
 have := (List.getElem?_inj (by simpa using hi) h).mp e1
 rw [this]
end
end L2
namespace L2
open PySem PySem.Spec PyProof.Rows
section
variable {X : Cx}
def BA6 (K : PySem.W.Frag) : R2 := fun x y H Q=>∃ a b xs ys,x = .ref a ∧ y = .ref b ∧ SqT K H a xs ∧ SqT K H b ys ∧ xs.length + ys.length ≤ sizeLine ∧ ∀ p H',Same H H' → SqT K H' p (xs ++ ys) → Q (.ref p) H'
theorem sZ : Q1 X (binaryOp .Add) (BA6 X.K) := by
 intro pins s σ H x y v u Q I rx ry h
 obtain ⟨a,b,xs,ys,rfl,rfl,ha,hb,hz,q⟩ := h
 by_cases hx : xs = []
 ·subst hx
  cases rx
  cases ry
  obtain ⟨its,r1,p1,_⟩ := I.tuple ha
  obtain ⟨its2,r2,p2,_⟩ := I.tuple hb
  have e : its = [] := r1.nil_iff.mpr rfl
  subst e
  obtain ⟨⟨cls,dd,data,sl⟩,ho,hc,n,hd⟩ := id p1
  obtain ⟨⟨cls2,dd2,data2,sl2⟩,ho2,hc2,n2,hd2⟩ := id p2
  simp only at hc hd hc2 hd2
  subst hc hd hc2 hd2
  exact concat_meets ⟨_,ho,rfl⟩ ⟨_,ho2,rfl⟩ noFill_tuple_add seq_tuple_add PySem.F.slot_tuple_add PySem.F.entry_tuple_add (PySem.F.args_tuple_add_2 _ _)
   (tuple_addW0 a b _ _ n n2 dd dd2 sl sl2 (by simp)) ⟨ho,ho2,.ref b,H,I,rfl,q b H (fun _ _ e=>e) (by simpa using hb)⟩
 ·refine AM7 pins s σ H _ _ v u Q I rx ry ⟨a,b,xs,ys,rfl,rfl,ha,hb,hx,hz,fun e=>q a H (fun _ _ e=>e) (by rw [e,List.append_nil]; exact ha),fun _ p hp=>q p _ (fun c o e=>by rw [B7 (E6 e hp)]; exact e) (SqT.of A5)⟩
end
structure FunD (K : PySem.W.Frag) (x qual : Str) (st : Stmt) (f c dt : Addr) (fd : FuncData) : Prop where
 ex : ∃ (oc : Value) (od : Option Addr) (kV doc pm : Value) (an : Option Addr) (ct : Value) (osl : Array (Option Value)),
  fd = PySem.W.fnOf x qual (E9 st) (E4 st) (B6 st) (.ref dt) kV doc pm an (.ref c) ct ∧ K.lookup f = some ⟨oc,od,.func fd,osl⟩ ∧ PySem.W.codeIn K (.ref c) qual = true
 dt : ∃ (o : Obj) (n : Nat),K.lookup dt = some o ∧ o.data = .seq #[.bool false] n
 kp : PySem.W.keepIn K (.ref f) = true
section
variable {P : Program} {w : World} {K : PySem.W.Frag} {mg : Str → Option Value} {base : Heap}
theorem FunD.ok {x qual : Str} {st : Stmt} {f c dt : Addr} {fd : FuncData} {N ps : List Str} {k : Nat} {sp : Sp} (F : FunD K x qual st f c dt fd) (S : G0 N ps (B6 st)) (len : ∀ vs H Q E,sp vs H Q E → vs.length = ps.length)
  (hbody : ∀ (A : Around) (outer : List Env) (s : Shared) (H : Hp) (vs : List V) (Q : VK) (E : XK),Room k (A.deeper (envOfC qual (B6 st) s.heap.objs.size f (.ref c))) → sp vs H Q E →
   ∃ t,PSs (jD L9 P w K mg base N qual (B6 st) f (.ref c) A outer s H E).nox (E4 st) t ∧ t { nx := fun _ H'=>Q .non H',rt := Q } (start N vs) H) : FnOk P w K mg base L9 (k + 1) f fd ps sp := by
 obtain ⟨oc,od,kV,doc,pm,an,ct,osl,rfl,lk,hcd⟩ := F.ex
 refine AJ5 lk hcd S len fun A outer s H vs Q E hr hsp=>?_
 obtain ⟨t,h,q⟩ := hbody A outer s H vs Q E hr hsp
 exact ⟨t,h.nox,q⟩
theorem FunD.binds {x qual : Str} {st : Stmt} {f c dt : Addr} {fd : FuncData} {ps : List Str} {ds : List Value} (F : FunD K x qual st f c dt fd)
  (h : ∀ (kV doc pm : Value) (an : Option Addr) (ct : Value) (us : List Value),(us ++ ds).length = ps.length → ∃ k : Option (Array Value) → Sem (List (Str × Value)),bindArgs (PySem.W.fnOf x qual (E9 st) (E4 st) (B6 st) (.ref dt) kV doc pm an (.ref c) ct) ⟨us,[]⟩ = seqItems? (.ref dt) >>= k ∧ k (some #[.bool false]) = pure (ps.zip (us ++ ds))) : Binds K fd ps ds := by
 obtain ⟨oc,od,kV,doc,pm,an,ct,osl,rfl,lk,hcd⟩ := F.ex
 obtain ⟨o,n,hd,hs⟩ := F.dt
 intro s us KX hl
 obtain ⟨k,h1,h2⟩ := h kV doc pm an ct us hl
 exact BindsTo.of_defaults (T := dt) rfl (KX _ _ hd) hs h1 h2
end
end L2
namespace L2
open PySem PySem.Spec PyProof.Rows PySem.W
theorem yS {P : Program} {w : World} {K : PySem.W.Frag} {mg mb : Str → Option Value} {k : Nat} {fa a T c : Addr} {fd : FuncData} {x : Str} {sp : Sp} {s₁ : Shared} {vs : List Value} {ns : List Int}
  (KX : K.In s₁.heap) (hns : s₁.heap.Ns mainGlobals mg) (hb : s₁.heap.Ns builtinsNs mb) (hbb : ∀ x : Str,x ≠ "__name__" → mb x = bootBuiltins x) (hlim : s₁.heap.NoLimit) (hg : s₁.gens = #[])
  (hT : s₁.heap.get? T = some (tabObj #[])) (KT : K.lookup T = none) (HC : codeHdIn K c T = true) (B : s₁.heap.BuiltinsAt mg T)
  (ha : s₁.heap.get? a = some { cls := .type "list",data := .seq vs.toArray }) (hi : IntsAre vs ns) (hl : ns.length ≤ sizeLine) (hr : Room k callerA)
  (F : ∀ base : Heap,K.In base → base.Ns mainGlobals mg → base.BuiltinsAt mg T → FnOk P w K mg base L9 k fa fd [x] sp) (hbind : ∀ (s : Shared) (u : Value),BindsTo s fd ⟨[u],[]⟩ [(x,u)])
  (hsp : ∀ H : Hp,H T = some (aK T #[]) → SqL K H a (ns.map V.int) → sp [.ref a] H (fun v H'=>v = .bl true ∧ ∃ ps,H' T = some (aK T ps)) fun _ _ _=>False) :
  codeAny (model P w) callerA (.call (.ref fa) ⟨[.ref a],[]⟩) (fun r s'=>r = .ok (.ret (.bool true)) ∧ OldK s₁.heap s'.heap ∧ s'.os = s₁.os ∧ AllBare s'.gens) s₁ := by
 have rv := lZ hi
 have lenV := hi.length
 have naT : a ≠ T := fun e=>by rw [e,hT] at ha; cases ha
 have hCT := ((codeHd_of_K KX HC).tab hT).isCodeTable
 have core : ∀ H : Hp,H T = some (aK T #[]) → SqL K H a (ns.map V.int) → HOk P w H s₁.heap → (∀ b,b ≠ T → H b ≠ none → b = a ∧ ∃ ob ys,H b = some (.frz ob (.lst ys))) → (H a ≠ none → K.lookup a = none) →
   codeAny (model P w) callerA (.call (.ref fa) ⟨[.ref a],[]⟩) (fun r s'=>r = .ok (.ret (.bool true)) ∧ OldK s₁.heap s'.heap ∧ s'.os = s₁.os ∧ AllBare s'.gens) s₁ := by
  intro H hHT hS hok hA hK
  have base_of : ∀ {b : Addr} {o : Obj},s₁.heap.get? b = some o → H b = none → (cS s₁.heap H).get? b = some o := fun e n=>AF2 e n
  have noA : ∀ {b : Addr} {o : Obj},s₁.heap.get? b = some o → (∀ vs,o.data ≠ .fields vs) → (∀ vs n,o.data ≠ .seq vs n) → H b = none := fun {b o} e d1 d2=>by
   cases q : H b with
   | none=>rfl
   | some u =>
    exfalso
    by_cases hbT : b = T
    ·rw [hbT,hT] at e; cases e; exact d1 _ rfl
    ·have e' := (hA b hbT (by rw [q]; simp)).1
     rw [e',ha] at e; cases e; exact d2 _ _ rfl
  have nsK : ∀ {b : Addr} {m : Str → Option Value},s₁.heap.Ns b m → (cS s₁.heap H).Ns b m := fun {b m} ⟨o,es,ep,e,d,r⟩=>⟨o,es,ep,base_of e (noA e (fun vs z=>by rw [d] at z; cases z) (fun vs n z=>by rw [d] at z; cases z)),d,r⟩
  have hKb : K.In (cS s₁.heap H) := fun b o e=>base_of (KX b o e) (by
   cases q : H b with
   | none=>rfl
   | some u =>
    exfalso
    by_cases hbT : b = T
    ·rw [hbT,KT] at e; cases e
    ·have e' := (hA b hbT (by rw [q]; simp)).1
     subst e'
     rw [hK (by rw [q]; simp)] at e; cases e)
  have hM : Mod K mg (cS s₁.heap H) := ⟨hKb,nsK hns,⟨mb,nsK hb,hbb⟩,let ⟨mc,h1,h2⟩ := hlim; ⟨mc,nsK h1,h2⟩⟩
  have hB : (cS s₁.heap H).BuiltinsAt mg T := by
   obtain ⟨bm,o,b1,b2,b3,b4,b5,b6,b7,b8⟩ := B
   exact ⟨bm,o,b1,b2,b3,b4,base_of b5 (noA b5 (fun vs z=>by rw [b8] at z; cases z) (fun vs n z=>by rw [b8] at z; cases z)),b6,b7,b8⟩
  have e0 : wE P w K mg (cS s₁.heap H) callerA [] s₁ H := ⟨rfl,hM,fun b o e=>AO3 e,Nat.le_of_eq (zF _ _),trivial,fun b hb=>absurd (show b ∈ ([] : List Addr) from hb) (by simp),hok,.of_eq hg⟩
  refine codeAny_mono ((F _ hKb (nsK hns) hB).run callerA [] s₁ H ⟨[.ref a],[]⟩ [.ref a] [.ref a] _ _ hr e0 (hbind s₁ (.ref a)) (.cons rfl .nil) (hsp H hHT hS)) fun r s' h=>?_
  cases r with
  | error e=>exact h.elim
  | ok fl =>
   cases fl with
   | next=>exact False.elim h
   | brk=>exact False.elim h
   | cont=>exact False.elim h
   | ret u =>
    obtain ⟨v,H',os,bare,un,hok',r',q,ps,hps⟩ := h
    subst q
    obtain rfl : u = Value.bool true := r'
    obtain ⟨hpT,_⟩ := hok' T _ hps
    have keep : ∀ b o,b ≠ T → s₁.heap.get? b = some o → s'.heap.get? b = some o := fun b o hbT e=>by
     cases q : H b with
     | none=>exact un.keep b o e q (by intro z; exact absurd (show b ∈ ([] : List Addr) from z) (by simp)) (by simp)
     | some u =>
      obtain ⟨rfl,ob,ys,z⟩ := hA b hbT (by rw [q]; simp)
      have z2 := un.frzs _ ob _ z
      obtain ⟨e1,_⟩ := hok _ _ z
      obtain ⟨e2,_⟩ := hok' _ _ z2
      rw [e] at e1; cases e1
      exact e2
    refine ⟨rfl,⟨fun b o e=>?_,fun b o e=>?_⟩,os,bare⟩
    ·by_cases hbT : b = T
     ·subst hbT
      rw [hT] at e; cases e
      exact .inr (.inl ⟨hCT,rfl,#[],ps,rfl,by rw [Array.empty_append]; exact hpT⟩)
     ·exact .inl (keep b o hbT e)
    ·by_cases hbT : b = T
     ·subst hbT; exact ⟨_,hpT⟩
     ·exact ⟨o,keep b o hbT e⟩
 have okT : ∀ H : Hp,ObjOk P w H s₁.heap T (aK T #[]) := fun H=>⟨hT,⟨_,hT⟩,fun h1 h2 e k=>k _ e⟩
 cases hk : K.lookup a with
 | some o =>
  have e := KX a o hk
  rw [ha] at e
  cases e
  refine core (fun b=>if b = T then some (aK T #[]) else none) (if_pos rfl) (.inr ⟨_,vs.toArray,_,hk,rfl,rfl,rfl,by rw [List.size_toArray,lenV]; exact hl,by simpa using rv⟩) (fun b u z=>?_) (fun b hb z=>absurd (if_neg hb) z) fun z=>absurd (if_neg naT) z
  by_cases hb : b = T
  ·have z' := (if_pos hb).symm.trans z
   cases z'
   subst hb
   exact okT _
  ·have z' := (if_neg hb).symm.trans z
   cases z'
 | none =>
  refine core (fun b=>if b = T then some (aK T #[]) else if b = a then some (.frz { cls := .type "list",data := .seq vs.toArray } (.lst (ns.map V.int))) else none) (if_pos rfl) (.inl (.inr ⟨{ cls := .type "list",data := .seq vs.toArray },(if_neg naT).trans (if_pos rfl)⟩)) (fun b u z=>?_) (fun b hbT z=>?_) fun _=>hk
  ·by_cases hbT : b = T
   ·have z' := (if_pos hbT).symm.trans z
    cases z'
    subst hbT
    exact okT _
   ·have z := (if_neg hbT).symm.trans z
    by_cases hb : b = a
    ·have z' := (if_pos hb).symm.trans z
     cases z'
     subst hb
     exact ⟨ha,by rw [List.length_map]; exact hl,vs,_,rv,ha⟩
    ·have z' := (if_neg hb).symm.trans z
     cases z'
  ·by_cases hb : b = a
   ·exact ⟨hb,_,_,(if_neg hbT).trans (if_pos hb)⟩
   ·exact absurd ((if_neg hbT).trans (if_neg hb)) z
theorem walk_ofT {l : PySem.W.OpenLaw} {n k : Nat} {q : Program} {loose : List Str} {XP : (Str → Option Value) → Heap → Prop} {YP : World → Heap → Prop} {d : DefRec} {K : Params → PySem.W.Frag} {sp : World → Sp} {x : Str} {T c : Addr}
  (hn : l.most = some n) (hn2 : n ≤ sizeLine) (hdf : d.params.defaults = []) (hr : Room k callerA)
  (hY : ∀ (w : World) (h : Heap),YP w h → (K w.params).In h ∧ h.get? T = some (tabObj #[])) (KT : ∀ w : World,(K w.params).lookup T = none) (HC : ∀ w : World,codeHdIn (K w.params) c T = true)
  (F : ∀ (w : World) (mg : Str → Option Value) (fa : Addr) (h : Heap),(K w.params).In h → h.Ns mainGlobals mg → mg d.name = some (.ref fa) →
   ∃ fd : FuncData,(∀ (s : Shared) (u : Value),BindsTo s fd ⟨[u],[]⟩ [(x,u)]) ∧
    ∀ base : Heap,(K w.params).In base → base.Ns mainGlobals mg → base.BuiltinsAt mg T → FnOk l.prog w (K w.params) mg base L9 k fa fd [x] (sp w))
  (hsp : ∀ (w : World) (H : Hp) (a : Addr) (ns : List Int),ns.length ≤ n → H T = some (aK T #[]) → SqL (K w.params) H a (ns.map V.int) → sp w [.ref a] H (fun v H'=>v = .bl true ∧ ∃ ps,H' T = some (aK T ps)) fun _ _ _=>False) :
  PySem.W.WalkO q loose XP YP l.row.toRowW d [] (fun f vs=>PySem.call f vs) := by
 refine Att.attach_call hn hdf fun w s₀ s₁ mg mb fa o pm cd doc a vs ns G Y ho hd hcd hmg hobj hints hlen hg=>?_
 obtain ⟨KX,hT⟩ := hY w _ Y
 obtain ⟨fd,hb,hF⟩ := F w mg fa _ KX G.T.g hmg
 have B : s₁.heap.BuiltinsAt mg T := by
  obtain ⟨bm,ob,b1,b2,b3,b4,b5,b6⟩ := G.T.bmain
  refine ⟨bm,ob,b1,b2,fun e=>?_,fun e=>?_,b3,b4,b5,b6⟩
  ·obtain ⟨o',es,ep,e',hd',_⟩ := G.T.g
   rw [e,e'] at b3; cases b3; rw [hd'] at b6; cases b6
  ·rw [e,hT] at b3; cases b3; cases b6
 exact yS KX G.T.g G.T.b G.T.builtins G.T.nolimit hg hT (KT w) (HC w) B hobj hints (Nat.le_trans hlen hn2) hr hF hb (fun H h1 h2=>hsp w H a ns hlen h1 h2)
end L2
namespace L2
open PySem PySem.Spec PyProof.Rows
section
variable {prog : Program} {w : World} {A : Around} {E : Value → Shared → Prop} {s : Shared}
theorem wK {z TI TO i1 i2 l1 l2 : Addr} {j : Nat} {xs ys : Array Value} {x y a b : Value} {Q : Option Value → Shared → Prop} (D : ZipApart z TI TO i1 i2 l1 l2)
  (hz : IsZip s.heap z TI TO .none) (hTI : IsPair s.heap TI (.ref i1) (.ref i2)) (hTO : IsPair s.heap TO a b)
  (h1 : s.heap.IsListIter i1 l1 j) (h2 : s.heap.IsTupleIter i2 l2 j) (hl1 : s.heap.IsList l1 xs) (hl2 : s.heap.IsTuple l2 ys) (hx : xs[j]? = some x) (hy : ys[j]? = some y)
  (hQ : ∀ h',IsZip h' z TI TO (rawInt s.heap.objs.size) → IsPair h' TO x y → h'.IsListIter i1 l1 (j + 1) → h'.IsTupleIter i2 l2 (j + 1) → IsPair h' s.heap.objs.size x y →
   (∀ c o,c ≠ z → c ≠ TO → c ≠ i1 → c ≠ i2 → s.heap.get? c = some o → h'.get? c = some o) → Q (some (.ref s.heap.objs.size)) { s with heap := h' }) :
  wpAny (model prog w) A (pyNext (.ref z)) Q E s := by
 have hT : s.TypeIs (.ref z) "zip" := ⟨_,hz,rfl⟩
 have lt1 : i1 < s.heap.objs.size := by obtain ⟨_,e,_⟩ := h1; exact Heap.lt_size e
 have lt2 : i2 < s.heap.objs.size := by obtain ⟨_,e,_⟩ := h2; exact Heap.lt_size e
 unfold pyNext
 refine wpAny_bind (wpAny_attempt (wpAny_callSpecial?_slot (name := Str.ofString "__next__") hT PySem.F.slot_zip_next (wpAny_call_entry PySem.F.slot_zip_next hT PySem.F.entry_zip_next ?_ (PySem.F.args_zip_next_1 _))))
 exact wM (N1 := fun h=>h.IsListIter i1 l1 (j + 1)) (N2 := fun h=>h.IsTupleIter i2 l2 (j + 1)) D.TIz D.TOz D.i1z D.i2z D.TOi1 D.TOi2 D.i12 hz hTI hTO
  (fun A' s' Q' E' k q=>wpAny_nextOf_list_item (h1.at fun o e=>k _ o D.i1z e) (hl1.at fun o e=>k _ o D.l1z e) hx q)
  (fun A' s' Q' E' k q=>vN (h2.at fun o e=>k _ o D.i2z D.TOi2.symm D.i12.symm e) (hl2.at fun o e=>k _ o D.l2z D.l2TO D.l2i1 e) hy q)
  (fun h h' n k=>n.at k) (fun h h' n k=>n.at k) lt1 lt2 fun h' a1 a2 a3 a4 a5 a6=>wpAny_pure (hQ h' a1 a2 a3 a4 a5 a6)
theorem AA8 {z TI TO i1 i2 l1 l2 : Addr} {j : Nat} {xs ys : Array Value} {a b : Value} {Q : Option Value → Shared → Prop} (hh : A.handled = none) (D : ZipApart z TI TO i1 i2 l1 l2)
  (hz : IsZip s.heap z TI TO .none) (hTI : IsPair s.heap TI (.ref i1) (.ref i2)) (hTO : IsPair s.heap TO a b)
  (h1 : s.heap.IsListIter i1 l1 j) (h2 : s.heap.IsTupleIter i2 l2 j) (hl1 : s.heap.IsList l1 xs) (hl2 : s.heap.IsTuple l2 ys) (hend : xs[j]? = none ∨ ys[j]? = none)
  (hQ : ∀ h',(∀ c o,c ≠ z → c ≠ TO → c ≠ i1 → c ≠ i2 → s.heap.get? c = some o → h'.get? c = some o) → Q none { s with heap := h' }) : wpAny (model prog w) A (pyNext (.ref z)) Q E s := by
 have hT : s.TypeIs (.ref z) "zip" := ⟨_,hz,rfl⟩
 have fin : ∀ h' e,(∀ c o,c ≠ z → c ≠ TO → c ≠ i1 → c ≠ i2 → s.heap.get? c = some o → h'.get? c = some o) → (∃ o,h'.get? e = some o ∧ o.cls = .type "StopIteration") →
   wpAny (model prog w) A (do if ← isInstance (.ref e) (.type "StopIteration") then pure none else throw (.ref e)) Q E { s with heap := h' } := fun h' e hk he=>by
  obtain ⟨o,ho,hc⟩ := he
  refine wpAny_bind (wpAny_isInstance (T := "StopIteration") (b := true) ⟨o,ho,hc⟩ isSubtype_stop ?_)
  exact wpAny_pure (hQ _ hk)
 unfold pyNext
 refine wpAny_bind (wpAny_attempt (wpAny_callSpecial?_slot (name := Str.ofString "__next__") hT PySem.F.slot_zip_next (wpAny_call_entry PySem.F.slot_zip_next hT PySem.F.entry_zip_next ?_ (PySem.F.args_zip_next_1 _))))
 show wpAny _ _ (field (.ref z) 2 >>= _) _ _ _
 refine wpAny_bind (wpAny_field hz rfl (x := .bool false) rfl ?_)
 show wpAny _ _ (field (.ref z) 3 >>= _) _ _ _
 refine wpAny_bind (wpAny_field hz rfl (x := .ref TI) rfl ?_)
 refine wpAny_bind (wpAny_seqItems hTI rfl ?_)
 show wpAny _ _ (Builtin.SmallTypes.ownedTupleIsFree (.ref z) >>= _) _ _ _
 refine wpAny_bind ?_
 unfold Builtin.SmallTypes.ownedTupleIsFree
 refine wpAny_bind (wpAny_field hz rfl (x := .none) rfl (wpAny_pure ?_))
 simp only [if_true]
 refine wpAny_bind (wpAny_rule ?_)
 refine wpAny_bind (wpAny_field hz rfl (x := .ref TO) rfl ?_)
 refine wpAny_bind (wpAny_setField_rec hz (by simp) fun g1 hz1 sb1=>?_)
 replace hz1 : IsZip g1 z TI TO .ellipsis := hz1
 refine wpAny_bind ?_
 simp only [List.zipIdx_cons,List.zipIdx_nil,List.forIn_cons,List.forIn_nil]
 refine wpAny_bind (wpAny_bind (wpAny_onRaise ?_))
 show wpAny _ _ (Builtin.SmallTypes.nextOf (.ref i1) >>= _) _ _ _
 have h11 : g1.IsListIter i1 l1 j := h1.extBut sb1.extBut D.i1z
 have hl11 : g1.IsList l1 xs := hl1.extBut sb1.extBut D.l1z
 cases hx : xs[j]? with
 | none =>
  refine wpAny_bind (wpAny_nextOf_list_end (s := { s with heap := g1 }) hh h11 hl11 hx fun g2 e sb2 he=>?_)
  obtain ⟨oe,hoe,hce⟩ := he
  have hz2 : IsZip g2 z TI TO .ellipsis := sb2 _ _ D.i1z.symm hz1
  have hez : e ≠ z := fun q=>by subst q; rw [hz2] at hoe; cases hoe; simp at hce
  refine wpAny_setField_rec hz2 (by simp) fun g3 _ sb3=>fin g3 e (fun c o c1 _ c3 _ q=>sb3.extBut _ _ c1 (sb2 _ _ c3 (sb1.extBut _ _ c1 q))) ⟨oe,sb3.extBut _ _ hez hoe,hce⟩
 | some x =>
  have hy : ys[j]? = none := by rcases hend with h | h; rw [hx] at h; cases h; exact h
  refine wpAny_bind (wpAny_nextOf_list_item (s := { s with heap := g1 }) h11 hl11 hx fun g2 m1 sb2=>wpAny_pure ?_)
  have hTO2 : IsPair g2 TO a b := sb2.extBut _ _ D.TOi1 (sb1.extBut _ _ D.TOz hTO)
  refine wpAny_bind (wpAny_seqItems hTO2 rfl ?_)
  refine wpAny_bind (wpAny_updateSeq_pair hTO2 fun g3 hTO3 sb3=>?_)
  refine wpAny_bind (wpAny_letGo (wpAny_pure ?_))
  refine wpAny_bind (wpAny_bind (wpAny_onRaise ?_))
  show wpAny _ _ (Builtin.SmallTypes.nextOf (.ref i2) >>= _) _ _ _
  have h23 : g3.IsTupleIter i2 l2 j := ((h2.extBut sb1.extBut D.i2z).extBut sb2.extBut D.i12.symm).extBut sb3.extBut D.TOi2.symm
  have hl23 : g3.IsTuple l2 ys := ((hl2.extBut sb1.extBut D.l2z).extBut sb2.extBut D.l2i1).extBut sb3.extBut D.l2TO
  refine wpAny_bind (yI (s := { s with heap := g3 }) hh h23 hl23 hy fun g4 e sb4 he=>?_)
  obtain ⟨oe,hoe,hce⟩ := he
  have hz4 : IsZip g4 z TI TO .ellipsis := sb4 _ _ D.i2z.symm (sb3.extBut _ _ D.TOz.symm (sb2.extBut _ _ D.i1z.symm hz1))
  have hez : e ≠ z := fun q=>by subst q; rw [hz4] at hoe; cases hoe; simp at hce
  refine wpAny_setField_rec hz4 (by simp) fun g5 _ sb5=>fin g5 e (fun c o c1 c2 c3 c4 q=>sb5.extBut _ _ c1 (sb4 _ _ c4 (sb3.extBut _ _ c2 (sb2.extBut _ _ c3 (sb1.extBut _ _ c1 q))))) ⟨oe,sb5.extBut _ _ hez hoe,hce⟩
abbrev wH (h : Heap) (l1 : Addr) : Heap := h.push { cls := .type "list_iterator",data := .fields #[.ref l1,.int 0 0] }
abbrev zm2 (h : Heap) (l1 l2 : Addr) : Heap := (wH h l1).push { cls := .type "tuple_iterator",data := .fields #[.ref l2,.int 0 0] }
abbrev zm3 (h : Heap) (l1 l2 : Addr) : Heap := (zm2 h l1 l2).push { cls := .type "tuple",data := .seq #[.ref h.objs.size,.ref (wH h l1).objs.size] }
abbrev zm4 (h : Heap) (l1 l2 : Addr) : Heap := (zm3 h l1 l2).push { cls := .type "tuple",data := .seq #[.none,.none] }
abbrev oH (h : Heap) (l1 l2 : Addr) : Heap := (zm4 h l1 l2).push { cls := .type "zip",data := .fields #[.none,.bool false,.bool false,.ref (zm2 h l1 l2).objs.size,.ref (zm3 h l1 l2).objs.size] }
theorem vQ (l1 l2 : Addr) (xs ys : Array Value) :
  Meets (Builtin.«zip.__new__» ⟨[.type "zip",.ref l1,.ref l2],[]⟩) (fun _ R s=>s.heap.IsList l1 xs ∧ s.heap.IsTuple l2 ys ∧ R (.ok (.ret (.ref (zm4 s.heap l1 l2).objs.size))) { s with heap := oH s.heap l1 l2 }) :=
 .of_wp fun prog w A R s h=>by
  obtain ⟨hp,g,d,tk,os⟩ := s; obtain ⟨hl1,hl2,h⟩ := h
  have hsub := sub_zip
  have hL1 : Heap.IsList (Shared.heap ⟨hp,g,d,tk,os⟩) l1 xs := hl1
  have hL2 : Heap.IsTuple (Shared.heap ⟨hp.push { cls := .type "list_iterator",data := .fields #[.ref l1,.int 0 0] },g,d,tk,os⟩) l2 ys := Heap.IsTuple.push hl2 _
  wp_walk using wpAny_pyIter_list hL1,wpAny_pyIter_tuple hL2
  exact ⟨_,rfl,h⟩
theorem zU {l1 l2 : Addr} {xs ys : Array Value} {Q : Value → Shared → Prop} (hl1 : s.heap.IsList l1 xs) (hl2 : s.heap.IsTuple l2 ys)
  (h : ∀ h',IsZip h' (s.heap.objs.size + 4) (s.heap.objs.size + 2) (s.heap.objs.size + 3) .none → IsPair h' (s.heap.objs.size + 2) (.ref s.heap.objs.size) (.ref (s.heap.objs.size + 1)) →
   IsPair h' (s.heap.objs.size + 3) .none .none → h'.IsListIter s.heap.objs.size l1 0 → h'.IsTupleIter (s.heap.objs.size + 1) l2 0 →
   (∀ c o,s.heap.get? c = some o → h'.get? c = some o) → Q (.ref (s.heap.objs.size + 4)) { s with heap := h' }) :
  wpAny (model prog w) A (call (.type "zip") [.ref l1,.ref l2]) Q E s := by
 refine callType_new PySem.F.called_zip (by decide) (PySem.F.typeCall_zip_2 _ _) (PySem.F.newCall_zip_2 _ _) (fun obj=>PySem.F.args_object_init_3 obj _ _) PySem.F.entry_zip_new (vQ l1 l2 xs ys) ⟨hl1,hl2,?_⟩
 have z1 : (wH s.heap l1).objs.size = s.heap.objs.size + 1 := Heap.size_push ..
 have z2 : (zm2 s.heap l1 l2).objs.size = s.heap.objs.size + 2 := by rw [Heap.size_push,z1]
 have z3 : (zm3 s.heap l1 l2).objs.size = s.heap.objs.size + 3 := by rw [Heap.size_push,z2]
 have z4 : (zm4 s.heap l1 l2).objs.size = s.heap.objs.size + 4 := by rw [Heap.size_push,z3]
 have up : ∀ c o,(wH s.heap l1).get? c = some o → (oH s.heap l1 l2).get? c = some o := fun c o e=>Heap.get?_push_of_some _ (Heap.get?_push_of_some _ (Heap.get?_push_of_some _ (Heap.get?_push_of_some _ e)))
 have g5 : (oH s.heap l1 l2).get? (zm4 s.heap l1 l2).objs.size = some _ := Heap.get?_push_size _ rfl
 have g4 : (oH s.heap l1 l2).get? (zm3 s.heap l1 l2).objs.size = some _ := Heap.get?_push_of_some _ (Heap.get?_push_size _ rfl)
 have g3 : (oH s.heap l1 l2).get? (zm2 s.heap l1 l2).objs.size = some _ := Heap.get?_push_of_some _ (Heap.get?_push_of_some _ (Heap.get?_push_size _ rfl))
 have g2 : (oH s.heap l1 l2).get? (wH s.heap l1).objs.size = some _ := Heap.get?_push_of_some _ (Heap.get?_push_of_some _ (Heap.get?_push_of_some _ (Heap.get?_push_size _ rfl)))
 have g1 : (oH s.heap l1 l2).get? s.heap.objs.size = some _ := up _ _ (Heap.get?_push_size _ rfl)
 show _ ∧ _
 rw [z2,z3,z4] at g5
 rw [z1,z2] at g3
 rw [z3] at g4
 rw [z1] at g2
 rw [z4]
 exact ⟨⟨_,g5,rfl⟩,h _ g5 g3 g4 ⟨_,g1,rfl,rfl⟩ ⟨_,g2,rfl,rfl⟩ fun c o q=>up _ _ (Heap.get?_push_of_some _ q)⟩
end
def AG7 (K : PySem.W.Frag) (a b : Addr) : It :=
  ⟨fun i H => ∃ xs ys x y, SqL K H a xs ∧ SqT K H b ys ∧ xs[i]? = some x ∧ ys[i]? = some y,
   fun i H v H' => ∃ T x y, v = .ref T ∧ H T = none ∧ H' = upd H T (.tup [x, y]) ∧ ∀ xs ys, SqL K H a xs → SqT K H b ys → xs[i]? = some x ∧ ys[i]? = some y,
   fun i H => ∃ xs ys, SqL K H a xs ∧ SqT K H b ys ∧ (xs.length ≤ i ∨ ys.length ≤ i)⟩
def AX8 (z TI TO i1 i2 a b : Addr) (i : Nat) (h : Heap) : Prop := IsZip h z TI TO .none ∧ IsPair h TI (.ref i1) (.ref i2) ∧ (∃ p q,IsPair h TO p q) ∧ h.IsListIter i1 a i ∧ h.IsTupleIter i2 b i
section
variable {X : Cx} {pins : List (Addr × Obj)} {σ : St} {H : Hp} {s : Shared}
end
theorem wU {P : Program} {w : World} {K : PySem.W.Frag} {elts : List Expr} {x1 : Nat} {pos : Pos} (z TI TO i1 i2 a b : Addr) (D : ZipApart z TI TO i1 i2 a b) :
  gR P w K (.Tuple elts x1 pos) (AG7 K a b) [z,TI,TO,i1,i2] z (AX8 z TI TO i1 i2 a b) where
 mem := by simp
 obj := fun i h st c hc=>by
  obtain ⟨hz,hTI,⟨p,q,hTO⟩,⟨o1,e1,_,d1⟩,⟨o2,e2,_,d2⟩⟩ := st
  simp only [List.mem_cons,List.not_mem_nil,or_false] at hc
  rcases hc with rfl | rfl | rfl | rfl | rfl
  ·exact ⟨_,hz,fun v y=>by cases y⟩
  ·exact ⟨_,hTI,fun v y=>by cases y⟩
  ·exact ⟨_,hTO,fun v y=>by cases y⟩
  ·exact ⟨o1,e1,fun v y=>by rw [d1] at y; cases y⟩
  ·exact ⟨o2,e2,fun v y=>by rw [d2] at y; cases y⟩
 keep := fun i h h' st k=>by
  obtain ⟨hz,hTI,⟨p,q,hTO⟩,h1,h2⟩ := st
  exact ⟨k z (by simp) _ hz,k TI (by simp) _ hTI,⟨p,q,k TO (by simp) _ hTO⟩,h1.at fun o e=>k i1 (by simp) o e,h2.at fun o e=>k i2 (by simp) o e⟩
 item := by
  intro X hP hw hK hc i pins s σ H E I hf st hg
  subst hP hw hK
  obtain ⟨xs,ys,x,y,ha,hb,hx,hy⟩ := hg
  obtain ⟨hz,hTI,⟨p,q,hTO⟩,h1,h2⟩ := st
  obtain ⟨its1,rv1,p1,z1⟩ := I.list ha
  obtain ⟨its2,rv2,p2,z2⟩ := I.tuple hb
  obtain ⟨u1,hu1,ru1⟩ := rv1.get hx
  obtain ⟨u2,hu2,ru2⟩ := rv2.get hy
  refine wK D hz hTI hTO h1 h2 p1.isList (show s.heap.IsTuple b its2.toArray from p2) (by simpa using hu1) (by simpa using hu2) fun h' a1 a2 a3 a4 a5 a7=>⟨_,rfl,wpAny_letOwnedTupleGo_zip (s := { s with heap := h' }) a1 fun h2' b1 sb=>?_⟩
  have hNz : s.heap.objs.size ≠ z := Nat.ne_of_gt (Heap.lt_size hz)
  have kk : ∀ c o,c ∉ [z,TO,i1,i2] → s.heap.get? c = some o → h2'.get? c = some o := fun c o hc e=>by
   simp only [List.mem_cons,List.not_mem_nil,or_false,not_or] at hc
   exact sb.extBut c o hc.1 (a7 c o hc.1 hc.2.1 hc.2.2.1 hc.2.2.2 e)
  have fr : ∀ c ∈ [z,TI,TO,i1,i2],c ≠ s.heap.objs.size := fun c hc=>by
   simp only [List.mem_cons,List.not_mem_nil,or_false] at hc
   obtain ⟨o1,e1,_⟩ := h1
   obtain ⟨o2,e2,_⟩ := h2
   rcases hc with rfl | rfl | rfl | rfl | rfl
   ·exact Ne.symm hNz
   ·exact Nat.ne_of_lt (Heap.lt_size hTI)
   ·exact Nat.ne_of_lt (Heap.lt_size hTO)
   ·exact Nat.ne_of_lt (Heap.lt_size e1)
   ·exact Nat.ne_of_lt (Heap.lt_size e2)
  refine ⟨.ref s.heap.objs.size,upd H s.heap.objs.size (.tup [x,y]),(show Inv X pins σ (upd H s.heap.objs.size (.tup [x,y])) { s with heap := h2',toks := s.toks } from I.turnedN (t' := s.toks) (ch := [z,TO,i1,i2]) (us := [u1,u2]) (fun c hc=>hf c (AR9 hc)) kk (Nat.le_refl _) (by show 2 ≤ sizeLine; decide) (.cons ru1 (.cons ru2 .nil)) ⟨_,sb.extBut _ _ hNz a5,rfl,_,rfl⟩),rfl,
   ⟨s.heap.objs.size,x,y,rfl,I.hok.fresh (Nat.le_refl _),rfl,fun xs' ys' hx' hy'=>by rw [I.list_inj hx' ha,I.tuple_inj hy' hb]; exact ⟨hx,hy⟩⟩,⟨b1,sb.extBut _ _ D.TIz (a7 _ _ D.TIz D.TITO D.TIi1 D.TIi2 hTI),⟨_,_,sb.extBut _ _ D.TOz a2⟩,a3.extBut sb.extBut D.i1z,a4.extBut sb.extBut D.i2z⟩,fun c hc=>?_⟩
  rw [B7 (fr c hc)]
  exact (hf c hc).1
 done := by
  intro X hP hw hK hc i pins s σ H E I hf st hg
  subst hP hw hK
  obtain ⟨xs,ys,ha,hb,hend⟩ := hg
  obtain ⟨hz,hTI,⟨p,q,hTO⟩,h1,h2⟩ := st
  obtain ⟨its1,rv1,p1,z1⟩ := I.list ha
  obtain ⟨its2,rv2,p2,z2⟩ := I.tuple hb
  have l1 := rv1.length
  have l2 := rv2.length
  refine AA8 (I.ok.hd hc) D hz hTI hTO h1 h2 p1.isList (show s.heap.IsTuple b its2.toArray from p2) ?_ fun h' k=>⟨rfl,I.turnedM (t' := s.toks) (ch := [z,TO,i1,i2]) (fun c hc=>hf c (AR9 hc)) fun c o hc e=>?_⟩
  ·rcases hend with e | e
   ·left; simp; omega
   ·right; simp; omega
  ·simp only [List.mem_cons,List.not_mem_nil,or_false,not_or] at hc
   exact k c o hc.1 hc.2.1 hc.2.2.1 hc.2.2.2 e
 self := fun _ _ _ _ _ st h=>wpAny_pyIter_zip st.1 h
def AJ4 (K : PySem.W.Frag) (ta : TA) : TI := fun σ H R=>ta σ H fun vs H1=>∃ a b,vs = [.ref a,.ref b] ∧ (∃ xs,SqL K H1 a xs) ∧ (∃ ys,SqT K H1 b ys) ∧ R (AG7 K a b) H1
section
variable {X : Cx}
theorem AM2 {elts : List Expr} {x1 : Nat} {tpos : Pos} {a b : Expr} {ta : TA} {p pos : Pos} (hg : Gl X "zip") (hm : X.mg "zip" = none) (ha : PA X [a,b] ta) (hs : starEach [a,b] X.env = [(false,eval a X.env),(false,eval b X.env)] := by rfl) (hs2 : starEach [b] X.env = [(false,eval b X.env)] := by rfl) :
  PI X (.Tuple elts x1 tpos) (.Call (.Name "zip" p) [a,b] [] pos) (AJ4 X.K ta) := by
 intro pins s σ H R I h
 refine Call_ (aD I hg hm AX1 (PyProof.Rows.callWith_type1 (J1 (ha pos pins s σ H _ I h) fun us s1 ⟨vs,H1,I1,r1,q1⟩=>?_) (by rw [hs,hs2]) (by rw [hs2]; rfl)))
 obtain ⟨a,b,e,⟨xs,hx⟩,⟨ys,hy⟩,q⟩ := q1
 subst e
 cases r1 with
 | cons r rr =>
  cases rr with
  | cons r' rr =>
   cases rr
   cases r
   cases r'
   obtain ⟨its1,rv1,p1,z1⟩ := I1.list hx
   obtain ⟨its2,rv2,p2,z2⟩ := I1.tuple hy
   have lt1 : a < s1.heap.objs.size := by obtain ⟨o,n,e,_⟩ := p1; exact Heap.lt_size e
   have lt2 : b < s1.heap.objs.size := p2.lt
   refine zU p1.isList (show s1.heap.IsTuple b its2.toArray from p2) fun h' hz hTI hTO hi1 hi2 hk=>?_
   refine wpAny_pyIter_zip (s := { s1 with heap := h' }) hz ⟨s1.heap.objs.size + 4,[s1.heap.objs.size + 4,s1.heap.objs.size + 2,s1.heap.objs.size + 3,s1.heap.objs.size,s1.heap.objs.size + 1],_,_,H1,rfl,I1.kept (t' := s1.toks) hk,wU _ _ _ _ _ a b (zipApart_new lt1 lt2),⟨hz,hTI,⟨_,_,hTO⟩,hi1,hi2⟩,fun c hc=>?_,q⟩
   have hge : s1.heap.objs.size ≤ c := by
    simp only [List.mem_cons,List.not_mem_nil,or_false] at hc
    rcases hc with h | h | h | h | h
    ·rw [h]; exact Nat.le_add_right _ _
    ·rw [h]; exact Nat.le_add_right _ _
    ·rw [h]; exact Nat.le_add_right _ _
    ·rw [h]; exact Nat.le_refl _
    ·rw [h]; exact Nat.le_add_right _ _
   exact I1.fpOk hge (I1.hok.fresh hge)
end
theorem zS {K : PySem.W.Frag} {a b : Addr} {xs ys : List V} {fr : List (Option Nat)} {g : TG} {ti : TT} {te : TE} {σ : St} {H1 : Hp} {l : Addr} {Q : VK} (Pv : Nat → List V → Hp → Prop) (h0 : Pv 0 [] (upd H1 l (.lst []))) (hl : ∀ i zs H,Pv i zs H → SqL K H a xs ∧ SqT K H b ys)
  (hs : ∀ i x y zs H T,xs[i]? = some x → ys[i]? = some y → Pv i zs H → H T = none → V0 fr g ti te σ l (.ref T) zs (upd H T (.tup [x,y])) (Pv (i + 1))) (hd : ∀ zs H,Pv (min xs.length ys.length) zs H → Q (.ref l) H) : iP (AG7 K a b) fr g ti te σ H1 l Q := by
 refine ⟨fun i m zs H=>m = min xs.length ys.length - i ∧ i ≤ min xs.length ys.length ∧ Pv i zs H,⟨min xs.length ys.length,by simp,Nat.zero_le _,h0⟩,?_⟩
 rintro i m zs H ⟨rfl,hi,p⟩
 obtain ⟨qa,qb⟩ := hl i zs H p
 by_cases hlt : i < min xs.length ys.length
 ·have h1 : i < xs.length := by omega
  have h2 : i < ys.length := by omega
  refine .inr ⟨⟨xs,ys,xs[i],ys[i],qa,qb,by simp [h1],by simp [h2]⟩,Pv (i + 1),fun zs' H' p'=>⟨min xs.length ys.length - (i + 1),by omega,rfl,hlt,p'⟩,fun x H' y=>?_⟩
  obtain ⟨T,x',y',rfl,hT,rfl,hxy⟩ := y
  obtain ⟨e1,e2⟩ := hxy xs ys qa qb
  exact hs i x' y' zs _ T e1 e2 p hT
 ·have e : i = min xs.length ys.length := by omega
  subst e
  exact .inl ⟨⟨xs,ys,qa,qb,by omega⟩,hd zs H p⟩
end L2
namespace L2
open PySem PySem.Spec PyProof.Rows
section
variable {X : Cx}
def AL9 (K : PySem.W.Frag) : List V → Hp → VK → Prop := fun xs H Q=>∃ v d kvs ps,xs = [.ref v] ∧ H v = some (bO d v) ∧ H d = some (.dK kvs) ∧ Paired (uM K H) kvs ps ∧ ps.length < 64 ∧ (ps.map (·.1)).Nodup ∧
 ∀ D H' out qs ks,Same H H' → H D = none → H' D = some (.lst out) → Paired (PrK H') out ks → Paired (uM K H) ks qs → ks.Perm kvs → qs.Pairwise (fun p q=>T5 q.1 p.1 = false) → Q (.ref D) H'
theorem nU (hu : X.A.units + 66 < cLine) (hc : X.calm = true) : S3 X (.builtin "sorted") (AL9 X.K) := by
 intro pins s σ H xs us Q I r h
 obtain ⟨v,d,kvs,ps,rfl,hv,hd,hkd,h64,hnd,q⟩ := h
 have hkl := Paired.length hkd
 have hok : ∀ p ∈ ps,p.2.canLay0 = true ∧ p.2.depth ≤ 40 := AJ2 hkd
 obtain ⟨u,rfl,ru⟩ := Vals.one r
 cases ru
 refine Calls.call_function_entry kind_sorted plain_sorted entry_sorted (args_sorted1 _) ?_
 unfold Builtin.«sorted»
 refine wpAny_bind (m := checkCount "sorted" 1 1 _) (wpAny_pure (wpAny_bind (sB (A := X.A.in1) (I.ok.hd hc) I hv hd (by omega) fun s1 H1 vs out I1 g1 rv hP0=>?_)))
 have hP := xQ g1 hP0 hkd
 have hlp := Paired.length hP
 have hlen := rv.length
 refine wpAny_bind (wpAny_newList ?_ (by rw [sizeLine_eq]; omega))
 have hoL : (s1.heap.push (seqObj "list" vs.toArray 0)).get? s1.heap.objs.size = some (seqObj "list" vs.toArray 0) := Heap.get?_push_size _ rfl
 have kB : Srt.Kp s1.heap (s1.heap.push (seqObj "list" vs.toArray 0)) := fun b o q=>Heap.get?_push_of_some _ q
 have hA := yV I1 hP rv hok
 refine wpAny_bind (wpAny_holding (wpAny_call_entry slot_list_sort ⟨_,hoL,rfl⟩ entry_list_sort ?body (args_list_sort _)))
 case body =>
  refine Srt.sort_at (s := { s1 with heap := s1.heap.push (seqObj "list" vs.toArray 0) }) (h₀ := s1.heap) (κ := tuples' true) hoL (by omega) (AP2 ps) kB (fun o z=>?_) (fun h2=>⟨fun s' Q' k hQ=>?_,fun s' i j Q' k hi hj hQ=>?_⟩) fun p h' e a1 a2 a3 a5=>⟨_,rfl,wpAny_pure ⟨_,rfl,?_⟩⟩
  ·have z' : s1.heap.objs.size < s1.heap.objs.size := Heap.lt_size z
   omega
  ·have hA' : Paired (KdAt s'.heap) vs ps := L2.Paired.mapP hA fun _ _ z=>z.kp k
   obtain ⟨fs,t,l,al⟩ := oN hA'
   refine PySem.W.kat_kind (T := .type "str") t (by omega) (fun f hf=>?_) rfl hQ
   obtain ⟨x,tk,rfl⟩ := al f hf
   exact .now
  ·have hA' : Paired (KdAt s'.heap) vs ps := L2.Paired.mapP hA fun _ _ z=>z.kp k
   exact (L2.Paired.getD (da := Value.none) (db := (Str.empty,.none)) hA' hi).lt (L2.Paired.getD (da := Value.none) (db := (Str.empty,.none)) hA' hj) (AO6 hnd (by omega) (by omega)) (by show X.A.units + 1 + 1 + 64 < _; omega) hQ
  ·have hmem : ∀ i ∈ p,i < out.length := fun i hi=>by
    have := a1.mem_iff.mp hi
    rw [hlen]; simpa using this
   have hrel : Vals (p.map fun i=>out.getD i .non) (p.map fun i=>vs.getD i Value.none) := V6 rv p hmem
   have hpl : p.length = out.length := by rw [a1.length_eq,List.length_range,hlen]
   have hD1 : H1 s1.heap.objs.size = none := I1.hok.fresh (Nat.le_refl _)
   have gD : Same H1 (upd H1 s1.heap.objs.size (.lst (p.map fun i=>out.getD i .non))) := fun b u q=>by rw [B7 (E6 q hD1)]; exact q
   refine ⟨.ref s1.heap.objs.size,_,I1.laid (t' := s1.toks) (o := .lst (p.map fun i=>out.getD i .non)) a3 (Nat.le_refl _) ⟨by rw [List.length_map,sizeLine_eq]; omega,_,e,hrel,a5⟩,rfl,
    q s1.heap.objs.size _ _ (p.map fun i=>ps.getD i (Str.empty,.none)) (p.map fun i=>kvs.getD i (Sum.inl 0,.non)) (fun b u z=>gD _ _ (g1 _ _ z)) ?_ A5 (L2.Paired.mapP (V6 (da := V.non) (db := ((Sum.inl 0,.non) : G3 × V)) hP0 p hmem) fun _ _ z=>PrK.same gD z) (V6 (da := ((Sum.inl 0,.non) : G3 × V)) (db := ((Str.empty,.none) : Kd)) hkd p fun i hi=>by have := hmem i hi; have := Paired.length hP0; omega) ?_ ?_⟩
   ·cases e : H s1.heap.objs.size with
    | none=>rfl
    | some o=>rw [g1 _ _ e] at hD1; cases hD1
   ·have hlv : vs.length = kvs.length := by have := Paired.length hP0; omega
    rw [hlv] at a1
    exact fG kvs (Sum.inl 0,.non) a1
   ·rw [List.pairwise_iff_getElem]
    intro i j hi hj hij
    rw [List.length_map] at hi hj
    have := a2 i j (by omega) (by omega)
    simpa [hi,hj] using this
end
end L2
namespace Law
open PySem L2 L2.Sp
def N3 (i : Nat) : Stmt := PySem.Challenge.pw_meetvalue_k11_made_kinds_hold.main.body.getD i (.Pass ⟨0,0,0,0⟩)
structure Cal (P : Program) (w : World) (K : PySem.W.Frag) (mg : Str → Option Value) (base : Heap) (k : Nat) (x : Str) (ps : List Str) (sp : Sp) : Prop where
 ex : ∃ (f : Addr) (fd : FuncData),FnOk P w K mg base L9 k f fd ps sp ∧ mg x = some (.ref f) ∧ PySem.W.keepIn K (.ref f) = true ∧ Binds K fd ps []
theorem Cal.mono {P : Program} {w : World} {K : PySem.W.Frag} {mg : Str → Option Value} {base : Heap} {j k : Nat} {x : Str} {ps : List Str} {sp : Sp} (C : Cal P w K mg base j x ps sp) (h : j ≤ k) : Cal P w K mg base k x ps sp := by
 obtain ⟨f,fd,F,a,b,c⟩ := C.ex
 exact ⟨f,fd,F.mono h,a,b,c⟩
theorem B8 {X : Cx} {k : Nat} {x : Str} {ps : List Str} {sp : Sp} {p pos : Pos} {e : Expr} {es : List Expr} {t : TA} (C : Cal X.prog X.w X.K X.mg X.base k x ps sp) (hr : Room k X.A) (hg : Gl X x) (ha : PA X (e :: es) t)
  (hdb : (x == ("__debug__" : Str)) = false := by decide) (he : starEach (e :: es) X.env = (false,eval e X.env) :: starEach es X.env := by rfl) (hpl : (backTo pos (starEach es X.env)).any (·.1) = false := by rfl) :
  PE X (.Call (.Name x p) (e :: es) [] pos) (gZ sp [] E0 t) := by
 obtain ⟨f,fd,F,a,b,c⟩ := C.ex
 exact sW F hr hg a b c .nil AI2 ha hdb he hpl
theorem A8 {H : Hp} {p : Addr} (h : H p = none) (o : HO) : Same H (upd H p o) := fun b u q=>by rw [B7 (E6 q h)]; exact q
def Grow (st : Addr) (H H' : Hp) : Prop := ∀ b o,b ≠ st → H b = some o → H' b = some o
theorem Grow.trans {st : Addr} {H H1 H2 : Hp} (a : Grow st H H1) (b : Grow st H1 H2) : Grow st H H2 := fun c o hc h=>b c o hc (a c o hc h)
theorem Grow.of {st : Addr} {H H' : Hp} (a : Same H H') : Grow st H H' := fun c o _ h=>a c o h
theorem O0 {st : Addr} {H : Hp} {o : HO} : Grow st H (upd H st o) := fun b u hb q=>by rw [B7 hb]; exact q
theorem Grow.refl {st : Addr} {H : Hp} : Grow st H H := fun _ _ _ q=>q
theorem X8 : ([] : List V).length ≤ sizeLine := by decide
theorem X2 {a : V} : ([a] : List V).length ≤ sizeLine := by show 1 ≤ sizeLine; decide
theorem M0 {a b : V} : ([a,b] : List V).length ≤ sizeLine := by show 2 ≤ sizeLine; decide
theorem N4 {a b c : V} : ([a,b,c] : List V).length ≤ sizeLine := by show 3 ≤ sizeLine; decide
theorem AE8 {a b c d : V} : ([a,b,c,d] : List V).length ≤ sizeLine := by show 4 ≤ sizeLine; decide
theorem P0 {n : Nat} (h : n ≤ 1000) : n < sizeLine := xF h
section
variable {P : Program} {w : World} {K : PySem.W.Frag} {mg : Str → Option Value} {base : Heap} {f : Addr} {fd : FuncData}
theorem Grow.sqT {st : Addr} {H H' : Hp} (g : Grow st H H') {x : List V} (hs : H st = some (.lst x)) {a : Addr} {ys : List V} (h : SqT K H a ys) : SqT K H' a ys :=
 h.keep fun b u=>⟨fun q=>g b _ (vO q hs (by intro z; cases z)) q,fun o q=>g b _ (vO q hs (by intro z; cases z)) q⟩
theorem AQ6 (ns : List Int) {r : Int} (h0 : 0 ≤ r) (h1 : r < ns.length) : ∃ n,Y0 (ns.map V.int) r = some (.int n) := by
 obtain ⟨k,rfl⟩ := Int.eq_ofNat_of_zero_le h0
 have hk : k < ns.length := by omega
 exact ⟨ns[k],Q7 (by rw [List.getElem?_map,List.getElem?_eq_getElem hk]; rfl)⟩
def BD7 (t u : TS) : TS := fun D σ H=>∃ R : St → Hp → Prop,t { D with nx := R } σ H ∧ ∀ σ' H',R σ' H' → u D σ' H'
theorem X3 {X : Cx} {st : Stmt} {rest : List Stmt} {t u : TS} (h1 : PS X st t) (h2 : PSs X rest u) : PSs X (st :: rest) (BD7 t u) := by
 intro pins s σ H D I h
 obtain ⟨R,ha,hb⟩ := h
 refine wpAny_execs_cons (J1 (h1 pins s σ H { D with nx := R } I ha) fun f s1 q=>?_)
 cases f with
 | next =>
  obtain ⟨σ',H',I',q⟩ := q
  exact h2 pins s1 σ' H' D I' (hb σ' H' q)
 | ret v=>exact q
 | brk=>exact q
 | cont=>exact q
theorem SqL.past {H H1 H' : Hp} {l a : Addr} {xs : List V} (g1 : Same H H1) (g : Grow l H1 H') (hl : H l = none) (h : SqL K H a xs) : SqL K H' a xs := by
 rcases h with (z | ⟨o,z⟩) | z
 ·exact .inl (.inl (g _ _ (E6 z hl) (g1 _ _ z)))
 ·exact .inl (.inr ⟨o,g _ _ (E6 z hl) (g1 _ _ z)⟩)
 ·exact .inr z
theorem past {H H1 H' : Hp} {l : Addr} (g1 : Same H H1) (g : Grow l H1 H') (hl : H l = none) : Same H H' := fun z o ho=>g _ _ (E6 ho hl) (g1 _ _ ho)
theorem aG {σ : St} {H : Hp} {A B : Hp → Prop} (h : A H) : AB1 σ H (fun b H4=>if b = true then A H4 else B H4) := by
 show (if true = true then A H else B H)
 rw [if_pos rfl]
 exact h
end
theorem P5 {α β : Type} {F : α → β → Prop} : ∀ {xs : List α} {ys : List β} {i : Nat} {x : α},Paired F xs ys → xs[i]? = some x → ∃ y,ys[i]? = some y ∧ F x y
 | _,_,_,_,.nil,e=>by simp at e
 | _,_,0,_,.cons r _,e=>by simp at e; subst e; exact ⟨_,rfl,r⟩
 | _,_,i + 1,x,.cons _ t,e=>by
  obtain ⟨u,h1,h2⟩ := P5 (i := i) (x := x) t (by simpa using e)
  exact ⟨u,by simpa using h1,h2⟩
theorem M5 {α : Type} {xs : List α} {i : Nat} {x : α} (h : xs[i]? = some x) : xs.take (i + 1) = xs.take i ++ [x] := by
 rw [List.take_add_one,h]; rfl
theorem AX5 : bootBuiltins "max" = some (.builtin "max") := by decide +kernel
theorem mZ : bootBuiltins "sorted" = some (.builtin "sorted") := by decide +kernel
theorem AX6 : bootBuiltins "any" = some (.builtin "any") := by decide +kernel
theorem zY : bootBuiltins "all" = some (.builtin "all") := by decide +kernel
theorem zX : bootBuiltins "isinstance" = some (.builtin "isinstance") := by decide +kernel
theorem fD : bootBuiltins "tuple" = some (.type "tuple") := by decide +kernel
theorem gO : bootBuiltins "int" = some (.type "int") := by decide +kernel
theorem AQ5 : bootBuiltins "bool" = some (.type "bool") := by decide +kernel
theorem uE : bootBuiltins "list" = some (.type "list") := by decide +kernel
theorem AX2 : bootBuiltins "str" = some (.type "str") := by decide +kernel
theorem AQ4 : bootBuiltins "dict" = some (.type "dict") := by decide +kernel
theorem uG (ns : List Str) {r : Int} (h0 : 0 ≤ r) (h1 : r < ns.length) : ∃ t,t ∈ ns ∧ Y0 (ns.map V.str) r = some (.str t) := by
 obtain ⟨k,rfl⟩ := Int.eq_ofNat_of_zero_le h0
 have hk : k < ns.length := by omega
 exact ⟨ns[k],List.getElem_mem hk,Q7 (by rw [List.getElem?_map,List.getElem?_eq_getElem hk]; rfl)⟩
section
variable {K : PySem.W.Frag}
theorem W6 {H : Hp} : Same H H := fun _ _ h=>h
theorem T9 {n : Nat} (h : n ≤ 1000) : n ≤ sizeLine := Nat.le_of_lt (P0 h)
theorem qO (t : Str) (ts : List Str) : iT (.str t) (ts.map V.str) = decide (t ∈ ts) := by
 rw [Bool.eq_iff_iff,decide_eq_true_iff]
 unfold iT
 simp only [List.any_map,List.any_eq_true,Function.comp]
 constructor
 ·rintro ⟨y,hy,e⟩
  have e : (y == t) = true := e
  rw [beq_iff_eq] at e
  exact e ▸ hy
 ·intro h
  exact ⟨t,h,by show (t == t) = true; simp⟩
theorem gL {α : Type} {xs : List α} {i : Nat} {x : α} (h : xs[i]? = some x) : xs.drop i = x :: xs.drop (i + 1) := by
 obtain ⟨hi,e⟩ := List.getElem?_eq_some_iff.mp h
 rw [← e]
 exact List.drop_eq_getElem_cons hi
end
end Law
namespace Law
open PySem L2 L2.Sp
section
variable {P : Program} {w : World} {K : PySem.W.Frag} {mg : Str → Option Value} {base : Heap} {f : Addr} {fd : FuncData}
def oV : En → V
 | none=>.non
 | some n=>.int n
def OPairV (K : PySem.W.Frag) (H : Hp) (v : V) (p : Pr) : Prop := ∃ a,v = .ref a ∧ SqT K H a [oV p.1,oV p.2]
theorem OPairV.grow {st : Addr} {H H' : Hp} (g : Grow st H H') {x : List V} (hs : H st = some (.lst x)) {v : V} {p : Pr} (h : OPairV K H v p) : OPairV K H' v p := by
 obtain ⟨a,e,q⟩ := h
 exact ⟨a,e,g.sqT hs q⟩
theorem OPairV.same {H H' : Hp} (g : Same H H') {v : V} {p : Pr} (h : OPairV K H v p) : OPairV K H' v p := by
 obtain ⟨a,e,q⟩ := h
 exact ⟨a,e,g.seqT q⟩
theorem EndV.same {H H' : Hp} (g : Same H H') {v : V} {e : En} (h : EndV K H v e) : EndV K H' v e := by
 obtain ⟨a,e1,q⟩ := h
 exact ⟨a,e1,g.seqT q⟩
theorem PairV.same {H H' : Hp} (g : Same H H') {v : V} {p : Pr} (h : PairV K H v p) : PairV K H' v p := by
 obtain ⟨a,x,y,e1,q,hx,hy⟩ := h
 exact ⟨a,x,y,e1,g.seqT q,EndV.same g hx,EndV.same g hy⟩
theorem EndV.grow {l : Addr} {xs : List V} {H H' : Hp} (g : Grow l H H') (hl : H l = some (.lst xs)) {v : V} {e : En} (h : EndV K H v e) : EndV K H' v e := by
 obtain ⟨a,e1,q⟩ := h
 exact ⟨a,e1,g.sqT hl q⟩
theorem PairV.grow {l : Addr} {xs : List V} {H H' : Hp} (g : Grow l H H') (hl : H l = some (.lst xs)) {v : V} {p : Pr} (h : PairV K H v p) : PairV K H' v p := by
 obtain ⟨a,x,y,e1,q,hx,hy⟩ := h
 exact ⟨a,x,y,e1,g.sqT hl q,EndV.grow g hl hx,EndV.grow g hl hy⟩
theorem V9 {H : Hp} {p : Addr} : EndV K (upd H p (.tup [])) (.ref p) none := ⟨p,rfl,SqT.of A5⟩
theorem AQ2 {H : Hp} {p : Addr} {n : Int} : EndV K (upd H p (.tup [.int n])) (.ref p) (some n) := ⟨p,rfl,SqT.of A5⟩
theorem EndV.dat {H : Hp} {v : V} {e : En} (h : EndV K H v e) : DatV K H (W4 e) v := by
 obtain ⟨a,rfl,q⟩ := h
 unfold W4
 simp only [DatV]
 refine ⟨a,_,rfl,q,?_⟩
 cases e with
 | none=>simp [DatAll]
 | some n=>simp [DatAll,DatV]
def rEE (K : PySem.W.Frag) : R2 := fun x y H Q=>∃ a b,EndV K H x a ∧ EndV K H y b ∧ Q (.bl (decide (a = b))) H
theorem dI {X : Cx} (hu : X.A.units + 64 < cLine) : Q1 X (compareOp .Eq) (rEE X.K) := fun pins s σ H x y v u Q I rx ry ⟨a,b,ha,hb,q⟩ =>
 W1 hu pins s σ H x y v u Q I rx ry ⟨W4 a,W4 b,EndV.dat ha,EndV.dat hb,dL a,dL b,by have := mX a; omega,by rw [tW]; exact q⟩
abbrev lC : Stmt := N3 2
theorem AZ9 : G0 ["low","high"] ["low","high"] (B6 lC) := ⟨rfl,rfl,rfl,by decide +kernel,rfl,by decide +kernel,by decide +kernel⟩
def aM : Pr → Bool
 | (some a,some b)=>decide (a ≤ b)
 | _=>true
theorem tI (p : Pr) : aM p = true ↔ gE p := by
 obtain ⟨a,b⟩ := p
 cases a <;> cases b <;> simp [aM,gE]
def vE : Sp := fun vs H Q _=>∃ e1 e2 : En,vs = [oV e1,oV e2] ∧ Q (.bl (aM (e1,e2))) H
theorem AV1 (F : Fun K "has_numbers" "has_numbers" lC f fd) : FnOk P w K mg base L9 1 f fd ["low","high"] vE := by
 refine F.ok AZ9 (fun vs H Q E h=>?_) (fun cdv A outer s H vs Q E hr h=>?_)
 ·obtain ⟨e1,e2,rfl,_⟩ := h
  rfl
 obtain ⟨e1,e2,rfl,q⟩ := h
 refine ⟨_,A9 (D8 (bW (xX (pT (pv 0))) (bW (xX (pT (pv 1))) (T3 (J5 jS (pv 0) (pv 1) (D7 _)))))),?_⟩
 cases e1 with
 | none=>exact ⟨_,rfl,true,rfl,K8 q⟩
 | some a =>
  refine ⟨_,rfl,false,rfl,L5 ?_⟩
  cases e2 with
  | none=>exact ⟨_,rfl,true,rfl,K8 q⟩
  | some b=>exact ⟨_,rfl,false,rfl,L5 ⟨_,rfl,_,rfl,_,_,rfl,rfl,q⟩⟩
abbrev lE : Stmt := N3 3
theorem BA0 : G0 ["number"] ["number"] (B6 lE) := ⟨rfl,rfl,rfl,by decide +kernel,rfl,by decide +kernel,by decide +kernel⟩
def vF (K : PySem.W.Frag) : Sp := fun vs H Q _=>∃ e : En,vs = [oV e] ∧ ∀ H' v,Same H H' → EndV K H' v e → Q v H'
theorem AV2 (F : Fun K "end_of" "end_of" lE f fd) : FnOk P w K mg base L9 1 f fd ["number"] (vF K) := by
 refine F.ok BA0 (fun vs H Q E h=>?_) (fun cdv A outer s H vs Q E hr h=>?_)
 ·obtain ⟨e1,rfl,_⟩ := h
  rfl
 obtain ⟨e1,rfl,q⟩ := h
 refine ⟨_,A9 (D8 (X1 (pO (pT (pv 0))) (G1 A6) (G1 (A0 (pv 0) A6)))),?_⟩
 cases e1 with
 | none=>exact ⟨_,rfl,true,rfl,K8 ⟨X8,fun p hp=>q _ _ (A8 hp _) V9⟩⟩
 | some a=>exact ⟨_,rfl,false,rfl,L5 ⟨_,rfl,X2,fun p hp=>q _ _ (A8 hp _) AQ2⟩⟩
abbrev dD : Stmt := N3 5
theorem AL8 : G0 ["high","low"] ["high","low"] (B6 dD) := ⟨rfl,rfl,rfl,by decide +kernel,rfl,by decide +kernel,by decide +kernel⟩
def kQ (K : PySem.W.Frag) : Sp := fun vs H Q _=>∃ (x y : V) (h l : En),vs = [x,y] ∧ EndV K H x h ∧ EndV K H y l ∧ ∀ H',Same H H' → Q (.bl (eJ h l)) H'
theorem AD6 (F : Fun K "reaches" "reaches" dD f fd) : FnOk P w K mg base L9 1 f fd ["high","low"] (kQ K) := by
 refine F.ok AL8 (fun vs H Q E h=>?_) (fun cdv A outer s H vs Q E hr h=>?_)
 ·obtain ⟨x,y,h,l,rfl,_⟩ := h
  rfl
 obtain ⟨x,y,h,l,rfl,hx,hy,q⟩ := h
 refine ⟨_,A9 (D8 (bW (J5 (dI hr.units) (pv 0) (G1 A6) (D7 _)) (bW (J5 (dI hr.units) (pv 1) (G1 A6) (D7 _))
  (T3 (J5 jS (D9 E8 (pv 1) A7 (fun _ _=>rfl)) (J0 U3 (D9 E8 (pv 0) A7 (fun _ _=>rfl)) A7) (D7 _)))))),?_⟩
 refine ⟨_,rfl,X8,fun p hp=>?_⟩
 have g1 : Same H (upd H p (.tup [])) := A8 hp _
 refine ⟨h,none,EndV.same g1 hx,V9,_,rfl,?_⟩
 cases h with
 | none=>exact K8 (q _ g1)
 | some b =>
  refine L5 ⟨_,rfl,X8,fun p2 hp2=>?_⟩
  have g2 := g1.trans (A8 hp2 (.tup []))
  refine ⟨l,none,EndV.same g2 hy,V9,_,rfl,?_⟩
  cases l with
  | none=>exact K8 (q _ g2)
  | some a =>
   obtain ⟨ay,rfl,qy⟩ := hy
   obtain ⟨ax,rfl,qx⟩ := hx
   exact L5 ⟨_,rfl,ay,_,_,_,rfl,rfl,g2.seqT qy,rfl,_,rfl,ax,_,_,_,rfl,rfl,g2.seqT qx,rfl,_,_,rfl,rfl,_,_,rfl,rfl,q _ g2⟩
abbrev aU : Stmt := N3 6
theorem AC1 : G0 ["one","other"] ["one","other"] (B6 aU) := ⟨rfl,rfl,rfl,by decide +kernel,rfl,by decide +kernel,by decide +kernel⟩
def iW (K : PySem.W.Frag) : Sp := fun vs H Q _=>∃ (x y : V) (a b : En),vs = [x,y] ∧ EndV K H x a ∧ EndV K H y b ∧ ∀ H' v,Same H H' → EndV K H' v (L2.Sp.higher a b) → Q v H'
theorem yD (F : Fun K "higher" "higher" aU f fd) (mm : mg "max" = none) : FnOk P w K mg base L9 1 f fd ["one","other"] (iW K) := by
 refine F.ok AC1 (fun vs H Q E h=>?_) (fun cdv A outer s H vs Q E hr h=>?_)
 ·obtain ⟨x,y,a,b,rfl,_⟩ := h
  rfl
 obtain ⟨x,y,a,b,rfl,hx,hy,q⟩ := h
 refine ⟨_,B5 (G4 (PW.pt (aN (E2 (dI hr.units) (pv 0) (G1 A6) (D7 _)) (X6 (E2 (dI hr.units) (pv 1) (G1 A6) (D7 _))))) (A9 (D8 (G1 A6))) E7)
  (A9 (D8 (K6 (zW rfl hr.units) rfl mm AX5 (A0 (pv 0) (A0 (pv 1) A6))))),?_⟩
 refine ⟨_,rfl,X8,fun p hp=>?_⟩
 have g1 : Same H (upd H p (.tup [])) := A8 hp _
 refine ⟨a,none,EndV.same g1 hx,V9,_,rfl,?_⟩
 cases a with
 | none=>exact K8 (K8 ⟨X8,fun p2 hp2=>q _ _ (g1.trans (A8 hp2 _)) V9⟩)
 | some a =>
  refine L5 ⟨_,rfl,X8,fun p2 hp2=>?_⟩
  have g2 := g1.trans (A8 hp2 (.tup []))
  refine ⟨b,none,EndV.same g2 hy,V9,_,rfl,?_⟩
  cases b with
  | none=>exact K8 ⟨X8,fun p3 hp3=>q _ _ (g2.trans (A8 hp3 _)) V9⟩
  | some b =>
   refine L5 ⟨_,rfl,_,rfl,x,y,a,b,rfl,EndV.same g2 hx,EndV.same g2 hy,q _ _ g2 ?_⟩
   show EndV K _ _ (some (if a < b then b else a))
   by_cases c : a < b
   ·rw [if_pos c,if_pos c]; exact EndV.same g2 hy
   ·rw [if_neg c,if_neg c]; exact EndV.same g2 hx
end
end Law
namespace Law
open PySem L2 L2.Sp
theorem bX {α β : Type} {F : α → β → Prop} : ∀ {xs : List α} {x : α} {ys : List β},Paired F (xs ++ [x]) ys → ∃ ys0 y,ys = ys0 ++ [y] ∧ Paired F xs ys0 ∧ F x y
 | [],x,_,.cons r .nil=>⟨[],_,rfl,.nil,r⟩
 | a :: xs,x,_,.cons r t=>by
  obtain ⟨ys0,y,e,h1,h2⟩ := bX (xs := xs) t
  subst e
  exact ⟨_ :: ys0,y,rfl,.cons r h1,h2⟩
theorem AF1 {α : Type} (xs : List α) (v : α) : gJ (xs ++ [v]).length (-1) = some xs.length := by
 unfold gJ
 rw [if_neg (by decide)]
 rw [List.length_append,List.length_singleton]
 rw [if_pos (by omega)]
 congr 1
 omega
theorem AC0 {α : Type} (xs : List α) (v u : α) : (xs ++ [v]).set xs.length u = xs ++ [u] := by
 rw [List.set_append_right _ _ (Nat.le_refl _),Nat.sub_self]
 rfl
theorem jC : ∀ (qs ss : List Pr),(qs.foldl step ss).length ≤ ss.length + qs.length
 | [],ss=>by simp
 | q :: r,ss=>by
  have h1 : (step ss q).length ≤ ss.length + 1 := by
   rcases List.eq_nil_or_concat ss with rfl | ⟨s0,l,e⟩
   ·simp [oX]
   ·rw [List.concat_eq_append] at e
    subst e
    rw [bP]
    unfold hG
    split <;> simp
  have h2 := jC r (step ss q)
  show (r.foldl step (step ss q)).length ≤ _
  rw [List.length_cons]
  omega
theorem rV (n : Int) (ps : List Pr) (aM : Pr → Bool) (h : ∀ p,aM p = false → M4 n p = false) : J6 n (ps.filter aM) = J6 n ps := by
 rw [Bool.eq_iff_iff,bJ,bJ]
 constructor
 ·rintro ⟨p,hp,m⟩
  exact ⟨p,(List.mem_filter.mp hp).1,m⟩
 ·rintro ⟨p,hp,m⟩
  refine ⟨p,List.mem_filter.mpr ⟨hp,?_⟩,m⟩
  cases c : aM p with
  | true=>rfl
  | false=>rw [h p c] at m; cases m
section
variable {P : Program} {w : World} {K : PySem.W.Frag} {mg : Str → Option Value} {base : Heap} {f : Addr} {fd : FuncData}
def SpansV (K : PySem.W.Frag) (H : Hp) (v : V) (ss : List Pr) : Prop := ∃ a vs,v = .ref a ∧ SqT K H a vs ∧ Paired (PairV K H) vs ss
abbrev lA : Stmt := N3 4
theorem oC : G0 ["found","spans","low","high"] ["found"] (B6 lA) := ⟨rfl,rfl,rfl,by decide +kernel,rfl,by decide +kernel,by decide +kernel⟩
def uY (K : PySem.W.Frag) : Sp := fun args H Q _=>∃ (a : Addr) (vs : List V) (ps : List Pr),args = [.ref a] ∧ (SqL K H a vs ∨ SqT K H a vs) ∧ vs.length < 64 ∧ Paired (PairV K H) vs ps ∧ (∀ p ∈ ps,gE p) ∧
 ∀ (H' : Hp) (u : V) (ss : List Pr),Same H H' → SpansV K H' u ss → Form ss → (∀ n,J6 n ss = J6 n ps) → ss.length ≤ ps.length → Q u H'
theorem AU6 (F : Fun K "put_together" "put_together" lA f fd) (R : Cal P w K mg base 1 "reaches" ["high","low"] (kQ K)) (Hi : Cal P w K mg base 1 "higher" ["one","other"] (iW K))
  (m1 : mg "sorted" = none) (m2 : mg "len" = none) (m3 : mg "tuple" = none) : FnOk P w K mg base L9 2 f fd ["found"] (uY K) := by
 refine F.ok oC (fun vs H Q E h=>?_) (fun cdv A outer s H vs Q E hr h=>?_)
 ·obtain ⟨a,vs,ps,rfl,_⟩ := h
  rfl
 obtain ⟨a0,vs,ps,rfl,hq,h64,hP,hok,q⟩ := h
 refine ⟨_,B5 (G2 (i := 1) oC.nd rfl (Or.inl rfl) (P8 A6))
  (B5 (R9 PassesOwn.never rfl (U5 (K6 (rC hr.units) rfl m1 mZ (A0 (pv 0) A6))) (V2 rfl (K1 (G5 (i := 2) oC.nd rfl (Or.inl rfl)) (K1 (G5 (i := 3) oC.nd rfl (Or.inl rfl)) T2)))
   (A9 (G4 (PW.pt (Z7 (E2 bY (K6 M6 rfl m2 PySem.boot_len (A0 (pv 1) A6)) A7 (D7 _))
     (Y6 (Q6 (B8 R hr rfl (A0 (D9 E8 (D9 M7 (pv 1) (oD jJ A7) (fun _ _=>rfl)) A7 (fun _ _=>rfl)) (A0 (pv 2) A6)))))))
    (A9 (xP (G1 (A0 (D9 E8 (D9 M7 (pv 1) (oD jJ A7) (fun _ _=>rfl)) A7 (fun _ _=>rfl))
      (A0 (B8 Hi hr rfl (A0 (D9 E8 (D9 M7 (pv 1) (oD jJ A7) (fun _ _=>rfl)) A7 (fun _ _=>rfl)) (A0 (pv 3) A6))) A6))) (xV (pv 1) (oD jJ A7) pH)))
    (A9 (lI (jP PySem.F.plainAttrs_list PySem.F.slot_list_append PySem.F.type_list_append cB (pv 1) (A0 (G1 (A0 (pv 2) (A0 (pv 3) A6))) A6)))))))
  (A9 (D8 (O8 aJ rfl m3 fD (A0 (pv 1) A6))))),?_⟩
 refine ⟨X8,fun l hl=>?_⟩
 have g1 : Same H (upd H l (.lst [])) := A8 hl _
 refine ⟨_,rfl,a0,vs,ps,rfl,hq.imp (fun z=>g1.seq z) (fun z=>g1.seqT z),h64,L2.Paired.mapP hP (fun _ _ z=>PairV.same g1 z),fun D out qs hD hO hperm hpw=>?_⟩
 have g2 : Same (upd H l (.lst [])) (upd (upd H l (.lst [])) D (.lst out)) := A8 hD _
 have lD : l ≠ D := E6 A5 hD
 generalize hH2 : upd (upd H l (.lst [])) D (.lst out) = H2 at g2
 have h2D : H2 D = some (.lst out) := by rw [← hH2]; exact A5
 have h2l : H2 l = some (.lst []) := g2 _ _ A5
 have hO2 : Paired (PairV K H2) out qs := L2.Paired.mapP hO fun _ _ z=>PairV.same g2 z
 have lo : out.length = qs.length := hO2.length
 have lq : qs.length = ps.length := hperm.length_eq
 have lv : vs.length = ps.length := hP.length
 refine ⟨D,rfl,⟨_,SqL.of h2D⟩,?_⟩
 refine Y9 (xs := out) (fun i σ H'=>∃ (x y : Option V) (svs : List V),σ = [some (.ref a0),some (.ref l),x,y] ∧ Grow l H2 H' ∧ H' l = some (.lst svs) ∧ Paired (PairV K H') svs ((qs.take i).foldl step []))
  ⟨none,none,[],rfl,Grow.refl,h2l,.nil⟩ (fun i σ H' hi hinv=>?_) (fun i x σ H' hx hinv=>?_) (fun σ H' hinv=>?_)
 ·obtain ⟨x,y,svs,rfl,g,_⟩ := hinv
  exact SqL.of (g _ _ (Ne.symm lD) h2D)
 ·obtain ⟨x0,y0,svs,rfl,g,hl1,hS⟩ := hinv
  obtain ⟨p,hp,hxp⟩ := P5 hO2 hx
  have hlen := hS.length
  have hlen2 := jC (qs.take i) []
  have hi := (List.getElem?_eq_some_iff.mp hx).1
  have hlt : (qs.take i).length ≤ 64 := by rw [List.length_take]; omega
  have hsz : svs.length < sizeLine := P0 (by rw [hlen]; simp only [List.length_nil] at hlen2; omega)
  obtain ⟨ax,x1,y1,rfl,hqx,hx1,hy1⟩ := PairV.grow g h2l hxp
  refine ⟨ax,[x1,y1],rfl,hqx,rfl,_,_,rfl,_,_,rfl,rfl,?_⟩
  rw [M5 hp,List.foldl_append]
  have fin : ∀ (H3 : Hp),Same H' H3 → ∀ pp,H3 pp = none → (step ((qs.take i).foldl step []) p = (qs.take i).foldl step [] ++ [p]) → ∃ (x y : Option V) (s' : List V),[some (V.ref a0),some (.ref l),some x1,some y1] = [some (.ref a0),some (.ref l),x,y] ∧
    Grow l H2 (upd (upd H3 pp (.tup [x1,y1])) l (.lst (svs ++ [.ref pp]))) ∧ upd (upd H3 pp (.tup [x1,y1])) l (.lst (svs ++ [.ref pp])) l = some (.lst s') ∧ Paired (PairV K (upd (upd H3 pp (.tup [x1,y1])) l (.lst (svs ++ [.ref pp])))) s' ([p].foldl step ((qs.take i).foldl step [])) := by
   intro H3 g3 pp hpp hst
   have h3l := g3 _ _ hl1
   have g4 : Same H3 (upd H3 pp (.tup [x1,y1])) := A8 hpp _
   have h4l := g4 _ _ h3l
   have ppl : pp ≠ l := Ne.symm (E6 h3l hpp)
   have mv : ∀ {v : V} {e : En},EndV K H' v e → EndV K (upd (upd H3 pp (.tup [x1,y1])) l (.lst (svs ++ [.ref pp]))) v e := fun z=>EndV.grow O0 h4l (EndV.same g4 (EndV.same g3 z))
   refine ⟨_,_,_,rfl,(g.trans (Grow.of (g3.trans g4))).trans O0,A5,?_⟩
   show Paired _ _ (step ((qs.take i).foldl step []) p)
   rw [hst]
   exact PySem.Paired.snoc (L2.Paired.mapP hS fun _ _ z=>PairV.grow O0 h4l (PairV.same g4 (PairV.same g3 z))) ⟨pp,x1,y1,rfl,SqT.of (by rw [B7 ppl]; exact A5),mv hx1,mv hy1⟩
  refine ⟨_,rfl,l,svs,rfl,.inl (SqL.of hl1),_,_,rfl,rfl,_,rfl,?_⟩
  rcases List.eq_nil_or_concat svs with e | ⟨s0,u,e⟩
  ·subst e
   have e0 : (qs.take i).foldl step [] = [] := List.eq_nil_of_length_eq_zero (by rw [← hlen]; rfl)
   refine M2 (fun c=>absurd c (by simp)) (fun _=>L5 ?_)
   refine ⟨_,rfl,.inl ⟨rfl,_,SqL.of hl1⟩,_,rfl,_,rfl,M0,fun pp hpp=>?_⟩
   refine ⟨l,[],_,rfl,rfl,A8 hpp _ _ _ hl1,hsz,?_⟩
   exact fin H' (Same.refl _) pp hpp (by rw [e0]; rfl)
  ·rw [List.concat_eq_append] at e
   subst e
   obtain ⟨ss0,lst,ess,hS0,hu⟩ := bX hS
   rw [ess] at hS fin ⊢
   refine M2 (fun _=>?_) (fun c=>absurd (by rw [List.length_append,List.length_singleton]; exact decide_eq_true (by omega)) c)
   obtain ⟨au,xu,yu,rfl,hqu,hxu,hyu⟩ := hu
   refine ⟨_,rfl,_,rfl,l,_,_,_,rfl,rfl,SqL.of hl1,jE s0 _,au,_,_,_,rfl,rfl,hqu,rfl,_,rfl,yu,x1,lst.2,p.1,rfl,hyu,hx1,fun H3 g3=>⟨_,rfl,?_⟩⟩
   have h3l := g3 _ _ hl1
   refine M2 (fun c=>?_) (fun c=>?_)
   ·refine ⟨_,rfl,_,rfl,l,_,_,_,rfl,rfl,SqL.of h3l,jE s0 _,au,_,_,_,rfl,rfl,g3.seqT hqu,rfl,?_⟩
    refine ⟨_,rfl,_,rfl,l,_,_,_,rfl,rfl,SqL.of h3l,jE s0 _,au,_,_,_,rfl,rfl,g3.seqT hqu,rfl,_,rfl,yu,y1,lst.2,p.2,rfl,EndV.same g3 hyu,EndV.same g3 hy1,fun H4 v g4 hv=>?_⟩
    refine ⟨M0,fun pp hpp=>?_⟩
    have h4l := g4 _ _ h3l
    have g5 : Same H4 (upd H4 pp (.tup [xu,v])) := A8 hpp _
    have h5l := g5 _ _ h4l
    have ppl : pp ≠ l := Ne.symm (E6 h4l hpp)
    refine ⟨_,rfl,_,rfl,l,_,_,_,rfl,rfl,h5l,AF1 s0 _,?_⟩
    rw [AC0]
    refine ⟨_,_,_,rfl,(g.trans (Grow.of (g3.trans (g4.trans g5)))).trans O0,A5,?_⟩
    show Paired _ _ (step (ss0 ++ [lst]) p)
    rw [bP]
    unfold hG
    rw [if_pos c]
    have mv : ∀ {z : V} {pr : Pr},PairV K H' z pr → PairV K (upd (upd H4 pp (.tup [xu,v])) l (.lst (s0 ++ [.ref pp]))) z pr := fun z=>PairV.grow O0 h5l (PairV.same g5 (PairV.same g4 (PairV.same g3 z)))
    exact PySem.Paired.snoc (L2.Paired.mapP hS0 fun _ _ z=>mv z) ⟨pp,xu,v,rfl,SqT.of (by rw [B7 ppl]; exact A5),EndV.grow O0 h5l (EndV.same g5 (EndV.same g4 (EndV.same g3 hxu))),EndV.grow O0 h5l (EndV.same g5 hv)⟩
   ·refine ⟨_,rfl,.inl ⟨rfl,_,SqL.of h3l⟩,_,rfl,_,rfl,M0,fun pp hpp=>?_⟩
    refine ⟨l,_,_,rfl,rfl,A8 hpp _ _ _ h3l,hsz,?_⟩
    refine fin H3 g3 pp hpp ?_
    rw [bP]
    unfold hG
    rw [if_neg c]
 ·obtain ⟨x,y,svs,rfl,g,hl1,hS⟩ := hinv
  rw [lo,List.take_length] at hS
  refine ⟨_,rfl,l,svs,rfl,.inl ⟨SqL.of hl1,fun t ht=>?_⟩⟩
  obtain ⟨ff,mm⟩ := AT5 hperm hok hpw
  have gT : Same H' (upd H' t (.tup svs)) := A8 ht _
  refine q _ _ _ (fun z o ho=>?_) ⟨t,svs,rfl,SqT.of A5,L2.Paired.mapP hS fun _ _ z=>PairV.same gT z⟩ ff mm ?_
  ·have zl : z ≠ l := fun e=>by subst e; rw [hl] at ho; cases ho
   exact gT _ _ (g _ _ zl (g2 _ _ (g1 _ _ ho)))
  ·have := jC qs []
   simp only [List.length_nil] at this
   omega
end
end Law
namespace Law
open PySem L2 L2.Sp
section
variable {P : Program} {w : World} {K : PySem.W.Frag} {mg : Str → Option Value} {base : Heap} {f : Addr} {fd : FuncData}
theorem pW {n : Int} {p : Pr} (h : aM p = false) : M4 n p = false := by
 obtain ⟨a,b⟩ := p
 cases a <;> cases b <;> simp [aM,M4,U7,gI] at h ⊢
 omega
abbrev sN : Stmt := N3 1
theorem BD8 : G0 ["pairs"] ["pairs"] (B6 sN) := ⟨rfl,rfl,rfl,by decide +kernel,rfl,by decide +kernel,by decide +kernel⟩
def AB9 (K : PySem.W.Frag) : Sp := fun args H Q _=>∃ (a : Addr) (vs : List V) (ps : List Pr),args = [.ref a] ∧ SqL K H a vs ∧ vs.length < 64 ∧ Paired (OPairV K H) vs ps ∧
 ∀ (H' : Hp) (u : V) (ss : List Pr),Same H H' → SpansV K H' u ss → Form ss → (∀ n,J6 n ss = J6 n ps) → ss.length ≤ ps.length → Q u H'
theorem AJ0 : (["low","high"] : List Str).Nodup := by decide +kernel
theorem BA9 (F : Fun K "spans_of" "spans_of" sN f fd) (C1 : Cal P w K mg base 1 "has_numbers" ["low","high"] vE) (C2 : Cal P w K mg base 1 "end_of" ["number"] (vF K)) (C3 : Cal P w K mg base 2 "put_together" ["found"] (uY K)) :
  FnOk P w K mg base L9 3 f fd ["pairs"] (AB9 K) := by
 refine F.ok BD8 (fun vs H Q E h=>?_) (fun cdv A outer s H vs Q E hr h=>?_)
 ·obtain ⟨a,vs,ps,rfl,_⟩ := h
  rfl
 obtain ⟨a0,vs,ps,rfl,hq,h64,hP,q⟩ := h
 have hr1 := hr.mono (show 1 ≤ 2 by decide)
 refine ⟨_,A9 (D8 (B8 C3 hr rfl (A0 (U6 (N' := ["low","high"]) (fr := [none,none]) (own := [0,1]) ⟨rfl,rfl,rfl,rfl,rfl,rfl,rfl⟩ rfl (U5 (pv 0))
  (fun _ _ _ _=>V2 (n := 2) rfl (K1 (G5 (i := 0) AJ0 rfl (Or.inl rfl)) (K1 (G5 (i := 1) AJ0 rfl (Or.inl rfl)) T2))) (dH (eO 0 1))
  (fun _ _ _ _=>sU (Q6 (B8 C1 hr1 rfl (A0 (pv 0) (A0 (pv 1) A6)))))
  (fun _ _ _ _=>G1 (A0 (B8 C2 hr1 rfl (A0 (pv 0) A6)) (A0 (B8 C2 hr1 rfl (A0 (pv 1) A6)) A6)))) A6))),?_⟩
 have hvl := hP.length
 refine ⟨_,rfl,a0,rfl,⟨_,hq⟩,fun l hl=>?_⟩
 have g1 : Same H (upd H l (.lst [])) := A8 hl _
 refine cI (xs := vs) (fun i ys H'=>Grow l (upd H l (.lst [])) H' ∧ H' l = some (.lst ys) ∧ Paired (PairV K H') ys ((ps.take i).filter aM) ∧ ys.length ≤ i) ⟨Grow.refl,A5,.nil,Nat.le_refl _⟩
  (fun i ys H' _ ⟨g,_⟩=>SqL.past g1 g hl hq) (fun i x ys H' hx ⟨g,hl1,hS,hlen⟩=>?_) (fun ys H' ⟨g,hl1,hS,hlen⟩=>?_)
 ·obtain ⟨p,hp,hxp⟩ := P5 hP hx
  have hi := (List.getElem?_eq_some_iff.mp hx).1
  obtain ⟨ax,rfl,hqx⟩ := OPairV.grow g A5 (OPairV.same g1 hxp)
  refine ⟨ax,_,rfl,hqx,rfl,_,_,rfl,_,_,rfl,rfl,?_⟩
  refine ⟨_,rfl,_,rfl,p.1,p.2,rfl,_,rfl,?_⟩
  rw [M5 hp,List.filter_append]
  refine M2 (fun c=>?_) (fun c=>?_)
  ·refine ⟨_,rfl,p.1,rfl,fun H3 v3 g3 hv3=>⟨_,rfl,p.2,rfl,fun H4 v4 g4 hv4=>⟨M0,fun pp hpp=>?_⟩⟩⟩
   have g5 : Same H4 (upd H4 pp (.tup [v3,v4])) := A8 hpp _
   have h4l := g4 _ _ (g3 _ _ hl1)
   have h5l := g5 _ _ h4l
   have ppl : pp ≠ l := Ne.symm (E6 h4l hpp)
   refine ⟨h5l,P0 (by omega),(g.trans (Grow.of (g3.trans (g4.trans g5)))).trans O0,A5,?_,by rw [List.length_append,List.length_singleton]; omega⟩
   have e1 : [p].filter aM = [p] := by rw [List.filter_cons,if_pos c]; rfl
   rw [e1]
   exact PySem.Paired.snoc (L2.Paired.mapP hS fun _ _ z=>PairV.grow O0 h5l (PairV.same g5 (PairV.same g4 (PairV.same g3 z))))
    ⟨pp,v3,v4,rfl,SqT.of (by rw [B7 ppl]; exact A5),EndV.grow O0 h5l (EndV.same g5 (EndV.same g4 hv3)),EndV.grow O0 h5l (EndV.same g5 hv4)⟩
  ·have e1 : [p].filter aM = [] := by rw [List.filter_cons,if_neg c]; rfl
   rw [e1,List.append_nil]
   exact ⟨g,hl1,hS,by omega⟩
 ·rw [hvl,List.take_length] at hS
  have hsl := hS.length
  refine ⟨l,ys,_,rfl,.inl (SqL.of hl1),by omega,hS,fun p hp=>(tI p).mp (List.mem_filter.mp hp).2,fun H'' u ss gS hSp ff mm ll=>?_⟩
  refine q H'' u ss ((past g1 g hl).trans gS) hSp ff (fun n=>by rw [mm,rV n ps aM (fun p hp=>pW hp)]) (Nat.le_trans ll (List.length_filter_le _ _))
abbrev iG : Stmt := N3 8
theorem AS9 : G0 ["low","number","high"] ["low","number","high"] (B6 iG) := ⟨rfl,rfl,rfl,by decide +kernel,rfl,by decide +kernel,by decide +kernel⟩
def pD (K : PySem.W.Frag) : Sp := fun args H Q _=>∃ (x y : V) (n : Int) (p : Pr),args = [x,.int n,y] ∧ EndV K H x p.1 ∧ EndV K H y p.2 ∧ ∀ H',Same H H' → Q (.bl (M4 n p)) H'
theorem AO2 (F : Fun K "is_between" "is_between" iG f fd) : FnOk P w K mg base L9 1 f fd ["low","number","high"] (pD K) := by
 refine F.ok AS9 (fun vs H Q E h=>?_) (fun cdv A outer s H vs Q E hr h=>?_)
 ·obtain ⟨x,y,n,p,rfl,_⟩ := h
  rfl
 obtain ⟨x,y,n,⟨lo,hi⟩,rfl,hx,hy,q⟩ := h
 refine ⟨_,A9 (D8 (bE (bW (J5 (dI hr.units) (pv 0) (G1 A6) (D7 _)) (T3 (J5 jS (D9 E8 (pv 0) A7 (fun _ _=>rfl)) (pv 1) (D7 _))))
  (T3 (bW (J5 (dI hr.units) (pv 2) (G1 A6) (D7 _)) (T3 (J5 jS (pv 1) (D9 E8 (pv 2) A7 (fun _ _=>rfl)) (D7 _))))))),?_⟩
 obtain ⟨ax,rfl,qx⟩ := hx
 obtain ⟨ay,rfl,qy⟩ := hy
 refine ⟨_,rfl,X8,fun p hp=>?_⟩
 have g1 : Same H (upd H p (.tup [])) := A8 hp _
 refine ⟨lo,none,⟨ax,rfl,g1.seqT qx⟩,V9,_,rfl,?_⟩
 have second : ∀ H1,Same H H1 → U7 lo n = true → ∃ v,(L2.start ["low","number","high"] [.ref ax,.int n,.ref ay])[2]? = some (some v) ∧ ([] : List V).length ≤ sizeLine ∧ ∀ p,H1 p = none → ∃ a b,EndV K (upd H1 p (.tup [])) v a ∧ EndV K (upd H1 p (.tup [])) (.ref p) b ∧
   ∃ c,V.bl (decide (a = b)) = .bl c ∧ if c = true then Q (.bl true) (upd H1 p (.tup [])) else ∃ v,(L2.start ["low","number","high"] [.ref ax,.int n,.ref ay])[1]? = some (some v) ∧ ∃ u,(L2.start ["low","number","high"] [.ref ax,.int n,.ref ay])[2]? = some (some u) ∧
    ∃ p' xs i z,u = .ref p' ∧ V.int 0 = .int i ∧ SqT K (upd H1 p (.tup [])) p' xs ∧ Y0 xs i = some z ∧ ∃ i j,v = .int i ∧ z = .int j ∧ Q (.bl (decide (i ≤ j))) (upd H1 p (.tup [])) := by
  intro H1 gg hlo
  refine ⟨_,rfl,X8,fun p hp=>?_⟩
  have g2 := gg.trans (A8 hp (.tup []))
  refine ⟨hi,none,⟨ay,rfl,g2.seqT qy⟩,V9,_,rfl,?_⟩
  have q2 := q _ g2
  unfold M4 at q2
  rw [hlo,Bool.true_and] at q2
  cases hi with
  | none=>exact K8 q2
  | some b=>exact L5 ⟨_,rfl,_,rfl,ay,_,_,_,rfl,rfl,g2.seqT qy,rfl,_,_,rfl,rfl,q2⟩
 cases lo with
 | none=>exact K8 ⟨true,rfl,K8 (second _ g1 rfl)⟩
 | some a =>
  refine L5 ⟨_,rfl,ax,_,_,_,rfl,rfl,g1.seqT qx,rfl,_,rfl,_,_,rfl,rfl,_,rfl,?_⟩
  by_cases c : a ≤ n
  ·rw [decide_eq_true c]
   exact K8 (second _ g1 (by simp [U7,c]))
  ·rw [decide_eq_false c]
   refine L5 ?_
   have q2 := q _ g1
   unfold M4 at q2
   have e : U7 (some a) n = false := by simp [U7]; omega
   have q3 : Q (.bl (U7 (some a) n && gI n hi)) (upd H p (.tup [])) := q2
   rw [e,Bool.false_and] at q3
   exact q3
abbrev sQ : Stmt := N3 7
theorem BE0 : G0 ["spans","number"] ["spans","number"] (B6 sQ) := ⟨rfl,rfl,rfl,by decide +kernel,rfl,by decide +kernel,by decide +kernel⟩
def vD (K : PySem.W.Frag) : Sp := fun args H Q _=>∃ (v : V) (n : Int) (ss : List Pr),args = [v,.int n] ∧ SpansV K H v ss ∧ ss.length ≤ 1000 ∧ ∀ H',Same H H' → Q (.bl (J6 n ss)) H'
theorem yJ : (["low","high","number"] : List Str).Nodup := by decide +kernel
theorem BB2 (F : Fun K "in_spans" "in_spans" sQ f fd) (C1 : Cal P w K mg base 1 "is_between" ["low","number","high"] (pD K)) (m1 : mg "any" = none) : FnOk P w K mg base L9 2 f fd ["spans","number"] (vD K) := by
 refine F.ok BE0 (fun vs H Q E h=>?_) (fun cdv A outer s H vs Q E hr h=>?_)
 ·obtain ⟨x,n,ss,rfl,_⟩ := h
  rfl
 obtain ⟨v,n,ss,rfl,⟨a0,vs,rfl,hq,hP⟩,hz,q⟩ := h
 refine ⟨_,A9 (D8 (K6 (nV rfl) rfl m1 AX6 (A0 (U6 (N' := ["low","high","number"]) (fr := [none,none,some 1]) (own := [0,1]) ⟨rfl,rfl,rfl,rfl,rfl,rfl,rfl⟩ rfl (bC (pv 0))
  (fun _ _ _ _=>V2 (n := 2) rfl (K1 (G5 (i := 0) yJ rfl (Or.inl rfl)) (K1 (G5 (i := 1) yJ rfl (Or.inl rfl)) T2))) (dH (eO 0 1))
  (fun _ _ _ _=>R7)
  (fun _ _ _ _=>B8 C1 hr rfl (A0 (pv 0) (A0 (pv 2) (A0 (pv 1) A6))))) A6))),?_⟩
 have hvl := hP.length
 refine ⟨_,rfl,a0,rfl,⟨_,hq⟩,fun l hl=>?_⟩
 have g1 : Same H (upd H l (.lst [])) := A8 hl _
 refine fB (xs := vs) (fun i ys H'=>Grow l (upd H l (.lst [])) H' ∧ H' l = some (.lst ys) ∧ ys = (ss.take i).map (fun p=>V.bl (M4 n p)) ∧ i ≤ ss.length) ⟨Grow.refl,A5,rfl,Nat.zero_le _⟩
  (fun i ys H' _ ⟨g,_⟩=>g.sqT A5 (g1.seqT hq)) (fun i x ys H' hx ⟨g,hl1,hS,hlen⟩=>?_) (fun ys H' ⟨g,hl1,hS,hlen⟩=>?_)
 ·obtain ⟨p,hp,hxp⟩ := P5 hP hx
  have hi := (List.getElem?_eq_some_iff.mp hx).1
  obtain ⟨ax,x1,y1,rfl,hqx,hx1,hy1⟩ := PairV.grow g A5 (PairV.same g1 hxp)
  refine ⟨ax,_,rfl,hqx,rfl,_,_,rfl,_,_,rfl,rfl,?_⟩
  refine aG ?_
  refine ⟨_,rfl,_,rfl,_,rfl,x1,y1,n,p,rfl,hx1,hy1,fun H3 g3=>?_⟩
  have h3l := g3 _ _ hl1
  have hyl : ys.length ≤ 1000 := by rw [hS,List.length_map,List.length_take]; omega
  refine ⟨h3l,P0 hyl,(g.trans (Grow.of g3)).trans O0,A5,?_,by omega⟩
  rw [M5 hp,List.map_append,hS]
  rfl
 ·rw [hvl,List.take_length] at hS
  have e : ys = List.map V.bl (ss.map (M4 n)) := by rw [hS,List.map_map]; rfl
  refine ⟨l,ss.map (M4 n),rfl,SqL.of (by rw [← e]; exact hl1),?_⟩
  have e2 : (ss.map (M4 n)).any id = J6 n ss := by rw [List.any_map]; rfl
  rw [e2]
  exact q _ (past g1 g hl)
end
end Law
namespace Law
open PySem L2 L2.Sp
structure KF (K : PySem.W.Frag) (H H' : Hp) : Prop where
 t : ∀ a ys,SqT K H a ys → SqT K H' a ys
 f : ∀ a ys,FT H a ys → FT H' a ys
structure KT (K : PySem.W.Frag) (H H' : Hp) : Prop extends KF K H H' where
 l : ∀ a ys,(∀ y ∈ ys,∀ i : Int,y ≠ .int i) → H a = some (.lst ys) → H' a = some (.lst ys)
section
variable {K : PySem.W.Frag} {H H0 H1 H' : Hp} {st l T : Addr} {o : HO} {pos : Pos} {qual : Str}
theorem KT.trans (a : KT K H H1) (b : KT K H1 H') : KT K H H' := ⟨⟨fun x y h=>b.t x y (a.t x y h),fun x y h=>b.f x y (a.f x y h)⟩,fun x y n h=>b.l x y n (a.l x y n h)⟩
theorem KF.trans (a : KF K H H1) (b : KF K H1 H') : KF K H H' := ⟨fun x y h=>b.t x y (a.t x y h),fun x y h=>b.f x y (a.f x y h)⟩
theorem KF.grow (g : Grow st H H') (h1 : ∀ xs,H st ≠ some (.tup xs)) (h2 : ∀ xs o,H st ≠ some (.frz o (.tup xs))) : KF K H H' :=
 ⟨fun a ys h=>h.keep fun b u=>⟨fun q=>g b _ (fun e=>h1 _ (e ▸ q)) q,fun o q=>g b _ (fun e=>h2 _ _ (e ▸ q)) q⟩,fun a ys ⟨o,h,d⟩=>⟨o,g a _ (fun e=>h2 _ _ (e ▸ h)) h,d⟩⟩
theorem KF.lst {xs : List V} (h : H l = some (.lst xs)) : KF K H (upd H l o) := KF.grow O0 (fun xs z=>by rw [h] at z; cases z) (fun xs o z=>by rw [h] at z; cases z)
theorem KF.dct {xs : List (G3 × V)} (h : H l = some (.dK xs)) : KF K H (upd H l o) := KF.grow O0 (fun xs z=>by rw [h] at z; cases z) (fun xs o z=>by rw [h] at z; cases z)
theorem KT.grow (g : Grow st H H') (h1 : ∀ xs,H st ≠ some (.tup xs)) (h2 : ∀ xs o,H st ≠ some (.frz o (.tup xs))) (h3 : ∀ xs,(∀ y ∈ xs,∀ i : Int,y ≠ .int i) → H st ≠ some (.lst xs)) : KT K H H' :=
 ⟨KF.grow g h1 h2,fun a ys n h=>g a _ (fun e=>h3 _ n (e ▸ h)) h⟩
theorem KT.same (g : Same H H') : KT K H H' := ⟨⟨fun _ _ h=>g.seqT h,fun a ys ⟨o,h,d⟩=>⟨o,g _ _ h,d⟩⟩,fun a ys _ h=>g _ _ h⟩
structure DS (st : Addr) (H0 H : Hp) : Prop where
 g : Grow st H0 H
 s : ∃ y : Int,H st = some (.lst [.int y])
 b : ∃ x : Int,H0 st = some (.lst [.int x])
theorem DS.start {x : Int} (h : H st = some (.lst [.int x])) : DS st H H := ⟨Grow.refl,⟨x,h⟩,⟨x,h⟩⟩
theorem DS.same (d : DS st H0 H) (g : Same H H') : DS st H0 H' := ⟨fun b o hb h=>g _ _ (d.g b o hb h),by obtain ⟨y,h⟩ := d.s; exact ⟨y,g _ _ h⟩,d.b⟩
theorem DS.more (d : DS st H0 H) (d' : DS st H H') : DS st H0 H' := ⟨d.g.trans d'.g,d'.s,d.b⟩
theorem DS.next (d : DS st H0 H) (y : Int) : DS st H0 (upd H st (.lst [.int y])) := ⟨d.g.trans O0,⟨y,A5⟩,d.b⟩
theorem DS.old (d : DS st H0 H) (hl : H l = none) : H0 l = none := by
 cases e : H0 l with
 | none=>rfl
 | some o =>
  by_cases e2 : l = st
  ·obtain ⟨y,h⟩ := d.s; rw [e2,h] at hl; cases hl
  ·rw [d.g l o e2 e] at hl; cases hl
theorem DS.ne (d : DS st H0 H) (hl : H0 l = none) : l ≠ st := fun e=>by obtain ⟨x,h⟩ := d.b; rw [← e,hl] at h; cases h
theorem DS.put (d : DS st H0 H) (hl : H0 l = none) : DS st H0 (upd H l o) := by
 have n := d.ne hl
 exact ⟨fun b u hb h=>by rw [B7 (E6 h hl)]; exact d.g b u hb h,by obtain ⟨y,h⟩ := d.s; exact ⟨y,by rw [B7 (Ne.symm n)]; exact h⟩,d.b⟩
theorem DS.kt (d : DS st H0 H) : KT K H0 H := by
 obtain ⟨x,h⟩ := d.b
 exact KT.grow d.g (fun xs z=>by rw [h] at z; cases z) (fun xs o z=>by rw [h] at z; cases z) (fun xs n z=>by rw [h] at z; cases z; exact n _ List.mem_cons_self x rfl)
structure TB (T : Addr) (pos : Pos) (qual : Str) (H0 H : Hp) : Prop where
 g : Grow T H0 H
 t : TabH H T pos qual
 b : TabH H0 T pos qual
theorem TB.start (h : TabH H T pos qual) : TB T pos qual H H := ⟨Grow.refl,h,h⟩
theorem TB.same (d : TB T pos qual H0 H) (g : Same H H') : TB T pos qual H0 H' := ⟨fun b o hb h=>g _ _ (d.g b o hb h),d.t.same g,d.b⟩
theorem TB.more (d : TB T pos qual H0 H) (d' : TB T pos qual H H') : TB T pos qual H0 H' := ⟨d.g.trans d'.g,d'.t,d.b⟩
theorem TB.old (d : TB T pos qual H0 H) (hl : H l = none) : H0 l = none := by
 cases e : H0 l with
 | none=>rfl
 | some o =>
  by_cases e2 : l = T
  ·obtain ⟨ps,h,_⟩ := d.t.ex; rw [e2,h] at hl; cases hl
  ·rw [d.g l o e2 e] at hl; cases hl
theorem TB.ne (d : TB T pos qual H0 H) (hl : H0 l = none) : l ≠ T := fun e=>by obtain ⟨ps,h,_⟩ := d.b.ex; rw [← e,hl] at h; cases h
theorem TB.neL {xs : List V} (d : TB T pos qual H0 H) (hl : H0 l = some (.lst xs)) : l ≠ T := fun e=>by obtain ⟨ps,h,_⟩ := d.b.ex; rw [← e,hl] at h; cases h
theorem TB.lst {xs : List V} (d : TB T pos qual H0 H) (hl : H0 l = some (.lst xs)) : H l = some (.lst xs) := d.g _ _ (d.neL hl) hl
theorem TB.kt (d : TB T pos qual H0 H) : KT K H0 H := by
 obtain ⟨ps,h,_⟩ := d.b.ex
 exact KT.grow d.g (fun xs z=>by rw [h] at z; cases z) (fun xs o z=>by rw [h] at z; cases z) (fun xs n z=>by rw [h] at z; cases z)
theorem xB (h : TabH H T pos qual) (g : ∀ b φ,H b = some (.ext φ) → H' b = some (.ext φ)) : TabH H' T pos qual := by
 obtain ⟨ps,h1,h2,h3⟩ := h.ex
 refine ⟨ps,g _ _ h1,h2,?_⟩
 rcases h3 with h3 | ⟨c,h3,h4⟩
 ·exact .inl h3
 ·exact .inr ⟨c,h3,g _ _ h4⟩
theorem oT (h : TabH H T pos qual) (d : DS st H H') : TabH H' T pos qual := xB h fun b φ e=>d.g _ _ (fun z=>by obtain ⟨x,hx⟩ := d.b; rw [z,hx] at e; cases e) e
theorem AK8 {xs ys : List V} (h : TabH H T pos qual) (hl : H l = some (.lst xs)) : TabH (upd H l (.lst ys)) T pos qual := xB h fun b φ e=>by rw [B7 (fun z=>by rw [z,hl] at e; cases e)]; exact e
theorem TB.put {xs ys : List V} (d : TB T pos qual H0 H) (hn : H0 l = none) (hl : H l = some (.lst xs)) : TB T pos qual H0 (upd H l (.lst ys)) := ⟨fun b o hb h=>by rw [B7 (E6 h hn)]; exact d.g b o hb h,AK8 d.t hl,d.b⟩
theorem TB.new (d : TB T pos qual H0 H) (hl : H l = none) : TB T pos qual H0 (upd H l o) := d.same (A8 hl o)
end
mutual
def bH : PyData → Bool
 | .tuple ds=>eR ds
 | .list _=>false
 | .dict _=>false
 | .none=>true
 | .bool _=>true
 | .int _=>true
 | .str _=>true
def eR : List PyData → Bool
 | []=>true
 | d :: ds=>bH d && eR ds
end
section
variable {K : PySem.W.Frag} {H H' : Hp}
mutual
theorem DatV.kt (k : KF K H H') : ∀ {d : PyData} {v : V},bH d = true → DatV K H d v → DatV K H' d v
 | .none,v,n,h=>by simp only [DatV] at h ⊢; exact h
 | .bool b,v,n,h=>by simp only [DatV] at h ⊢; exact h
 | .int i,v,n,h=>by simp only [DatV] at h ⊢; exact h
 | .str x,v,n,h=>by simp only [DatV] at h ⊢; exact h
 | .list ds,v,n,h=>by simp only [bH] at n; cases n
 | .tuple ds,v,n,h=>by
  simp only [DatV] at h ⊢
  obtain ⟨a,ys,e,hq,hd⟩ := h
  exact ⟨a,ys,e,k.t a ys hq,DatAll.kt k (by simpa only [bH] using n) hd⟩
 | .dict _,v,n,h=>by simp only [DatV] at h
theorem DatAll.kt (k : KF K H H') : ∀ {ds : List PyData} {vs : List V},eR ds = true → DatAll K H ds vs → DatAll K H' ds vs
 | [],vs,n,h=>by simp only [DatAll] at h ⊢; exact h
 | d :: ds,vs,n,h=>by
  simp only [DatAll] at h ⊢
  simp only [eR,Bool.and_eq_true] at n
  obtain ⟨y,r,e,h1,h2⟩ := h
  exact ⟨y,r,e,DatV.kt k n.1 h1,DatAll.kt k n.2 h2⟩
end
theorem DatAll.get : ∀ {ds : List PyData} {vs : List V} {j : Nat} {d : PyData},DatAll K H ds vs → ds[j]? = some d → ∃ u,vs[j]? = some u ∧ DatV K H d u
 | [],vs,j,d,h,e=>by simp at e
 | x :: ds,vs,0,d,h,e=>by
  simp only [DatAll] at h
  obtain ⟨y,r,rfl,h1,_⟩ := h
  simp at e
  subst e
  exact ⟨y,rfl,h1⟩
 | x :: ds,vs,j + 1,d,h,e=>by
  simp only [DatAll] at h
  obtain ⟨y,r,rfl,_,h2⟩ := h
  simpa using DatAll.get (j := j) h2 (by simpa using e)
theorem DatAll.length : ∀ {ds : List PyData} {vs : List V},DatAll K H ds vs → vs.length = ds.length
 | [],vs,h=>by simp only [DatAll] at h; subst h; rfl
 | x :: ds,vs,h=>by
  simp only [DatAll] at h
  obtain ⟨y,r,rfl,_,h2⟩ := h
  rw [List.length_cons,List.length_cons,DatAll.length h2]
theorem N6 {ds : List PyData} {v : V} : DatV K H (.tuple ds) v ↔ ∃ a ys,v = .ref a ∧ SqT K H a ys ∧ DatAll K H ds ys := by simp only [DatV]
theorem P1 {b : Bool} {v : V} : DatV K H (.bool b) v ↔ v = .bl b := by simp only [DatV]
theorem G9 {b : Str} {v : V} : DatV K H (.str b) v ↔ v = .str b := by simp only [DatV]
theorem zK {b : Int} {v : V} : DatV K H (.int b) v ↔ v = .int b := by simp only [DatV]
theorem L7 : DatAll K H [] [] := by simp only [DatAll]
theorem E5 {d : PyData} {ds : List PyData} {v : V} {vs : List V} (h : DatV K H d v) (h' : DatAll K H ds vs) : DatAll K H (d :: ds) (v :: vs) := by simp only [DatAll]; exact ⟨v,vs,rfl,h,h'⟩
theorem N7 {d : PyData} {v : V} (h : DatV K H d v) : DatAll K H [d] [v] := E5 h L7
def AC6 (K : PySem.W.Frag) : R2 := fun x y H Q=>∃ (ds : List PyData) (j : Nat) (d : PyData),DatV K H (.tuple ds) x ∧ y = .int (j : Int) ∧ ds[j]? = some d ∧ ∀ u,DatV K H d u → Q u H
theorem P2 {X : Cx} : IxR X (AC6 X.K) := fun value slice pins s σ H x y v u Q I rx ry h hs=>by
 obtain ⟨ds,j,d,hd,e,hj,q⟩ := h
 obtain ⟨a,ys,e2,hq,ha⟩ := N6.mp hd
 obtain ⟨z,hz,hdz⟩ := DatAll.get ha hj
 exact E8 value slice pins s σ H x y v u Q I rx ry ⟨a,ys,_,z,e2,e,hq,Q7 hz,q z hdz⟩ hs
end
inductive Th where
 | non | tru (b : Bool) | num (i : Int) | txt (s : Str) | lst (xs : List Th) | rc (ns : List Str) (xs : List Th)
inductive Tr where
 | any | nothing | sort (k : Nat) | span (lo hi : En) | text (s : Str) | truth (b : Bool) | lst (ts : List Tr) (m : Bool) | rc (ns : List Str) (ms : List Bool) (ts : List Tr) (m : Bool)
abbrev dS (x : Str) : PyData := .str x
def wN : Str := "none"
def wT : Str := "truth"
def wI : Str := "number"
def wS : Str := "text"
def wL : Str := "list"
def wR : Str := "record"
def dP : Str := "any"
def jH : Str := "nothing"
def AZ0 : Str := "sort"
def uQ : Str := "span"
def P3 : List Str := [wN,wT,wI,wS,wL,wR]
mutual
def K0 : Th → PyData
 | .non=>.tuple [dS wN]
 | .tru b=>.tuple [dS wT,.bool b]
 | .num i=>.tuple [dS wI,.int i]
 | .txt s=>.tuple [dS wS,dS s]
 | .lst xs=>.tuple [dS wL,.tuple (S5 xs)]
 | .rc ns xs=>.tuple [dS wR,.tuple (Q3 ns xs)]
def S5 : List Th → List PyData
 | []=>[]
 | x :: xs=>K0 x :: S5 xs
def Q3 : List Str → List Th → List PyData
 | n :: ns,x :: xs=>.tuple [dS n,K0 x] :: Q3 ns xs
 | [],_=>[]
 | _ :: _,[]=>[]
end
section
variable {K : PySem.W.Frag} {H H' N : Hp}
mutual
def ThV (K : PySem.W.Frag) (H : Hp) : Th → V → Prop
 | .non,v=>∃ a,v = .ref a ∧ SqT K H a [.str wN]
 | .tru b,v=>∃ a,v = .ref a ∧ SqT K H a [.str wT,.bl b]
 | .num i,v=>∃ a,v = .ref a ∧ SqT K H a [.str wI,.int i]
 | .txt s,v=>∃ a,v = .ref a ∧ SqT K H a [.str wS,.str s]
 | .lst xs,v=>∃ a p ys,v = .ref a ∧ SqT K H a [.str wL,.ref p] ∧ SqT K H p ys ∧ ThAll K H xs ys
 | .rc ns xs,v=>∃ a p ys,v = .ref a ∧ SqT K H a [.str wR,.ref p] ∧ FT H p ys ∧ ThFs K H ns xs ys
def ThAll (K : PySem.W.Frag) (H : Hp) : List Th → List V → Prop
 | [],vs=>vs = []
 | x :: xs,vs=>∃ v r,vs = v :: r ∧ ThV K H x v ∧ ThAll K H xs r
def ThFs (K : PySem.W.Frag) (H : Hp) : List Str → List Th → List V → Prop
 | n :: ns,x :: xs,vs=>∃ c v r,vs = .ref c :: r ∧ SqT K H c [.str n,v] ∧ ThV K H x v ∧ ThFs K H ns xs r
 | [],[],vs=>vs = []
 | [],_ :: _,_=>False
 | _ :: _,[],_=>False
end
mutual
theorem ThV.kt (k : KF K H H') : ∀ {x : Th} {v : V},ThV K H x v → ThV K H' x v
 | .non,v,h=>by simp only [ThV] at h ⊢; obtain ⟨a,e,q⟩ := h; exact ⟨a,e,k.t _ _ q⟩
 | .tru b,v,h=>by simp only [ThV] at h ⊢; obtain ⟨a,e,q⟩ := h; exact ⟨a,e,k.t _ _ q⟩
 | .num i,v,h=>by simp only [ThV] at h ⊢; obtain ⟨a,e,q⟩ := h; exact ⟨a,e,k.t _ _ q⟩
 | .txt s,v,h=>by simp only [ThV] at h ⊢; obtain ⟨a,e,q⟩ := h; exact ⟨a,e,k.t _ _ q⟩
 | .lst xs,v,h=>by simp only [ThV] at h ⊢; obtain ⟨a,p,ys,e,q,q2,q3⟩ := h; exact ⟨a,p,ys,e,k.t _ _ q,k.t _ _ q2,ThAll.kt k q3⟩
 | .rc ns xs,v,h=>by simp only [ThV] at h ⊢; obtain ⟨a,p,ys,e,q,q2,q3⟩ := h; exact ⟨a,p,ys,e,k.t _ _ q,k.f _ _ q2,ThFs.kt k q3⟩
theorem ThAll.kt (k : KF K H H') : ∀ {xs : List Th} {vs : List V},ThAll K H xs vs → ThAll K H' xs vs
 | [],vs,h=>by simp only [ThAll] at h ⊢; exact h
 | x :: xs,vs,h=>by simp only [ThAll] at h ⊢; obtain ⟨v,r,e,h1,h2⟩ := h; exact ⟨v,r,e,ThV.kt k h1,ThAll.kt k h2⟩
theorem ThFs.kt (k : KF K H H') : ∀ {ns : List Str} {xs : List Th} {vs : List V},ThFs K H ns xs vs → ThFs K H' ns xs vs
 | n :: ns,x :: xs,vs,h=>by simp only [ThFs] at h ⊢; obtain ⟨c,v,r,e,q,h1,h2⟩ := h; exact ⟨c,v,r,e,k.t _ _ q,ThV.kt k h1,ThFs.kt k h2⟩
 | [],[],vs,h=>by simp only [ThFs] at h ⊢; exact h
 | [],_ :: _,vs,h=>by simp only [ThFs] at h
 | _ :: _,[],vs,h=>by simp only [ThFs] at h
end
theorem FT.sq {a : Addr} {ys : List V} (h : FT H a ys) : SqT K H a ys := by
 obtain ⟨o,h,_⟩ := h
 exact .inl (.inr ⟨o,h⟩)
mutual
theorem ThV.dat : ∀ {x : Th} {v : V},ThV K H x v → DatV K H (K0 x) v
 | .non,v,h=>by simp only [ThV] at h; obtain ⟨a,e,q⟩ := h; simp only [K0]; exact N6.mpr ⟨a,_,e,q,N7 (G9.mpr rfl)⟩
 | .tru b,v,h=>by simp only [ThV] at h; obtain ⟨a,e,q⟩ := h; simp only [K0]; exact N6.mpr ⟨a,_,e,q,E5 (G9.mpr rfl) (N7 (P1.mpr rfl))⟩
 | .num i,v,h=>by simp only [ThV] at h; obtain ⟨a,e,q⟩ := h; simp only [K0]; exact N6.mpr ⟨a,_,e,q,E5 (G9.mpr rfl) (N7 (zK.mpr rfl))⟩
 | .txt s,v,h=>by simp only [ThV] at h; obtain ⟨a,e,q⟩ := h; simp only [K0]; exact N6.mpr ⟨a,_,e,q,E5 (G9.mpr rfl) (N7 (G9.mpr rfl))⟩
 | .lst xs,v,h=>by simp only [ThV] at h; obtain ⟨a,p,ys,e,q,q2,q3⟩ := h; simp only [K0]; exact N6.mpr ⟨a,_,e,q,E5 (G9.mpr rfl) (N7 (N6.mpr ⟨p,ys,rfl,q2,ThAll.dat q3⟩))⟩
 | .rc ns xs,v,h=>by simp only [ThV] at h; obtain ⟨a,p,ys,e,q,q2,q3⟩ := h; simp only [K0]; exact N6.mpr ⟨a,_,e,q,E5 (G9.mpr rfl) (N7 (N6.mpr ⟨p,ys,rfl,FT.sq q2,ThFs.dat q3⟩))⟩
theorem ThAll.dat : ∀ {xs : List Th} {vs : List V},ThAll K H xs vs → DatAll K H (S5 xs) vs
 | [],vs,h=>by simp only [ThAll] at h; subst h; simp only [S5]; exact L7
 | x :: xs,vs,h=>by simp only [ThAll] at h; obtain ⟨v,r,rfl,h1,h2⟩ := h; simp only [S5]; exact E5 (ThV.dat h1) (ThAll.dat h2)
theorem ThFs.dat : ∀ {ns : List Str} {xs : List Th} {vs : List V},ThFs K H ns xs vs → DatAll K H (Q3 ns xs) vs
 | n :: ns,x :: xs,vs,h=>by simp only [ThFs] at h; obtain ⟨c,v,r,rfl,q,h1,h2⟩ := h; simp only [Q3]; exact E5 (N6.mpr ⟨c,_,rfl,q,E5 (G9.mpr rfl) (N7 (ThV.dat h1))⟩) (ThFs.dat h2)
 | [],[],vs,h=>by simp only [ThFs] at h; subst h; simp only [Q3]; exact L7
 | [],_ :: _,vs,h=>by simp only [ThFs] at h
 | _ :: _,[],vs,h=>by simp only [ThFs] at h
end
theorem ThAll.length : ∀ {xs : List Th} {vs : List V},ThAll K H xs vs → vs.length = xs.length
 | [],vs,h=>by simp only [ThAll] at h; subst h; rfl
 | x :: xs,vs,h=>by simp only [ThAll] at h; obtain ⟨v,r,rfl,h1,h2⟩ := h; rw [List.length_cons,List.length_cons,ThAll.length h2]
theorem ThAll.get : ∀ {xs : List Th} {vs : List V} {i : Nat} {v : V},ThAll K H xs vs → vs[i]? = some v → ∃ x,xs[i]? = some x ∧ ThV K H x v
 | [],vs,i,v,h,e=>by simp only [ThAll] at h; subst h; simp at e
 | x :: xs,vs,0,v,h,e=>by simp only [ThAll] at h; obtain ⟨u,r,rfl,h1,h2⟩ := h; simp at e; subst e; exact ⟨x,rfl,h1⟩
 | x :: xs,vs,i + 1,v,h,e=>by simp only [ThAll] at h; obtain ⟨u,r,rfl,h1,h2⟩ := h; simpa using ThAll.get (i := i) h2 (by simpa using e)
theorem ThAll.snoc : ∀ {xs : List Th} {vs : List V} {x : Th} {v : V},ThAll K H xs vs → ThV K H x v → ThAll K H (xs ++ [x]) (vs ++ [v])
 | [],vs,x,v,h,h'=>by simp only [ThAll] at h; subst h; simp only [List.nil_append,ThAll]; exact ⟨v,[],rfl,h',rfl⟩
 | y :: xs,vs,x,v,h,h'=>by simp only [ThAll] at h; obtain ⟨u,r,rfl,h1,h2⟩ := h; simp only [List.cons_append,ThAll]; exact ⟨u,_,rfl,h1,ThAll.snoc h2 h'⟩
theorem ThFs.length : ∀ {ns : List Str} {xs : List Th} {vs : List V},ThFs K H ns xs vs → vs.length = ns.length ∧ xs.length = ns.length
 | n :: ns,x :: xs,vs,h=>by simp only [ThFs] at h; obtain ⟨c,v,r,rfl,q,h1,h2⟩ := h; have := ThFs.length h2; simp only [List.length_cons]; omega
 | [],[],vs,h=>by simp only [ThFs] at h; subst h; exact ⟨rfl,rfl⟩
 | [],_ :: _,vs,h=>by simp only [ThFs] at h
 | _ :: _,[],vs,h=>by simp only [ThFs] at h
theorem ThFs.get : ∀ {ns : List Str} {xs : List Th} {vs : List V} {i : Nat} {u : V},ThFs K H ns xs vs → vs[i]? = some u → ∃ n x c v,ns[i]? = some n ∧ xs[i]? = some x ∧ u = .ref c ∧ SqT K H c [.str n,v] ∧ ThV K H x v
 | n :: ns,x :: xs,vs,0,u,h,e=>by simp only [ThFs] at h; obtain ⟨c,v,r,rfl,q,h1,h2⟩ := h; simp at e; subst e; exact ⟨n,x,c,v,rfl,rfl,rfl,q,h1⟩
 | n :: ns,x :: xs,vs,i + 1,u,h,e=>by simp only [ThFs] at h; obtain ⟨c,v,r,rfl,q,h1,h2⟩ := h; simpa using ThFs.get (i := i) h2 (by simpa using e)
 | [],[],vs,i,u,h,e=>by simp only [ThFs] at h; subst h; simp at e
 | [],_ :: _,_,_,_,h,e=>by simp only [ThFs] at h
 | _ :: _,[],_,_,_,h,e=>by simp only [ThFs] at h
mutual
def TrV (K : PySem.W.Frag) (H N : Hp) : Tr → V → Prop
 | .any,v=>∃ a,v = .ref a ∧ SqT K H a [.str dP]
 | .nothing,v=>∃ a,v = .ref a ∧ SqT K H a [.str jH]
 | .sort k,v=>∃ a x,v = .ref a ∧ P3[k]? = some x ∧ SqT K H a [.str AZ0,.str x]
 | .span lo hi,v=>∃ a,v = .ref a ∧ SqT K H a [.str uQ,oV lo,oV hi] ∧ ¬ (lo = none ∧ hi = none)
 | .text s,v=>∃ a,v = .ref a ∧ SqT K H a [.str wS,.str s]
 | .truth b,v=>∃ a,v = .ref a ∧ SqT K H a [.str wT,.bl b]
 | .lst ts m,v=>∃ a p ys,v = .ref a ∧ SqT K H a [.str wL,.ref p,.bl m] ∧ H p = some (.lst ys) ∧ N p = none ∧ TrAll K H N ts ys
 | .rc ns ms ts m,v=>∃ a p ys,v = .ref a ∧ SqT K H a [.str wR,.ref p,.bl m] ∧ H p = some (.lst ys) ∧ N p = none ∧ TrFs K H N ns ms ts ys
def TrAll (K : PySem.W.Frag) (H N : Hp) : List Tr → List V → Prop
 | [],vs=>vs = []
 | x :: xs,vs=>∃ c r,vs = .ref c :: r ∧ TrV K H N x (.ref c) ∧ TrAll K H N xs r
def TrFs (K : PySem.W.Frag) (H N : Hp) : List Str → List Bool → List Tr → List V → Prop
 | n :: ns,b :: bs,x :: xs,vs=>∃ c v r,vs = .ref c :: r ∧ SqT K H c [.str n,v,.bl b] ∧ TrV K H N x v ∧ TrFs K H N ns bs xs r
 | [],[],[],vs=>vs = []
 | _,_,_,_=>False
end
theorem TrAll.noI : ∀ {xs : List Tr} {vs : List V},TrAll K H N xs vs → ∀ y ∈ vs,∀ i : Int,y ≠ .int i
 | [],vs,h,y,hy,i=>by simp only [TrAll] at h; subst h; cases hy
 | x :: xs,vs,h,y,hy,i=>by
  simp only [TrAll] at h
  obtain ⟨c,r,rfl,_,h2⟩ := h
  rcases List.mem_cons.mp hy with rfl | hy
  ·intro z; cases z
  ·exact TrAll.noI h2 y hy i
theorem TrFs.noI : ∀ {ns : List Str} {bs : List Bool} {xs : List Tr} {vs : List V},TrFs K H N ns bs xs vs → ∀ y ∈ vs,∀ i : Int,y ≠ .int i
 | n :: ns,b :: bs,x :: xs,vs,h,y,hy,i=>by
  simp only [TrFs] at h
  obtain ⟨c,v,r,rfl,_,_,h2⟩ := h
  rcases List.mem_cons.mp hy with rfl | hy
  ·intro z; cases z
  ·exact TrFs.noI h2 y hy i
 | [],[],[],vs,h,y,hy,i=>by simp only [TrFs] at h; subst h; cases hy
 | [],_ :: _,_,_,h,y,hy,i=>by simp only [TrFs] at h
 | [],[],_ :: _,_,h,y,hy,i=>by simp only [TrFs] at h
 | _ :: _,[],_,_,h,y,hy,i=>by simp only [TrFs] at h
 | _ :: _,_ :: _,[],_,h,y,hy,i=>by simp only [TrFs] at h
mutual
theorem TrV.to {N' : Hp} (k : KF K H H') (kl : ∀ a ys,N a = none → (∀ y ∈ ys,∀ i : Int,y ≠ .int i) → H a = some (.lst ys) → H' a = some (.lst ys) ∧ N' a = none) : ∀ {x : Tr} {v : V},TrV K H N x v → TrV K H' N' x v
 | .any,v,h=>by simp only [TrV] at h ⊢; obtain ⟨a,e,q⟩ := h; exact ⟨a,e,k.t _ _ q⟩
 | .nothing,v,h=>by simp only [TrV] at h ⊢; obtain ⟨a,e,q⟩ := h; exact ⟨a,e,k.t _ _ q⟩
 | .sort n,v,h=>by simp only [TrV] at h ⊢; obtain ⟨a,x,e,e2,q⟩ := h; exact ⟨a,x,e,e2,k.t _ _ q⟩
 | .span lo hi,v,h=>by simp only [TrV] at h ⊢; obtain ⟨a,e,q,n⟩ := h; exact ⟨a,e,k.t _ _ q,n⟩
 | .text s,v,h=>by simp only [TrV] at h ⊢; obtain ⟨a,e,q⟩ := h; exact ⟨a,e,k.t _ _ q⟩
 | .truth s,v,h=>by simp only [TrV] at h ⊢; obtain ⟨a,e,q⟩ := h; exact ⟨a,e,k.t _ _ q⟩
 | .lst ts m,v,h=>by simp only [TrV] at h ⊢; obtain ⟨a,p,ys,e,q,q2,q4,q3⟩ := h; exact ⟨a,p,ys,e,k.t _ _ q,(kl _ _ q4 q3.noI q2).1,(kl _ _ q4 q3.noI q2).2,TrAll.to k kl q3⟩
 | .rc ns ms ts m,v,h=>by simp only [TrV] at h ⊢; obtain ⟨a,p,ys,e,q,q2,q4,q3⟩ := h; exact ⟨a,p,ys,e,k.t _ _ q,(kl _ _ q4 q3.noI q2).1,(kl _ _ q4 q3.noI q2).2,TrFs.to k kl q3⟩
theorem TrAll.to {N' : Hp} (k : KF K H H') (kl : ∀ a ys,N a = none → (∀ y ∈ ys,∀ i : Int,y ≠ .int i) → H a = some (.lst ys) → H' a = some (.lst ys) ∧ N' a = none) : ∀ {xs : List Tr} {vs : List V},TrAll K H N xs vs → TrAll K H' N' xs vs
 | [],vs,h=>by simp only [TrAll] at h ⊢; exact h
 | x :: xs,vs,h=>by simp only [TrAll] at h ⊢; obtain ⟨v,r,e,h1,h2⟩ := h; exact ⟨v,r,e,TrV.to k kl h1,TrAll.to k kl h2⟩
theorem TrFs.to {N' : Hp} (k : KF K H H') (kl : ∀ a ys,N a = none → (∀ y ∈ ys,∀ i : Int,y ≠ .int i) → H a = some (.lst ys) → H' a = some (.lst ys) ∧ N' a = none) : ∀ {ns : List Str} {bs : List Bool} {xs : List Tr} {vs : List V},TrFs K H N ns bs xs vs → TrFs K H' N' ns bs xs vs
 | n :: ns,b :: bs,x :: xs,vs,h=>by simp only [TrFs] at h ⊢; obtain ⟨c,v,r,e,q,h1,h2⟩ := h; exact ⟨c,v,r,e,k.t _ _ q,TrV.to k kl h1,TrFs.to k kl h2⟩
 | [],[],[],vs,h=>by simp only [TrFs] at h ⊢; exact h
 | [],_ :: _,_,_,h=>by simp only [TrFs] at h
 | [],[],_ :: _,_,h=>by simp only [TrFs] at h
 | _ :: _,[],_,_,h=>by simp only [TrFs] at h
 | _ :: _,_ :: _,[],_,h=>by simp only [TrFs] at h
end
theorem TrV.kt (k : KT K H H') {x : Tr} {v : V} (h : TrV K H N x v) : TrV K H' N x v := TrV.to k.toKF (fun a ys n i h=>⟨k.l a ys i h,n⟩) h
theorem TrAll.kt (k : KT K H H') {x : List Tr} {v : List V} (h : TrAll K H N x v) : TrAll K H' N x v := TrAll.to k.toKF (fun a ys n i h=>⟨k.l a ys i h,n⟩) h
theorem TrFs.kt (k : KT K H H') {ns : List Str} {bs : List Bool} {x : List Tr} {v : List V} (h : TrFs K H N ns bs x v) : TrFs K H' N ns bs x v := TrFs.to k.toKF (fun a ys n i h=>⟨k.l a ys i h,n⟩) h
theorem KFl {l : Addr} {xs : List V} {o : HO} (h : H l = some (.lst xs)) : KF K H (upd H l o) := KF.lst h
theorem TrV.put {l : Addr} {xs : List V} {o : HO} {x : Tr} {v : V} (hl : H l = some (.lst xs)) (hn : N l ≠ none) (h : TrV K H N x v) : TrV K (upd H l o) N x v := TrV.to (KFl hl) (fun a ys n i h=>⟨(B7 (fun e : a = l=>hn (by rw [← e]; exact n))).trans h,n⟩) h
theorem TrAll.put {l : Addr} {xs : List V} {o : HO} {x : List Tr} {v : List V} (hl : H l = some (.lst xs)) (hn : N l ≠ none) (h : TrAll K H N x v) : TrAll K (upd H l o) N x v := TrAll.to (KFl hl) (fun a ys n i h=>⟨(B7 (fun e : a = l=>hn (by rw [← e]; exact n))).trans h,n⟩) h
theorem TrFs.put {l : Addr} {xs : List V} {o : HO} {ns : List Str} {bs : List Bool} {x : List Tr} {v : List V} (hl : H l = some (.lst xs)) (hn : N l ≠ none) (h : TrFs K H N ns bs x v) : TrFs K (upd H l o) N ns bs x v := TrFs.to (KFl hl) (fun a ys n i h=>⟨(B7 (fun e : a = l=>hn (by rw [← e]; exact n))).trans h,n⟩) h
theorem TrV.base {N' : Hp} {x : Tr} {v : V} (hn : ∀ a,N a = none → N' a = none) (h : TrV K H N x v) : TrV K H N' x v := TrV.to ⟨fun _ _ h=>h,fun _ _ h=>h⟩ (fun a ys n i h=>⟨h,hn a n⟩) h
theorem TrAll.base {N' : Hp} {x : List Tr} {v : List V} (hn : ∀ a,N a = none → N' a = none) (h : TrAll K H N x v) : TrAll K H N' x v := TrAll.to ⟨fun _ _ h=>h,fun _ _ h=>h⟩ (fun a ys n i h=>⟨h,hn a n⟩) h
theorem TrFs.base {N' : Hp} {ns : List Str} {bs : List Bool} {x : List Tr} {v : List V} (hn : ∀ a,N a = none → N' a = none) (h : TrFs K H N ns bs x v) : TrFs K H N' ns bs x v := TrFs.to ⟨fun _ _ h=>h,fun _ _ h=>h⟩ (fun a ys n i h=>⟨h,hn a n⟩) h
theorem TrAll.length : ∀ {xs : List Tr} {vs : List V},TrAll K H N xs vs → vs.length = xs.length
 | [],vs,h=>by simp only [TrAll] at h; subst h; rfl
 | x :: xs,vs,h=>by simp only [TrAll] at h; obtain ⟨v,r,rfl,h1,h2⟩ := h; rw [List.length_cons,List.length_cons,TrAll.length h2]
theorem TrAll.get : ∀ {xs : List Tr} {vs : List V} {i : Nat} {v : V},TrAll K H N xs vs → vs[i]? = some v → ∃ x,xs[i]? = some x ∧ TrV K H N x v
 | [],vs,i,v,h,e=>by simp only [TrAll] at h; subst h; simp at e
 | x :: xs,vs,0,v,h,e=>by simp only [TrAll] at h; obtain ⟨u,r,rfl,h1,h2⟩ := h; simp at e; subst e; exact ⟨x,rfl,h1⟩
 | x :: xs,vs,i + 1,v,h,e=>by simp only [TrAll] at h; obtain ⟨u,r,rfl,h1,h2⟩ := h; simpa using TrAll.get (i := i) h2 (by simpa using e)
theorem TrAll.snoc : ∀ {xs : List Tr} {vs : List V} {x : Tr} {c : Addr},TrAll K H N xs vs → TrV K H N x (.ref c) → TrAll K H N (xs ++ [x]) (vs ++ [.ref c])
 | [],vs,x,c,h,h'=>by simp only [TrAll] at h; subst h; simp only [List.nil_append,TrAll]; exact ⟨c,[],rfl,h',rfl⟩
 | y :: xs,vs,x,c,h,h'=>by simp only [TrAll] at h; obtain ⟨u,r,rfl,h1,h2⟩ := h; simp only [List.cons_append,TrAll]; exact ⟨u,_,rfl,h1,TrAll.snoc h2 h'⟩
theorem TrFs.length : ∀ {ns : List Str} {bs : List Bool} {xs : List Tr} {vs : List V},TrFs K H N ns bs xs vs → vs.length = ns.length ∧ bs.length = ns.length ∧ xs.length = ns.length
 | n :: ns,b :: bs,x :: xs,vs,h=>by simp only [TrFs] at h; obtain ⟨c,v,r,rfl,q,h1,h2⟩ := h; have := TrFs.length h2; simp only [List.length_cons]; omega
 | [],[],[],vs,h=>by simp only [TrFs] at h; subst h; exact ⟨rfl,rfl,rfl⟩
 | [],_ :: _,_,_,h=>by simp only [TrFs] at h
 | [],[],_ :: _,_,h=>by simp only [TrFs] at h
 | _ :: _,[],_,_,h=>by simp only [TrFs] at h
 | _ :: _,_ :: _,[],_,h=>by simp only [TrFs] at h
theorem TrFs.get : ∀ {ns : List Str} {bs : List Bool} {xs : List Tr} {vs : List V} {i : Nat} {u : V},TrFs K H N ns bs xs vs → vs[i]? = some u → ∃ n b x c v,ns[i]? = some n ∧ bs[i]? = some b ∧ xs[i]? = some x ∧ u = .ref c ∧ SqT K H c [.str n,v,.bl b] ∧ TrV K H N x v
 | n :: ns,b :: bs,x :: xs,vs,0,u,h,e=>by simp only [TrFs] at h; obtain ⟨c,v,r,rfl,q,h1,h2⟩ := h; simp at e; subst e; exact ⟨n,b,x,c,v,rfl,rfl,rfl,rfl,q,h1⟩
 | n :: ns,b :: bs,x :: xs,vs,i + 1,u,h,e=>by simp only [TrFs] at h; obtain ⟨c,v,r,rfl,q,h1,h2⟩ := h; simpa using TrFs.get (i := i) h2 (by simpa using e)
 | [],[],[],vs,i,u,h,e=>by simp only [TrFs] at h; subst h; simp at e
 | [],_ :: _,_,_,_,_,h,e=>by simp only [TrFs] at h
 | [],[],_ :: _,_,_,_,h,e=>by simp only [TrFs] at h
 | _ :: _,[],_,_,_,_,h,e=>by simp only [TrFs] at h
 | _ :: _,_ :: _,[],_,_,_,h,e=>by simp only [TrFs] at h
theorem TrFs.snoc : ∀ {ns : List Str} {bs : List Bool} {xs : List Tr} {vs : List V} {n : Str} {b : Bool} {x : Tr} {c : Addr} {v : V},TrFs K H N ns bs xs vs → SqT K H c [.str n,v,.bl b] → TrV K H N x v → TrFs K H N (ns ++ [n]) (bs ++ [b]) (xs ++ [x]) (vs ++ [.ref c])
 | m :: ns,d :: bs,y :: xs,vs,n,b,x,c,v,h,q,h'=>by simp only [TrFs] at h; obtain ⟨c',v',r,rfl,q',h1,h2⟩ := h; simp only [List.cons_append,TrFs]; exact ⟨c',v',_,rfl,q',h1,TrFs.snoc h2 q h'⟩
 | [],[],[],vs,n,b,x,c,v,h,q,h'=>by simp only [TrFs] at h; subst h; simp only [List.nil_append,TrFs]; exact ⟨c,v,[],rfl,q,h',rfl⟩
 | [],_ :: _,_,_,_,_,_,_,_,h,_,_=>by simp only [TrFs] at h
 | [],[],_ :: _,_,_,_,_,_,_,h,_,_=>by simp only [TrFs] at h
 | _ :: _,[],_,_,_,_,_,_,_,h,_,_=>by simp only [TrFs] at h
 | _ :: _,_ :: _,[],_,_,_,_,_,_,h,_,_=>by simp only [TrFs] at h
theorem TrV.ref : ∀ {x : Tr} {v : V},TrV K H N x v → ∃ a,v = .ref a
 | .any,v,h=>by simp only [TrV] at h; obtain ⟨a,e,q⟩ := h; exact ⟨a,e⟩
 | .nothing,v,h=>by simp only [TrV] at h; obtain ⟨a,e,q⟩ := h; exact ⟨a,e⟩
 | .sort n,v,h=>by simp only [TrV] at h; obtain ⟨a,x,e,q⟩ := h; exact ⟨a,e⟩
 | .span lo hi,v,h=>by simp only [TrV] at h; obtain ⟨a,e,q⟩ := h; exact ⟨a,e⟩
 | .text s,v,h=>by simp only [TrV] at h; obtain ⟨a,e,q⟩ := h; exact ⟨a,e⟩
 | .truth s,v,h=>by simp only [TrV] at h; obtain ⟨a,e,q⟩ := h; exact ⟨a,e⟩
 | .lst ts m,v,h=>by simp only [TrV] at h; obtain ⟨a,p,ys,e,_⟩ := h; exact ⟨a,e⟩
 | .rc ns ms ts m,v,h=>by simp only [TrV] at h; obtain ⟨a,p,ys,e,_⟩ := h; exact ⟨a,e⟩
end
end Law
namespace Law
open PySem L2 L2.Sp
def J7 : Th → Nat
 | .non=>0 | .tru _=>1 | .num _=>2 | .txt _=>3 | .lst _=>4 | .rc _ _=>5
def jX : List Str → List Th → Str → Option Th
 | n :: ns,x :: xs,y=>if n = y then some x else jX ns xs y
 | _,_,_=>none
mutual
def E3 : Tr → Th → Bool
 | .any,_=>true
 | .nothing,_=>false
 | .sort k,x=>J7 x == k
 | .span lo hi,.num i=>M4 i (lo,hi)
 | .span _ _,_=>false
 | .text s,.txt u=>s == u
 | .text _,_=>false
 | .truth b,.tru c=>b == c
 | .truth _,_=>false
 | .lst ts m,.lst xs=>decide (ts.length ≤ xs.length) && (m || decide (xs.length ≤ ts.length)) && R6 ts xs
 | .lst _ _,_=>false
 | .rc ns ms ts m,.rc fn fx=>qP ns ms ts fn fx && (m || fn.all fun y=>decide (y ∈ ns))
 | .rc _ _ _ _,_=>false
def R6 : List Tr → List Th → Bool
 | t :: ts,x :: xs=>E3 t x && R6 ts xs
 | [],_=>true
 | _ :: _,[]=>true
def qP : List Str → List Bool → List Tr → List Str → List Th → Bool
 | n :: ns,b :: ms,t :: ts,fn,fx=>(match jX fn fx n with | some x=>E3 t x | none=>!b) && qP ns ms ts fn fx
 | _,_,[],_,_=>true
 | [],_,_ :: _,_,_=>true
 | _ :: _,[],_ :: _,_,_=>true
end
def oF : Str := "only"
def BF6 : Str := "but"
def kNo : Str := "no"
def qM : Str := "all"
def V8 : Str := "rest"
def W2 : Str := "first"
def W9 : Str := "name"
def S0 : PyData := .tuple [dS kNo]
def cU : PyData := .tuple [dS qM]
def G7 : PyData := .tuple [dS V8,.bool false,.bool false]
def AF7 : PyData := .tuple [dS W2,.bool true,.tuple []]
def aB : List PyData := [.bool false,.tuple [],.tuple [],.tuple [dS oF,.tuple []],S0,G7]
def Y2 : List PyData := [.bool true,.tuple [.bool false,.bool true],.tuple [.tuple [.tuple [],.tuple []]],.tuple [dS BF6,.tuple []],cU,.tuple [dS V8,.bool true,.bool true]]
def J8 : PyData := .tuple aB
def S7 : PyData := .tuple Y2
def O1 (k : Nat) (d : PyData) : PyData := .tuple (aB.set k d)
def mF (ss : List Pr) : PyData := .tuple (ss.map fun p=>.tuple [W4 p.1,W4 p.2])
def bL (k f : PyData) : PyData := .tuple [dS W2,.bool false,.tuple [.tuple [k,f]]]
def lL (n : Str) (a : PyData) : PyData := .tuple [dS W9,dS n,a,.tuple []]
def gF (n : Str) (a k f : PyData) : PyData := .tuple [dS W9,dS n,a,.tuple [.tuple [k,f]]]
def K9 (m : Bool) : List PyData → PyData
 | []=>if m then cU else AF7
 | k :: ks=>if PyData.eqv k J8 || PyData.eqv (K9 m ks) S0 then S0 else bL k (K9 m ks)
abbrev Fl := Str × PyData × Bool
def S9 (m : Bool) (e : Fl) (f : PyData) : PyData :=
 match PyData.eqv e.2.1 J8 || PyData.eqv f G7,e.2.2 with
 | true,true=>G7
 | true,false=>bif m && !PyData.eqv f G7 then lL e.1 f else f
 | false,true=>gF e.1 G7 e.2.1 f
 | false,false=>bif PyData.eqv e.2.1 S7 && m then f else gF e.1 f e.2.1 f
def K4 (m : Bool) : List Fl → PyData
 | []=>.tuple [dS V8,.bool true,.bool m]
 | e :: es=>S9 m e (K4 m es)
abbrev F4 := Str × Tr × PyData × Bool
def Q2 : List Str → List Tr → List PyData → List Bool → List F4
 | n :: ns,t :: ts,d :: ds,b :: bs=>(n,t,d,b) :: Q2 ns ts ds bs
 | _,_,_,_=>[]
def f4 (e : F4) : Fl := (e.1,e.2.2.1,e.2.2.2)
mutual
def G8 : Tr → PyData → Prop
 | .any,d=>d = S7
 | .nothing,d=>d = J8
 | .sort k,d=>k < 6 ∧ d = O1 k (Y2.getD k .none)
 | .span lo hi,d=>d = O1 2 (mF (if aM (lo,hi) then [(lo,hi)] else []))
 | .text s,d=>d = O1 3 (.tuple [dS oF,.tuple [dS s]])
 | .truth b,d=>d = O1 1 (.tuple [.bool b])
 | .lst ts m,d=>∃ ds,KdAll ts ds ∧ d = O1 4 (K9 m ds)
 | .rc ns ms ts m,d=>ns.length = ts.length ∧ ms.length = ts.length ∧ ns.Nodup ∧ ∃ ds,KdAll ts ds ∧ ∃ es : List F4,es.Perm (Q2 ns ts ds ms) ∧ es.Pairwise (fun p q=>T5 p.1 q.1 = true) ∧ d = O1 5 (K4 m (es.map f4))
def KdAll : List Tr → List PyData → Prop
 | [],ds=>ds = []
 | t :: ts,ds=>∃ d r,ds = d :: r ∧ G8 t d ∧ KdAll ts r
end
theorem Z0 {k : Nat} {d : PyData} (hk : k < 6) (h : PyData.eqv (O1 k d) J8 = true) : PyData.eqv d (aB.getD k .none) = true := by
 have : k = 0 ∨ k = 1 ∨ k = 2 ∨ k = 3 ∨ k = 4 ∨ k = 5 := by omega
 rcases this with rfl | rfl | rfl | rfl | rfl | rfl <;> simp [O1,J8,aB,PyData.eqv,PyData.eqvAll] at h ⊢ <;> first | exact h | exact h.1 | exact h.2
theorem AF6 {k f : PyData} : PyData.eqv (bL k f) S0 = false := by simp [bL,S0,PyData.eqv,PyData.eqvAll]
theorem Y7 {k : Nat} {d : PyData} : PyData.eqv (O1 k d) S7 = false := by
 match k with
 | 0=>simp [O1,S7,aB,Y2,PyData.eqv,PyData.eqvAll]
 | 1=>simp [O1,S7,aB,Y2,PyData.eqv,PyData.eqvAll]
 | 2=>simp [O1,S7,aB,Y2,PyData.eqv,PyData.eqvAll]
 | 3=>simp [O1,S7,aB,Y2,PyData.eqv,PyData.eqvAll]
 | 4=>simp [O1,S7,aB,Y2,PyData.eqv,PyData.eqvAll]
 | 5=>simp [O1,S7,aB,Y2,PyData.eqv,PyData.eqvAll]
 | k + 6=>simp [O1,S7,aB,Y2,PyData.eqv,PyData.eqvAll]
theorem AX7 : ∀ {t : Tr} {d : PyData} (x : Th),G8 t d → PyData.eqv d S7 = true → E3 t x = true
 | .any,d,x,h,e=>by simp only [E3]
 | .nothing,d,x,h,e=>by simp only [G8] at h; rw [h] at e; exact absurd e (by decide)
 | .sort k,d,x,h,e=>by simp only [G8] at h; rw [h.2,Y7] at e; cases e
 | .span lo hi,d,x,h,e=>by simp only [G8] at h; rw [h,Y7] at e; cases e
 | .text s,d,x,h,e=>by simp only [G8] at h; rw [h,Y7] at e; cases e
 | .truth b,d,x,h,e=>by simp only [G8] at h; rw [h,Y7] at e; cases e
 | .lst ts m,d,x,h,e=>by simp only [G8] at h; obtain ⟨ds,_,h⟩ := h; rw [h,Y7] at e; cases e
 | .rc ns ms ts m,d,x,h,e=>by simp only [G8] at h; obtain ⟨_,_,_,ds,_,es,_,_,h⟩ := h; rw [h,Y7] at e; cases e
def cG (fn : List Str) (fx : List Th) (e : F4) : Bool := match jX fn fx e.1 with | some x=>E3 e.2.1 x | none=>!e.2.2.2
theorem dO {fn : List Str} {fx : List Th} : ∀ {ns : List Str} {ms : List Bool} {ts : List Tr} {ds : List PyData},ns.length = ts.length → ms.length = ts.length → ds.length = ts.length → qP ns ms ts fn fx = (Q2 ns ts ds ms).all (cG fn fx)
 | [],[],[],[],_,_,_=>by simp [qP,Q2]
 | n :: ns,b :: ms,t :: ts,d :: ds,h1,h2,h3=>by
  simp only [qP,Q2,List.all_cons]
  rw [dO (by simpa using h1) (by simpa using h2) (by simpa using h3)]
  rfl
 | [],_,_ :: _,_,h,_,_=>by simp at h
 | _ :: _,_,[],_,h,_,_=>by simp at h
 | _,[],_ :: _,_,_,h,_=>by simp at h
 | _,_ :: _,[],_,_,h,_=>by simp at h
 | _,_,[],_ :: _,_,_,h=>by simp at h
 | _,_,_ :: _,[],_,_,h=>by simp at h
theorem X0 : ∀ {ns : List Str} {ms : List Bool} {ts : List Tr} {ds : List PyData},ns.length = ts.length → ms.length = ts.length → ds.length = ts.length → (Q2 ns ts ds ms).map (·.1) = ns
 | [],[],[],[],_,_,_=>by simp [Q2]
 | n :: ns,b :: ms,t :: ts,d :: ds,h1,h2,h3=>by
  simp only [Q2,List.map_cons]
  rw [X0 (by simpa using h1) (by simpa using h2) (by simpa using h3)]
 | [],_,_ :: _,_,h,_,_=>by simp at h
 | _ :: _,_,[],_,h,_,_=>by simp at h
 | _,[],_ :: _,_,_,h,_=>by simp at h
 | _,_ :: _,[],_,_,h,_=>by simp at h
 | _,_,[],_ :: _,_,_,h=>by simp at h
 | _,_,_ :: _,[],_,_,h=>by simp at h
theorem KdAll.length : ∀ {ts : List Tr} {ds : List PyData},KdAll ts ds → ds.length = ts.length
 | [],ds,h=>by simp only [KdAll] at h; subst h; rfl
 | t :: ts,ds,h=>by
  simp only [KdAll] at h
  obtain ⟨d,r,rfl,_,h2⟩ := h
  rw [List.length_cons,List.length_cons,KdAll.length h2]
theorem kM : ∀ {ns : List Str} {ms : List Bool} {ts : List Tr} {ds : List PyData},KdAll ts ds → ∀ e ∈ Q2 ns ts ds ms,G8 e.2.1 e.2.2.1 ∧ e.2.1 ∈ ts
 | [],_,_,_,_,e,he=>by simp [Q2] at he
 | _ :: _,_,[],_,_,e,he=>by simp [Q2] at he
 | _ :: _,_,_ :: _,[],_,e,he=>by simp [Q2] at he
 | _ :: _,[],_ :: _,_ :: _,_,e,he=>by simp [Q2] at he
 | n :: ns,b :: ms,t :: ts,d :: ds,h,e,he=>by
  simp only [KdAll] at h
  obtain ⟨d',r,e',h1,h2⟩ := h
  cases e'
  simp only [Q2,List.mem_cons] at he
  rcases he with rfl | he
  ·exact ⟨h1,List.mem_cons_self⟩
  ·obtain ⟨a,b⟩ := kM h2 e he
   exact ⟨a,List.mem_cons_of_mem _ b⟩
theorem qR {a b : Bool} (h : PyData.eqv (.tuple [dS V8,.bool a,.bool b]) G7 = true) : a = false ∧ b = false := by
 cases a <;> cases b <;> first | exact ⟨rfl,rfl⟩ | exact absurd h (by decide)
theorem AO5 {n : Str} {a : PyData} : PyData.eqv (lL n a) G7 = false := by simp [lL,G7,PyData.eqv,PyData.eqvAll]
theorem tJ {n : Str} {a k f : PyData} : PyData.eqv (gF n a k f) G7 = false := by simp [gF,G7,PyData.eqv,PyData.eqvAll]
theorem AO4 : PyData.eqv G7 G7 = true := by decide +kernel
def AG6 (es : List F4) : Prop := ∀ e ∈ es,∀ x,(PyData.eqv e.2.2.1 J8 = true → E3 e.2.1 x = false)
theorem lG {m : Bool} {fn : List Str} {fx : List Th} : ∀ {es : List F4},AG6 es → PyData.eqv (K4 m (es.map f4)) G7 = true → es.all (cG fn fx) = false
 | [],_,h=>by
  have := qR (a := true) (b := m) h
  cases this.1
 | e :: es,hk,h=>by
  have ih := fun z=>lG (m := m) (fn := fn) (fx := fx) (es := es) (fun a ha=>hk a (List.mem_cons_of_mem _ ha)) z
  have h0 : PyData.eqv e.2.2.1 J8 = true → e.2.2.2 = true → cG fn fx e = false := fun z1 z2=>by
   unfold cG
   cases jX fn fx e.1 with
   | some x=>exact hk e List.mem_cons_self x z1
   | none=>simp [z2]
  rw [List.all_cons]
  have h : PyData.eqv (S9 m (f4 e) (K4 m (es.map f4))) G7 = true := h
  have e1 : (f4 e).2.1 = e.2.2.1 := rfl
  have e2 : (f4 e).2.2 = e.2.2.2 := rfl
  unfold S9 at h
  rw [e1,e2] at h
  cases c1 : (PyData.eqv e.2.2.1 J8 || PyData.eqv (K4 m (es.map f4)) G7)
  ·have c5 : PyData.eqv (K4 m (es.map f4)) G7 = false := by
    cases z : PyData.eqv (K4 m (es.map f4)) G7
    ·rfl
    ·rw [z,Bool.or_true] at c1; cases c1
   cases c2 : e.2.2.2
   ·rw [c1,c2] at h
    cases c3 : (PyData.eqv e.2.2.1 S7 && m)
    ·rw [c3] at h
     simp only [cond_false,tJ] at h
     cases h
    ·rw [c3] at h
     simp only [cond_true,c5] at h
     cases h
   ·rw [c1,c2] at h
    simp only [tJ] at h
    cases h
  ·cases c2 : e.2.2.2
   ·rw [c1,c2] at h
    have hr : PyData.eqv (K4 m (es.map f4)) G7 = true := by
     cases c3 : (m && !PyData.eqv (K4 m (es.map f4)) G7)
     ·rw [c3] at h
      exact h
     ·rw [c3] at h
      simp only [cond_true,AO5] at h
      cases h
    rw [ih hr,Bool.and_false]
   ·cases c4 : PyData.eqv e.2.2.1 J8
    ·rw [c4,Bool.false_or] at c1
     rw [ih c1,Bool.and_false]
    ·rw [h0 c4 c2,Bool.false_and]
theorem lO {m : Bool} : ∀ {ts : List Tr} {ks : List PyData} {xs : List Th},KdAll ts ks → (∀ t ∈ ts,∀ d x,G8 t d → PyData.eqv d J8 = true → E3 t x = false) → PyData.eqv (K9 m ks) S0 = true → ts.length ≤ xs.length → R6 ts xs = false
 | [],ks,xs,h,_,e,_=>by
  simp only [KdAll] at h
  subst h
  cases m <;> exact absurd e (by decide)
 | t :: ts,ks,[],h,_,e,hl=>by simp at hl
 | t :: ts,ks,x :: xs,h,hn,e,hl=>by
  simp only [KdAll] at h
  obtain ⟨d,r,rfl,h1,h2⟩ := h
  simp only [R6]
  simp only [K9] at e
  by_cases c : (PyData.eqv d J8 || PyData.eqv (K9 m r) S0) = true
  ·rw [Bool.or_eq_true] at c
   rcases c with c | c
   ·rw [hn t List.mem_cons_self d x h1 c,Bool.false_and]
   ·rw [lO h2 (fun t ht=>hn t (List.mem_cons_of_mem _ ht)) c (by simpa using hl),Bool.and_false]
  ·rw [if_neg c,AF6] at e
   cases e
inductive TD : Nat → Tr → Prop
 | any {n} : TD n .any
 | nothing {n} : TD n .nothing
 | sort {n k} : TD n (.sort k)
 | span {n lo hi} : TD n (.span lo hi)
 | text {n s} : TD n (.text s)
 | truth {n b} : TD n (.truth b)
 | lst {n ts m} : (∀ t ∈ ts,TD n t) → TD (n + 1) (.lst ts m)
 | rc {n ns ms ts m} : (∀ t ∈ ts,TD n t) → TD (n + 1) (.rc ns ms ts m)
theorem eQ {t : Tr} {d : PyData} {x : Th} (ht : TD 0 t) (h : G8 t d) (e : PyData.eqv d J8 = true) : E3 t x = false := by
 cases ht with
 | any=>simp only [G8] at h; rw [h] at e; exact absurd e (by decide +kernel)
 | nothing=>simp only [E3]
 | sort =>
  rename_i k
  simp only [G8] at h
  rw [h.2] at e
  have := Z0 h.1 e
  have hk : k = 0 ∨ k = 1 ∨ k = 2 ∨ k = 3 ∨ k = 4 ∨ k = 5 := by omega
  rcases hk with rfl | rfl | rfl | rfl | rfl | rfl <;> exact absurd this (by decide +kernel)
 | span =>
  rename_i lo hi
  simp only [G8] at h
  rw [h] at e
  have e := Z0 (by decide) e
  cases c : aM (lo,hi)
  ·cases x <;> simp only [E3]
   exact pW c
  ·rw [c] at e
   simp [mF,aB,PyData.eqv,PyData.eqvAll] at e
 | text=>simp only [G8] at h; rw [h] at e; have e := Z0 (by decide) e; simp [aB,PyData.eqv,PyData.eqvAll] at e
 | truth=>simp only [G8] at h; rw [h] at e; have e := Z0 (by decide) e; simp [aB,PyData.eqv,PyData.eqvAll] at e
theorem dJ : ∀ {n : Nat} {t : Tr} {d : PyData} {x : Th},TD n t → G8 t d → PyData.eqv d J8 = true → E3 t x = false := by
 intro n
 induction n with
 | zero=>intro t d x ht h e; exact eQ ht h e
 | succ n ih =>
  intro t d x ht h e
  cases ht with
  | any=>exact eQ .any h e
  | nothing=>exact eQ .nothing h e
  | sort=>exact eQ .sort h e
  | span=>exact eQ .span h e
  | text=>exact eQ .text h e
  | truth=>exact eQ .truth h e
  | lst hts =>
   rename_i ts m
   simp only [G8] at h
   obtain ⟨ds,hd,h⟩ := h
   rw [h] at e
   have e := Z0 (by decide) e
   cases x <;> simp only [E3]
   rename_i xs
   by_cases hl : ts.length ≤ xs.length
   ·rw [lO hd (fun t ht d x hk he=>ih (hts t ht) hk he) e hl,Bool.and_false]
   ·rw [decide_eq_false hl]; rfl
  | rc hts =>
   rename_i ns ms ts m
   simp only [G8] at h
   obtain ⟨l1,l2,nd,ds,hd,es,hp,_,h⟩ := h
   rw [h] at e
   have e := Z0 (by decide) e
   cases x <;> simp only [E3]
   rename_i fn fx
   have hk : AG6 es := fun e' he' x hz=>by
    obtain ⟨a,b⟩ := kM hd e' (hp.mem_iff.mp he')
    exact ih (hts _ b) a hz
   rw [dO l1 l2 hd.length,← hp.all_eq,lG hk e,Bool.false_and]
end Law
namespace Law
open PySem L2 L2.Sp
theorem mV (ts : List Str) : (ts.map V.str).all Z4 = true := by
 simp only [List.all_map,List.all_eq_true]
 intro t _
 rfl
theorem yM (a b : Nat) : decide (([a] : List Nat) < [b]) = decide (a < b) := by
 rw [Bool.eq_iff_iff]
 simp [List.cons_lt_cons_iff]
def AH1 (b : Bool) : Str := if b then "but" else "only"
theorem wO (b : Bool) : decide (V.str (AH1 b) = .str "only") = !b := by cases b <;> decide +kernel
def cK (b : Bool) (ts : List Str) (t : Str) : Bool := if b then !decide (t ∈ ts) else decide (t ∈ ts)
def Sg (t : Str) : Prop := (∀ c ∈ t.cps.toList,32 ≤ c ∧ c ≤ 126 ∧ c ≠ 34 ∧ c ≠ 37) ∧ t.length ≤ 100
section
variable {P : Program} {w : World} {K : PySem.W.Frag} {mg : Str → Option Value} {base : Heap} {f : Addr} {fd : FuncData}
theorem AX3 : bootBuiltins "ord" = some (.builtin "ord") := by decide +kernel
abbrev iB : Stmt := N3 11
theorem AS6 : G0 ["letter"] ["letter"] (B6 iB) := ⟨rfl,rfl,rfl,by decide +kernel,rfl,by decide +kernel,by decide +kernel⟩
def pA : Sp := fun args H Q _=>∃ c : Nat,args = [.str ⟨#[c]⟩] ∧ (32 ≤ c ∧ c ≤ 126 ∧ c ≠ 34 ∧ c ≠ 37) ∧ Q (.bl true) H
theorem AP6 {c : Nat} (h1 : c ≠ 34) (h2 : c ≠ 37) : iT (.int (c : Int)) [.int 34,.int 37] = false := by
 unfold iT
 simp only [List.any_cons,List.any_nil,Bool.or_false,Bool.or_eq_false_iff]
 constructor
 ·show ((34 : Int) == (c : Int)) = false
  simp only [beq_eq_false_iff_ne]; omega
 ·show ((37 : Int) == (c : Int)) = false
  simp only [beq_eq_false_iff_ne]; omega
theorem AN5 (F : Fun K "is_sign" "is_sign" iB f fd) (m1 : mg "ord" = none) {gt : Addr} (hg : mg "NO_SIGNS" = some (.ref gt)) (hK : ∀ H : Hp,SqT K H gt [.int 34,.int 37]) : FnOk P w K mg base L9 1 f fd ["letter"] pA := by
 refine F.ok AS6 (fun vs H Q E h=>?_) (fun cdv A outer s H vs Q E hr h=>?_)
 ·obtain ⟨c,rfl,_⟩ := h
  rfl
 obtain ⟨c,rfl,⟨s1,s2,s3,s4⟩,q⟩ := h
 refine ⟨_,A9 (D8 (bE (AD1 mM mM E1 (pv 0) E1) (T3 (J5 gA (K6 AG1 rfl m1 AX3 (A0 (pv 0) A6)) (M3 (v := .ref gt) rfl hg rfl) rfl)))),?_⟩
 refine ⟨_,rfl,_,_,rfl,rfl,true,?_,K8 ⟨_,_,rfl,rfl,true,?_,K8 ⟨_,rfl,_,rfl,rfl,gt,_,rfl,.inr (hK _),rfl,rfl,?_⟩⟩⟩
 ·show V.bl (!decide (([c] : List Nat) < [32])) = .bl true
  rw [yM,decide_eq_false (by omega)]; rfl
 ·show V.bl (!decide (([126] : List Nat) < [c])) = .bl true
  rw [yM,decide_eq_false (by omega)]; rfl
 ·have e : iT (.int ((#[c].getD 0 0 : Nat) : Int)) [.int 34,.int 37] = false := AP6 s3 s4
  show Q (.bl (!iT (.int ((#[c].getD 0 0 : Nat) : Int)) [.int 34,.int 37])) H
  rw [e]
  exact q
abbrev dC : Stmt := N3 12
theorem AL7 : G0 ["found"] ["found"] (B6 dC) := ⟨rfl,rfl,rfl,by decide +kernel,rfl,by decide +kernel,by decide +kernel⟩
def kP : Sp := fun args H Q _=>∃ t : Str,args = [.str t] ∧ Sg t ∧ ∀ H',Same H H' → Q (.bl true) H'
theorem yK : (["letter"] : List Str).Nodup := by decide +kernel
theorem AD5 (F : Fun K "is_text_of_signs" "is_text_of_signs" dC f fd) (C1 : Cal P w K mg base 1 "is_sign" ["letter"] pA) (m1 : mg "isinstance" = none) (m2 : mg "str" = none) (m3 : mg "all" = none) : FnOk P w K mg base L9 2 f fd ["found"] kP := by
 refine F.ok AL7 (fun vs H Q E h=>?_) (fun cdv A outer s H vs Q E hr h=>?_)
 ·obtain ⟨t,rfl,_⟩ := h
  rfl
 obtain ⟨t,rfl,hs,q⟩ := h
 refine ⟨_,A9 (D8 (bE (K6 rD rfl m1 zX (A0 (pv 0) (A0 (sX (v := .ty "str") rfl m2 AX2 rfl) A6)))
  (T3 (K6 (fL rfl) rfl m3 zY (A0 (U6 (N' := ["letter"]) (fr := [none]) (own := [0]) ⟨rfl,rfl,rfl,rfl,rfl,rfl,rfl⟩ rfl (xT (pv 0))
   (fun _ _ _ _=>G5 (i := 0) yK rfl (Or.inl rfl)) (U1 0) (fun _ _ _ _=>R7)
   (fun _ _ _ _=>B8 C1 hr rfl (A0 (pv 0) A6))) A6))))),?_⟩
 refine ⟨_,rfl,_,_,true,rfl,rfl,true,rfl,K8 ?_⟩
 refine ⟨_,rfl,t,rfl,fun l hl=>?_⟩
 have g1 : Same H (upd H l (.lst [])) := A8 hl _
 refine qZ (x := t) (fun i ys H'=>H' = upd H l (.lst ys) ∧ ys = List.map V.bl (List.replicate i true) ∧ i ≤ t.cps.size) ⟨rfl,rfl,Nat.zero_le _⟩ (fun i c ys H' hc ⟨e,ey,hi⟩=>?_) (fun ys H' ⟨e,ey,_⟩=>?_)
 ·subst e
  obtain ⟨hi',ec⟩ := Array.getElem?_eq_some_iff.mp hc
  have hcm : c ∈ t.cps.toList := by rw [← ec]; simp
  have hlen : ys.length ≤ 1000 := by rw [ey,List.length_map,List.length_replicate]; exact Nat.le_trans hi (Nat.le_trans hs.2 (by decide))
  dsimp only [V0,P6]
  refine aG ?_
  refine ⟨_,rfl,c,rfl,hs.1 c hcm,?_⟩
  refine ⟨A5,P0 hlen,?_,?_,hi'⟩
  ·rw [gX]
  ·rw [ey,List.replicate_succ',List.map_append]; rfl
 ·subst e
  refine ⟨l,List.replicate t.cps.size true,rfl,SqL.of (by rw [ey]; exact A5),?_⟩
  have : (List.replicate t.cps.size true).all id = true := by rw [List.all_eq_true]; intro b hb; exact (List.mem_replicate.mp hb).2
  rw [this]
  exact q _ (fun z o ho=>by rw [B7 (E6 ho hl)]; exact ho)
def txD (b : Bool) (ts : List Str) : PyData := .tuple [dS (AH1 b),.tuple (ts.map dS)]
theorem qW {H : Hp} : ∀ {ts : List Str} {ys : List V},DatAll K H (ts.map dS) ys → ys = ts.map V.str
 | [],ys,h=>by simpa only [List.map_nil,DatAll] using h
 | t :: ts,ys,h=>by
  simp only [List.map_cons,DatAll] at h
  obtain ⟨y,r,rfl,h1,h2⟩ := h
  rw [G9.mp h1,qW h2]; rfl
abbrev lB : Stmt := N3 14
theorem AZ8 : G0 ["texts","text"] ["texts","text"] (B6 lB) := ⟨rfl,rfl,rfl,by decide +kernel,rfl,by decide +kernel,by decide +kernel⟩
def nZ (K : PySem.W.Frag) : Sp := fun args H Q _=>∃ (v : V) (b : Bool) (ts : List Str) (t : Str),args = [v,.str t] ∧ DatV K H (txD b ts) v ∧ Sg t ∧ ∀ H',Same H H' → Q (.bl (cK b ts t)) H'
theorem AU8 (F : Fun K "in_texts" "in_texts" lB f fd) (C1 : Cal P w K mg base 2 "is_text_of_signs" ["found"] kP) : FnOk P w K mg base L9 3 f fd ["texts","text"] (nZ K) := by
 refine F.ok AZ8 (fun vs H Q E h=>?_) (fun cdv A outer s H vs Q E hr h=>?_)
 ·obtain ⟨v,b,ts,t,rfl,_⟩ := h
  rfl
 obtain ⟨v,b,ts,t,rfl,hv,ht,q⟩ := h
 refine ⟨_,B5 (G4 (E2 J4 (D9 E8 (pv 0) A7 (fun _ _=>rfl)) E1 (D7 _)) (A9 (D8 (J5 V3 (pv 1) (D9 E8 (pv 0) A7 (fun _ _=>rfl)) rfl))) E7)
  (A9 (D8 (bE (B8 C1 hr rfl (A0 (pv 1) A6)) (T3 (J5 gA (pv 1) (D9 E8 (pv 0) A7 (fun _ _=>rfl)) rfl))))),?_⟩
 obtain ⟨a,ys,rfl,hq,hd⟩ := N6.mp hv
 simp only [DatAll] at hd
 obtain ⟨y,_,rfl,h1,y2,_,rfl,h2,rfl⟩ := hd
 obtain ⟨p,zs,rfl,hp,hz⟩ := N6.mp h2
 rw [G9.mp h1] at hq
 rw [qW hz] at hp
 refine ⟨_,rfl,a,_,_,_,rfl,rfl,hq,rfl,rfl,_,rfl,?_⟩
 rw [wO]
 cases b with
 | false =>
  refine K8 ⟨_,rfl,_,rfl,a,_,_,_,rfl,rfl,hq,rfl,p,_,rfl,.inr hp,rfl,mV ts,?_⟩
  rw [qO]
  exact q _ (fun _ _ h=>h)
 | true =>
  refine L5 ⟨_,rfl,t,rfl,ht,fun H2 g2=>⟨true,rfl,K8 ⟨_,rfl,_,rfl,a,_,_,_,rfl,rfl,g2.seqT hq,rfl,p,_,rfl,.inr (g2.seqT hp),rfl,mV ts,?_⟩⟩⟩
  rw [qO]
  exact q _ g2
end
end Law
namespace Law
open PySem L2 L2.Sp
structure G6 (d : PyData) : Prop where
 lay : d.canLay0 = true
 nol : bH d = true
theorem T4 {b : Bool} : G6 (.bool b) := ⟨by simp only [PyData.canLay0],by simp only [bH]⟩
theorem AM9 {b : Int} : G6 (.int b) := ⟨by simp only [PyData.canLay0],by simp only [bH]⟩
theorem K5 {b : Str} (h : PyData.strOk b = true) : G6 (.str b) := ⟨by simp only [PyData.canLay0]; exact h,by simp only [bH]⟩
theorem R8 : ∀ {ds : List PyData},(∀ d ∈ ds,G6 d) → G6 (.tuple ds)
 | [],_=>⟨by simp only [PyData.canLay0,PyData.canLayAll0],by simp only [bH,eR]⟩
 | d :: ds,h=>by
  have h1 := h d List.mem_cons_self
  have h2 := R8 (ds := ds) fun x hx=>h x (List.mem_cons_of_mem _ hx)
  have a := h2.lay
  have b := h2.nol
  simp only [PyData.canLay0,bH] at a b
  exact ⟨by simp only [PyData.canLay0,PyData.canLayAll0,h1.lay,a]; rfl,by simp only [bH,eR,h1.nol,b]; rfl⟩
theorem W8 {a : PyData} (h : G6 a) : G6 (.tuple [a]) := R8 fun d hd=>by rw [List.mem_singleton.mp hd]; exact h
theorem R4 {a b : PyData} (h : G6 a) (h' : G6 b) : G6 (.tuple [a,b]) := R8 fun d hd=>by
 simp only [List.mem_cons,List.not_mem_nil,or_false] at hd
 rcases hd with rfl | rfl <;> assumption
theorem vL {a b c : PyData} (h : G6 a) (h' : G6 b) (h2 : G6 c) : G6 (.tuple [a,b,c]) := R8 fun d hd=>by
 simp only [List.mem_cons,List.not_mem_nil,or_false] at hd
 rcases hd with rfl | rfl | rfl <;> assumption
theorem AI5 {a b c e : PyData} (h : G6 a) (h' : G6 b) (h2 : G6 c) (h3 : G6 e) : G6 (.tuple [a,b,c,e]) := R8 fun d hd=>by
 simp only [List.mem_cons,List.not_mem_nil,or_false] at hd
 rcases hd with rfl | rfl | rfl | rfl <;> assumption
theorem bZ : G6 (.tuple []) := R8 fun d hd=>by cases hd
theorem gC : G6 S0 := W8 (K5 (by decide +kernel))
theorem lK : G6 cU := W8 (K5 (by decide +kernel))
theorem iZ {a b : Bool} : G6 (.tuple [dS V8,.bool a,.bool b]) := vL (K5 (by decide +kernel)) T4 T4
theorem V7 : G6 G7 := iZ
theorem AN0 : G6 AF7 := vL (K5 (by decide +kernel)) T4 bZ
theorem yB {k f : PyData} (h : G6 k) (h' : G6 f) : G6 (bL k f) := vL (K5 (by decide +kernel)) T4 (W8 (R4 h h'))
theorem AM8 {n : Str} {a : PyData} (hn : PyData.strOk n = true) (h : G6 a) : G6 (lL n a) := AI5 (K5 (by decide +kernel)) (K5 hn) h bZ
theorem tD {n : Str} {a k f : PyData} (hn : PyData.strOk n = true) (h : G6 a) (h1 : G6 k) (h2 : G6 f) : G6 (gF n a k f) := AI5 (K5 (by decide +kernel)) (K5 hn) h (W8 (R4 h1 h2))
theorem yA : ∀ d ∈ aB,G6 d := fun d hd=>by
 simp only [aB,List.mem_cons,List.not_mem_nil,or_false] at hd
 rcases hd with rfl | rfl | rfl | rfl | rfl | rfl
 ·exact T4
 ·exact bZ
 ·exact bZ
 ·exact R4 (K5 (by decide +kernel)) bZ
 ·exact gC
 ·exact V7
theorem jU : ∀ d ∈ Y2,G6 d := fun d hd=>by
 simp only [Y2,List.mem_cons,List.not_mem_nil,or_false] at hd
 rcases hd with rfl | rfl | rfl | rfl | rfl | rfl
 ·exact T4
 ·exact R4 T4 T4
 ·exact W8 (R4 bZ bZ)
 ·exact R4 (K5 (by decide +kernel)) bZ
 ·exact lK
 ·exact iZ
theorem cN : G6 J8 := R8 yA
theorem lJ : G6 S7 := R8 jU
theorem R1 {k : Nat} {d : PyData} (h : G6 d) : G6 (O1 k d) := R8 fun x hx=>by
 rcases List.mem_or_eq_of_mem_set hx with z | z
 ·exact yA x z
 ·rw [z]; exact h
theorem bG {m : Bool} : ∀ {ds : List PyData},(∀ d ∈ ds,G6 d) → G6 (K9 m ds)
 | [],_=>by unfold K9; split; exact lK; exact AN0
 | d :: ds,h=>by
  unfold K9
  split
  ·exact gC
  ·exact yB (h d List.mem_cons_self) (bG fun x hx=>h x (List.mem_cons_of_mem _ hx))
theorem AD3 {m : Bool} {e : Fl} {f : PyData} (hn : PyData.strOk e.1 = true) (h : G6 e.2.1) (hf : G6 f) : G6 (S9 m e f) := by
 unfold S9
 split
 ·exact V7
 ·cases (m && !PyData.eqv f G7)
  ·exact hf
  ·exact AM8 hn hf
 ·exact tD hn V7 h hf
 ·cases (PyData.eqv e.2.1 S7 && m)
  ·exact tD hn hf h hf
  ·exact hf
theorem iK {m : Bool} : ∀ {es : List Fl},(∀ e ∈ es,PyData.strOk e.1 = true ∧ G6 e.2.1) → G6 (K4 m es)
 | [],_=>iZ
 | e :: es,h=>AD3 (h e List.mem_cons_self).1 (h e List.mem_cons_self).2 (iK fun x hx=>h x (List.mem_cons_of_mem _ hx))
theorem tX (e : En) : G6 (W4 e) := ⟨dL e,by cases e <;> simp [W4,bH,eR]⟩
theorem pU (ss : List Pr) : G6 (mF ss) := R8 fun d hd=>by
 obtain ⟨p,_,rfl⟩ := List.mem_map.mp hd
 exact R4 (tX _) (tX _)
theorem aP {a b : Nat} (h : b ≤ 60) : min a b ≤ 60 := by omega
section
variable {K : PySem.W.Frag} {H H' : Hp}
theorem DatAll.set : ∀ {ds : List PyData} {vs : List V} {d : PyData} {v : V} (k : Nat),DatAll K H ds vs → DatV K H d v → DatAll K H (ds.set k d) (vs.set k v)
 | [],vs,d,v,k,h,h'=>by simp only [DatAll] at h; subst h; simp only [List.set_nil]; exact L7
 | x :: ds,vs,d,v,0,h,h'=>by simp only [DatAll] at h; obtain ⟨y,r,rfl,_,h2⟩ := h; exact E5 h' h2
 | x :: ds,vs,d,v,k + 1,h,h'=>by simp only [DatAll] at h; obtain ⟨y,r,rfl,h1,h2⟩ := h; exact E5 h1 (DatAll.set k h2 h')
theorem K2 {p : Addr} {ds : List PyData} {ys : List V} (h : SqT K H p ys) (h' : DatAll K H ds ys) : DatV K H (.tuple ds) (.ref p) := N6.mpr ⟨p,ys,rfl,h,h'⟩
theorem O7 {d : PyData} {v : V} (g : Same H H') (h : G6 d) (hv : DatV K H d v) : DatV K H' d v := DatV.kt (KT.same g).toKF h.nol hv
end
theorem AG0 (ys : List V) (k : Nat) : V4 ys none (some (k : Int)) = ys.take k := by have := zR id ys k; simpa using this
theorem qY (ys : List V) (k : Nat) : V4 ys (some (k : Int)) none = ys.drop k := by
 unfold V4
 rw [HT.sIx_nat,HT.sIx_none]
 rcases Nat.le_total k ys.length with h | h
 ·rw [Nat.min_eq_left h,List.take_of_length_le (by rw [List.length_drop]; omega)]
 ·rw [Nat.min_eq_right h]
  rw [List.drop_eq_nil_of_le h,List.drop_eq_nil_of_le (Nat.le_refl _),List.take_nil]
theorem pE {k : Nat} {x : Str} (h : P3[k]? = some x) : ∀ m,m < k → P3[m]? ≠ some x := by
 have hk : k < 6 := (List.getElem?_eq_some_iff.mp h).1
 have hd : ∀ i j : Fin 6,i.1 < j.1 → P3[i.1]? ≠ P3[j.1]? := by decide +kernel
 intro m hm z
 exact hd ⟨m,by omega⟩ ⟨k,hk⟩ hm (z.trans h.symm)
structure Gk (K : PySem.W.Frag) (mg : Str → Option Value) : Prop where
 nt : ∃ a ys,mg "NOTHING" = some (.ref a) ∧ ∀ H,SqT K H a ys ∧ DatAll K H aB ys
 an : ∃ a ys,mg "ANY" = some (.ref a) ∧ ∀ H,SqT K H a ys ∧ DatAll K H Y2 ys
 no : ∃ a,mg "NO_LISTS" = some (.ref a) ∧ ∀ H,DatV K H S0 (.ref a)
 al : ∃ a,mg "ALL_LISTS" = some (.ref a) ∧ ∀ H,DatV K H cU (.ref a)
 nr : ∃ a,mg "NO_RECORDS" = some (.ref a) ∧ ∀ H,DatV K H G7 (.ref a)
 st : ∃ a o,mg "SORTS" = some (.ref a) ∧ K.lookup a = some o ∧ o.cls = .type "tuple" ∧ o.dict = none ∧ ∀ H,SqT K H a (P3.map V.str)
section
variable {P : Program} {w : World} {K : PySem.W.Frag} {mg : Str → Option Value} {base : Heap} {f : Addr} {fd : FuncData}
abbrev sK : Stmt := N3 23
theorem AS2 : G0 ["word","part","place"] ["word","part"] (B6 sK) := ⟨rfl,rfl,rfl,by decide +kernel,rfl,by decide +kernel,by decide +kernel⟩
def fN (K : PySem.W.Frag) : Sp := fun args H Q _=>∃ (k : Nat) (x : Str) (d : PyData) (v : V),args = [.str x,v] ∧ P3[k]? = some x ∧ G6 d ∧ DatV K H d v ∧ ∀ H' u,Same H H' → DatV K H' (O1 k d) u → Q u H'
theorem BA7 (F : Fun K "with_part" "with_part" sK f fd) (G : Gk K mg) : FnOk P w K mg base L9 1 f fd ["word","part"] (fN K) := by
 refine F.ok AS2 (fun vs H Q E h=>?_) (fun cdv A outer s H vs Q E hr h=>?_)
 ·obtain ⟨k,x,d,v,rfl,_⟩ := h
  rfl
 obtain ⟨k,x,d,v,rfl,hk,hd,hv,q⟩ := h
 obtain ⟨gs,os,ms,ls,cs,ds,hs⟩ := G.st
 obtain ⟨gn,ys,mn,hn⟩ := G.nt
 refine ⟨_,B5 (G2 (i := 2) AS2.nd rfl (Or.inl rfl) (jP PySem.F.plainAttrs_tuple PySem.F.slot_tuple_index PySem.F.type_tuple_index qD (M3 (v := .ref gs) rfl ms rfl) (A0 (pv 0) A6)))
  (A9 (D8 (J0 sZ (J0 sZ (bD sH (M3 (v := .ref gn) rfl mn rfl) dG (dF (pv 2))) (G1 (A0 (pv 1) A6))) (bD sH (M3 (v := .ref gn) rfl mn rfl) (dF (J0 U3 (pv 2) A7)) dG)))),?_⟩
 have yl : ys.length = 6 := DatAll.length (hn H).2
 have k6 : k < 6 := (List.getElem?_eq_some_iff.mp hk).1
 refine ⟨.inr (.inl ⟨rfl,os,ls,cs,ds⟩),_,rfl,gs,P3,k,x,rfl,rfl,hs _,hk,pE hk,?_⟩
 refine ⟨_,rfl,_,rfl,gn,ys,rfl,(hn H).1,fun p H1 g1 hp=>⟨_,rfl,X2,fun p2 hp2=>?_⟩⟩
 rw [AG0] at hp
 have k2 := A8 hp2 (.tup [v])
 refine ⟨p,p2,_,_,rfl,rfl,k2.seqT hp,SqT.of A5,T9 (by rw [List.length_take,List.length_singleton]; omega),fun p3 H3 g3 hp3=>?_⟩
 refine ⟨_,rfl,_,_,rfl,rfl,_,rfl,gn,ys,rfl,(hn H3).1,fun p4 H4 g4 hp4=>?_⟩
 rw [show ((k : Int) + 1) = ((k + 1 : Nat) : Int) by omega,qY] at hp4
 refine ⟨p3,p4,_,_,rfl,rfl,g4.seqT hp3,hp4,T9 (by rw [List.length_append,List.length_take,List.length_singleton,List.length_drop]; omega),fun p5 H5 g5 hp5=>?_⟩
 have gg : Same H H5 := g1.trans (k2.trans (g3.trans (g4.trans g5)))
 refine q H5 _ gg (K2 hp5 ?_)
 have e : List.take k ys ++ [v] ++ List.drop (k + 1) ys = ys.set k v := by rw [List.set_eq_take_append_cons_drop,if_pos (by omega)]; simp
 rw [e]
 exact DatAll.set k (hn H5).2 (O7 gg hd hv)
abbrev iA : Stmt := N3 22
theorem AS5 : G0 ["word"] ["word"] (B6 iA) := ⟨rfl,rfl,rfl,by decide +kernel,rfl,by decide +kernel,by decide +kernel⟩
def cX (K : PySem.W.Frag) : Sp := fun args H Q _=>∃ (k : Nat) (x : Str),args = [.str x] ∧ P3[k]? = some x ∧ ∀ H' u,Same H H' → DatV K H' (O1 k (Y2.getD k .none)) u → Q u H'
theorem AN4 (F : Fun K "of_sort" "of_sort" iA f fd) (G : Gk K mg) (WP : Cal P w K mg base 1 "with_part" ["word","part"] (fN K)) : FnOk P w K mg base L9 2 f fd ["word"] (cX K) := by
 refine F.ok AS5 (fun vs H Q E h=>?_) (fun cdv A outer s H vs Q E hr h=>?_)
 ·obtain ⟨k,x,rfl,_⟩ := h
  rfl
 obtain ⟨k,x,rfl,hk,q⟩ := h
 obtain ⟨gs,os,ms,ls,cs,ds,hs⟩ := G.st
 obtain ⟨gn,ys,mn,hn⟩ := G.an
 refine ⟨_,A9 (D8 (B8 WP hr rfl (A0 (pv 0) (A0 (D9 P2 (M3 (v := .ref gn) rfl mn rfl) (jP PySem.F.plainAttrs_tuple PySem.F.slot_tuple_index PySem.F.type_tuple_index qD (M3 (v := .ref gs) rfl ms rfl) (A0 (pv 0) A6)) (fun _ _=>rfl)) A6)))),?_⟩
 have k6 : k < 6 := (List.getElem?_eq_some_iff.mp hk).1
 have ha : Y2[k]? = some (Y2.getD k .none) := by rw [List.getD_eq_getElem?_getD,List.getElem?_eq_getElem (show k < Y2.length from k6)]; rfl
 refine ⟨_,rfl,.inr (.inl ⟨rfl,os,ls,cs,ds⟩),_,rfl,gs,P3,k,x,rfl,rfl,hs _,hk,pE hk,?_⟩
 refine ⟨Y2,k,_,K2 (hn H).1 (hn H).2,rfl,ha,fun u hu=>?_⟩
 exact ⟨k,x,_,u,rfl,hk,jU _ (List.mem_of_getElem? ha),hu,q⟩
abbrev kZ : Stmt := N3 24
theorem AZ7 : G0 ["truth"] ["truth"] (B6 kZ) := ⟨rfl,rfl,rfl,by decide +kernel,rfl,by decide +kernel,by decide +kernel⟩
def hU (K : PySem.W.Frag) : Sp := fun args H Q _=>∃ b : Bool,args = [.bl b] ∧ ∀ H' u,Same H H' → DatV K H' (O1 1 (.tuple [.bool b])) u → Q u H'
theorem AU4 (F : Fun K "of_truth" "of_truth" kZ f fd) (WP : Cal P w K mg base 1 "with_part" ["word","part"] (fN K)) : FnOk P w K mg base L9 2 f fd ["truth"] (hU K) := by
 refine F.ok AZ7 (fun vs H Q E h=>?_) (fun cdv A outer s H vs Q E hr h=>?_)
 ·obtain ⟨b,rfl,_⟩ := h
  rfl
 obtain ⟨b,rfl,q⟩ := h
 refine ⟨_,A9 (D8 (B8 WP hr rfl (A0 E1 (A0 (G1 (A0 (pv 0) A6)) A6)))),?_⟩
 refine ⟨_,rfl,X2,fun p hp=>⟨1,_,.tuple [.bool b],_,rfl,rfl,W8 T4,K2 (SqT.of A5) (N7 (P1.mpr rfl)),fun H' u g hu=>q H' u ((A8 hp _).trans g) hu⟩⟩
abbrev kY : Stmt := N3 26
theorem AZ6 : G0 ["text"] ["text"] (B6 kY) := ⟨rfl,rfl,rfl,by decide +kernel,rfl,by decide +kernel,by decide +kernel⟩
def hJ (K : PySem.W.Frag) : Sp := fun args H Q _=>∃ x : Str,args = [.str x] ∧ PyData.strOk x = true ∧ ∀ H' u,Same H H' → DatV K H' (O1 3 (.tuple [dS oF,.tuple [dS x]])) u → Q u H'
theorem AU3 (F : Fun K "of_text" "of_text" kY f fd) (WP : Cal P w K mg base 1 "with_part" ["word","part"] (fN K)) : FnOk P w K mg base L9 2 f fd ["text"] (hJ K) := by
 refine F.ok AZ6 (fun vs H Q E h=>?_) (fun cdv A outer s H vs Q E hr h=>?_)
 ·obtain ⟨x,rfl,_⟩ := h
  rfl
 obtain ⟨x,rfl,hx,q⟩ := h
 refine ⟨_,A9 (D8 (B8 WP hr rfl (A0 E1 (A0 (G1 (A0 E1 (A0 (G1 (A0 (pv 0) A6)) A6))) A6)))),?_⟩
 refine ⟨_,rfl,X2,fun p hp=>⟨M0,fun p2 hp2=>⟨3,_,.tuple [dS oF,.tuple [dS x]],_,rfl,rfl,R4 (K5 (by decide +kernel)) (W8 (K5 hx)),?_,fun H' u g hu=>q H' u ((A8 hp _).trans ((A8 hp2 _).trans g)) hu⟩⟩⟩
 exact K2 (SqT.of A5) (E5 (G9.mpr rfl) (N7 (K2 (SqT.of (A8 hp2 _ _ _ A5)) (N7 (G9.mpr rfl)))))
theorem SpansV.dat {H : Hp} {v : V} {ss : List Pr} (h : SpansV K H v ss) : DatV K H (mF ss) v := by
 obtain ⟨a,vs,rfl,q,p⟩ := h
 refine K2 q ?_
 clear q
 induction p with
 | nil=>exact L7
 | @cons v p _ _ r _ ih =>
  obtain ⟨a,x,y,rfl,q,hx,hy⟩ := r
  exact E5 (K2 q (E5 (EndV.dat hx) (N7 (EndV.dat hy)))) ih
def gB (lo hi : En) : List Pr := if aM (lo,hi) then [(lo,hi)] else []
theorem AF4 (lo hi : En) : Form (gB lo hi) := by
 unfold gB
 split
 ·rename_i c
  exact ⟨fun p hp=>by rw [List.mem_singleton.mp hp]; exact (tI _).mp c,List.pairwise_singleton _ _⟩
 ·exact Form.nil
theorem tL (n : Int) (lo hi : En) : J6 n (gB lo hi) = J6 n [(lo,hi)] := by
 unfold gB
 split
 ·rfl
 ·rename_i c
  rw [O9,pW (by simpa using c),eU]; rfl
abbrev sO : Stmt := N3 25
theorem BD9 : G0 ["low","high"] ["low","high"] (B6 sO) := ⟨rfl,rfl,rfl,by decide +kernel,rfl,by decide +kernel,by decide +kernel⟩
def kR (K : PySem.W.Frag) : Sp := fun args H Q _=>∃ lo hi : En,args = [oV lo,oV hi] ∧ ∀ H' u,Same H H' → DatV K H' (O1 2 (mF (gB lo hi))) u → Q u H'
theorem BB1 (F : Fun K "of_numbers" "of_numbers" sO f fd) (WP : Cal P w K mg base 1 "with_part" ["word","part"] (fN K)) (SO : Cal P w K mg base 3 "spans_of" ["pairs"] (AB9 K)) : FnOk P w K mg base L9 4 f fd ["low","high"] (kR K) := by
 refine F.ok BD9 (fun vs H Q E h=>?_) (fun cdv A outer s H vs Q E hr h=>?_)
 ·obtain ⟨lo,hi,rfl,_⟩ := h
  rfl
 obtain ⟨lo,hi,rfl,q⟩ := h
 refine ⟨_,A9 (D8 (B8 WP (hr.mono (by decide)) rfl (A0 E1 (A0 (B8 SO hr rfl (A0 (P8 (A0 (G1 (A0 (pv 0) (A0 (pv 1) A6))) A6)) A6)) A6)))),?_⟩
 refine ⟨_,rfl,_,rfl,M0,fun p hp=>⟨X2,fun l hl=>?_⟩⟩
 have k1 := A8 hp (.tup [oV lo,oV hi])
 have k2 := A8 hl (.lst [.ref p])
 refine ⟨l,[.ref p],[(lo,hi)],rfl,SqL.of A5,(by show 1 < 64; decide),.cons ⟨p,rfl,SqT.of (k2 _ _ A5)⟩ .nil,fun H' u ss g hs hf hm _=>?_⟩
 have e : ss = gB lo hi := Form.same hf (AF4 lo hi) fun n=>by rw [hm,tL]
 subst e
 exact ⟨2,_,_,u,rfl,rfl,pU _,SpansV.dat hs,fun H2 u2 g2 hu=>q H2 u2 (k1.trans (k2.trans (g.trans g2))) hu⟩
end
end Law
namespace Law
open PySem L2 L2.Sp
section
variable {P : Program} {w : World} {K : PySem.W.Frag} {mg : Str → Option Value} {base : Heap} {f : Addr} {fd : FuncData}
theorem DatAll.back {H : Hp} {ds : List PyData} {vs : List V} {j : Nat} {u : V} (h : DatAll K H ds vs) (e : vs[j]? = some u) : ∃ d,ds[j]? = some d ∧ DatV K H d u := by
 have hl := DatAll.length h
 have hj : j < ds.length := by rw [← hl]; exact (List.getElem?_eq_some_iff.mp e).1
 obtain ⟨u',e',hd⟩ := DatAll.get h (List.getElem?_eq_getElem hj)
 rw [e] at e'
 cases e'
 exact ⟨_,List.getElem?_eq_getElem hj,hd⟩
theorem AP8 {α : Type} {xs : List α} {i : Nat} {x : α} (h : xs.reverse[i]? = some x) : i < xs.length ∧ xs[xs.length - 1 - i]? = some x := by
 have hi : i < xs.length := by have := (List.getElem?_eq_some_iff.mp h).1; simpa using this
 rw [List.getElem?_reverse hi] at h
 exact ⟨hi,h⟩
abbrev iE : Stmt := N3 27
theorem jN : G0 ["kinds","more","form","kind"] ["kinds","more"] (B6 iE) := ⟨rfl,rfl,rfl,by decide +kernel,rfl,by decide +kernel,by decide +kernel⟩
def aX (K : PySem.W.Frag) : Sp := fun args H Q _=>∃ (a : Addr) (vs : List V) (ds : List PyData) (m : Bool),args = [.ref a,.bl m] ∧ SqL K H a vs ∧ DatAll K H ds vs ∧ (∀ d ∈ ds,G6 d) ∧ ∀ H' u,Same H H' → DatV K H' (O1 4 (K9 m ds)) u → Q u H'
theorem AN9 {c dt : Addr} (F : FunD K "of_list" "of_list" iE f c dt fd) (G : Gk K mg) (WP : Cal P w K mg base 1 "with_part" ["word","part"] (fN K)) (m1 : mg "reversed" = none) : FnOk P w K mg base L9 2 f fd ["kinds","more"] (aX K) := by
 refine F.ok jN (fun vs H Q E h=>?_) (fun A outer s H vs Q E hr h=>?_)
 ·obtain ⟨a,vs,ds,m,rfl,_⟩ := h
  rfl
 obtain ⟨a,vs,ds,m,rfl,hq,hd,hok,q⟩ := h
 obtain ⟨gn,ys,mn,hn⟩ := G.nt
 obtain ⟨go,mo,ho⟩ := G.no
 obtain ⟨gl,ml,hl⟩ := G.al
 refine ⟨_,X3 (G2 (i := 2) jN.nd rfl (Or.inl rfl) (X1 (Q6 (pv 1)) (M3 (v := .ref gl) rfl ml rfl) (G1 (A0 E1 (A0 W7 (A0 (G1 A6) A6))))))
  (B5 (R9 PassesOwn.never rfl (AT7 rfl m1 (A0 (pv 0) A6)) (G5 (i := 3) jN.nd rfl (Or.inl rfl))
   (A9 (G2 (i := 2) jN.nd rfl (Or.inl rfl) (X1 (PW.pt (aN (E2 (W1 hr.units) (pv 3) (M3 (v := .ref gn) rfl mn rfl) (D7 _)) (X6 (E2 (W1 hr.units) (pv 2) (M3 (v := .ref go) rfl mo rfl) (D7 _))))) (M3 (v := .ref go) rfl mo rfl)
    (G1 (A0 E1 (A0 W7 (A0 (G1 (A0 (G1 (A0 (pv 3) (A0 (pv 2) A6))) A6)) A6))))))))
  (A9 (D8 (B8 WP hr rfl (A0 E1 (A0 (pv 2) A6)))))),?_⟩
 have hl0 := DatAll.length hd
 refine ⟨fun σ' H'=>∃ vf,σ' = [some (.ref a),some (.bl m),some vf,none] ∧ Same H H' ∧ DatV K H' (K9 m []) vf,?_,?_⟩
 ·refine ⟨_,rfl,_,rfl,?_⟩
  cases m with
  | true=>exact K8 ⟨_,rfl,W6,hl H⟩
  | false =>
   refine L5 ⟨X8,fun p hp=>⟨N4,fun p2 hp2=>⟨_,rfl,(A8 hp _).trans (A8 hp2 _),?_⟩⟩⟩
   exact K2 (SqT.of A5) (E5 (G9.mpr rfl) (E5 (P1.mpr rfl) (N7 (K2 (SqT.of (A8 hp2 _ _ _ A5)) L7))))
 rintro σ1 H1 ⟨vf,rfl,g1,hvf⟩
 refine ⟨_,rfl,a,vs,rfl,g1.seq hq,?_⟩
 refine AP9 (xs := vs) (fun i σ H'=>∃ (u : V) (z : Option V),σ = [some (.ref a),some (.bl m),some u,z] ∧ Same H H' ∧ DatV K H' (K9 m (ds.drop (ds.length - i))) u)
  ⟨vf,none,rfl,g1,by rw [Nat.sub_zero,List.drop_length]; exact hvf⟩ (fun i σ H' _ ⟨_,_,_,g,_⟩=>g.seq hq) (fun i x σ H' hx hinv=>?_) (fun σ H' hinv=>?_)
 ·obtain ⟨u,z,rfl,g,hu⟩ := hinv
  obtain ⟨hi,hx⟩ := AP8 hx
  obtain ⟨d,hdj,hdv⟩ := DatAll.back hd hx
  have hdok := hok d (List.mem_of_getElem? hdj)
  have hrok : G6 (K9 m (ds.drop (ds.length - i))) := bG fun y hy=>hok y (List.mem_of_mem_drop hy)
  have e : ds.drop (ds.length - (i + 1)) = d :: ds.drop (ds.length - i) := by
   rw [show ds.length - (i + 1) = vs.length - 1 - i by omega,gL hdj,show vs.length - 1 - i + 1 = ds.length - i by omega]
  have hx' := O7 g hdok hdv
  rw [e]
  refine ⟨_,rfl,d,J8,hx',K2 (hn H').1 (hn H').2,hdok.lay,cN.lay,aP (by decide +kernel),_,rfl,?_⟩
  have eF : K9 m (d :: ds.drop (ds.length - i)) = if PyData.eqv d J8 || PyData.eqv (K9 m (ds.drop (ds.length - i))) S0 then S0 else bL d (K9 m (ds.drop (ds.length - i))) := by rw [K9]
  refine M2 (fun c1=>K8 ⟨_,_,rfl,g,?_⟩) (fun c1=>?_)
  ·rw [eF,c1,if_pos (by simp)]
   exact ho H'
  refine ⟨_,rfl,_,S0,hu,ho H',hrok.lay,gC.lay,aP (by decide +kernel),_,rfl,?_⟩
  refine M2 (fun c2=>⟨_,_,rfl,g,?_⟩) (fun c2=>?_)
  ·rw [eF,c2,Bool.or_true,if_pos rfl]
   exact ho H'
  refine ⟨_,rfl,_,rfl,M0,fun p hp=>⟨X2,fun p2 hp2=>⟨N4,fun p3 hp3=>?_⟩⟩⟩
  have k1 := A8 hp (.tup [x,u])
  have k2 := A8 hp2 (.tup [.ref p])
  have k3 := A8 hp3 (.tup [.str (Str.ofString "first"),.bl false,.ref p2])
  refine ⟨_,_,rfl,g.trans (k1.trans (k2.trans k3)),?_⟩
  rw [eF,if_neg (by simp only [Bool.or_eq_true,not_or]; exact ⟨c1,c2⟩)]
  refine K2 (SqT.of A5) (E5 (G9.mpr rfl) (E5 (P1.mpr rfl) (N7 (K2 (SqT.of (k3 _ _ A5)) (N7 (K2 (SqT.of (k3 _ _ (k2 _ _ A5))) (E5 ?_ (N7 ?_))))))))
  ·exact O7 (k1.trans (k2.trans k3)) hdok hx'
  ·exact O7 (k1.trans (k2.trans k3)) hrok hu
 ·obtain ⟨u,z,rfl,g,hu⟩ := hinv
  rw [hl0,Nat.sub_self,List.drop_zero] at hu
  exact ⟨_,rfl,4,_,_,u,rfl,rfl,bG hok,hu,fun H2 u2 g2 hu2=>q H2 u2 (g.trans g2) hu2⟩
abbrev sL : Stmt := N3 29
theorem AS3 : G0 ["name","kind","must","form","more","absent"] ["name","kind","must","form","more"] (B6 sL) := ⟨rfl,rfl,rfl,by decide +kernel,rfl,by decide +kernel,by decide +kernel⟩
def AB8 (K : PySem.W.Frag) : Sp := fun args H Q _=>∃ (e : Fl) (v u : V) (fo : PyData) (m : Bool),args = [.str e.1,v,.bl e.2.2,u,.bl m] ∧ G6 e.2.1 ∧ DatV K H e.2.1 v ∧ G6 fo ∧ DatV K H fo u ∧ ∀ H' x,Same H H' → DatV K H' (S9 m e fo) x → Q x H'
theorem BA8 (F : Fun K "with_field" "with_field" sL f fd) (G : Gk K mg) : FnOk P w K mg base L9 1 f fd ["name","kind","must","form","more"] (AB8 K) := by
 refine F.ok AS3 (fun vs H Q E h=>?_) (fun cdv A outer s H vs Q E hr h=>?_)
 ·obtain ⟨e,v,u,fo,m,rfl,_⟩ := h
  rfl
 obtain ⟨⟨n,d,b⟩,v,u,fo,m,rfl,hd,hv,hf,hu,q⟩ := h
 obtain ⟨gn,ys,mn,hn⟩ := G.nt
 obtain ⟨ga,za,ma,ha⟩ := G.an
 obtain ⟨gr,mr,hrr⟩ := G.nr
 refine ⟨_,X3 (G2 (i := 5) AS3.nd rfl (Or.inl rfl) (X1 (Q6 (pv 2)) (M3 (v := .ref gr) rfl mr rfl) (pv 3)))
  (B5 (G4 (PW.pt (aN (E2 (W1 hr.units) (pv 1) (M3 (v := .ref gn) rfl mn rfl) (D7 _)) (X6 (E2 (W1 hr.units) (pv 3) (M3 (v := .ref gr) rfl mr rfl) (D7 _)))))
   (A9 (D8 (X1 (PW.pt (Z7 (Q6 (pv 4)) (Y6 (E2 (AU1 hr.units) (pv 5) (M3 (v := .ref gr) rfl mr rfl) (D7 _))))) (G1 (A0 E1 (A0 (pv 0) (A0 (pv 5) (A0 (G1 A6) A6))))) (pv 5)))) E7)
  (B5 (G4 (PW.pt (Z7 (E2 (W1 hr.units) (pv 1) (M3 (v := .ref ga) rfl ma rfl) (D7 _)) (Z7 (Q6 (pv 4)) (Y6 (Z8 (Q6 (pv 2))))))) (A9 (D8 (pv 5))) E7)
  (A9 (D8 (G1 (A0 E1 (A0 (pv 0) (A0 (pv 5) (A0 (G1 (A0 (G1 (A0 (pv 1) (A0 (pv 3) A6))) A6)) A6))))))))),?_⟩
 refine ⟨fun σ' H'=>∃ va,σ' = [some (.str n),some v,some (.bl b),some u,some (.bl m),some va] ∧ H' = H ∧ DatV K H (bif b then G7 else fo) va,?_,?_⟩
 ·refine ⟨_,rfl,_,rfl,?_⟩
  cases b with
  | true=>exact K8 ⟨_,rfl,rfl,hrr H⟩
  | false=>exact L5 ⟨_,rfl,_,rfl,rfl,hu⟩
 rintro σ1 H1 ⟨va,rfl,rfl,hva⟩
 have hab : G6 (bif b then G7 else fo) := by cases b; exact hf; exact V7
 have rest : (PyData.eqv d J8 || PyData.eqv fo G7) = false → ∃ x,[some (V.str n),some v,some (.bl b),some u,some (.bl m),some va][1]? = some (some x) ∧ ∃ dx dy,DatV K H1 dx x ∧ DatV K H1 dy (.ref ga) ∧ dx.canLay0 = true ∧ dy.canLay0 = true ∧ min dx.depth dy.depth ≤ 60 ∧ True := fun _=>⟨v,rfl,d,S7,hv,K2 (ha H1).1 (ha H1).2,hd.lay,lJ.lay,aP (by decide +kernel),trivial⟩
 clear rest
 have last : (PyData.eqv d J8 || PyData.eqv fo G7) = false → (PyData.eqv d S7 && m && !b) = false → ∀ x H',Same H1 H' → DatV K H' (gF n (bif b then G7 else fo) d fo) x → Q x H' := fun c1 c2 x H' g hx=>by
  refine q H' x g ?_
  unfold S9
  simp only [c1]
  cases b with
  | true=>exact hx
  | false =>
   have c2 : (PyData.eqv d S7 && m) = false := by simpa using c2
   simp only [c2]
   exact hx
 have fin : ∀ {Q' : VK},(∀ x H',Same H1 H' → DatV K H' (gF n (bif b then G7 else fo) d fo) x → Q' x H') → fM (N5 (tC (.str (Str.ofString "name"))) (N5 (O4 0) (N5 (O4 5) (N5 (fM (N5 (fM (N5 (O4 1) (N5 (O4 3) Y3))) Y3)) Y3)))) [some (V.str n),some v,some (.bl b),some u,some (.bl m),some va] H1 Q' := fun {Q'} hq=>by
  refine ⟨_,rfl,_,rfl,_,rfl,_,rfl,M0,fun p hp=>⟨X2,fun p2 hp2=>⟨AE8,fun p3 hp3=>?_⟩⟩⟩
  have k1 := A8 hp (.tup [v,u])
  have k2 := A8 hp2 (.tup [.ref p])
  have k3 := A8 hp3 (.tup [.str (Str.ofString "name"),.str n,va,.ref p2])
  have kk := k1.trans (k2.trans k3)
  refine hq _ _ kk (K2 (SqT.of A5) (E5 (G9.mpr rfl) (E5 (G9.mpr rfl) (E5 (O7 kk hab hva) (N7 (K2 (SqT.of (k3 _ _ A5)) (N7 (K2 (SqT.of (k3 _ _ (k2 _ _ A5))) (E5 (O7 kk hd hv) (N7 (O7 kk hf hu)))))))))))
 have inn : (PyData.eqv d J8 || PyData.eqv fo G7) = true → tIf (AB3 (tB (O4 4)) (gY (U8 (AT3 K) (O4 5) (tC (.ref gr))))) (fM (N5 (tC (.str (Str.ofString "name"))) (N5 (O4 0) (N5 (O4 5) (N5 (fM Y3) Y3))))) (O4 5) [some (V.str n),some v,some (.bl b),some u,some (.bl m),some va] H1 Q := fun c1=>by
  have h1 : m = false → S9 m (n,d,b) fo = (bif b then G7 else fo) := fun e=>by
   unfold S9
   simp only [c1,e]
   cases b <;> rfl
  have h2 : PyData.eqv (bif b then G7 else fo) G7 = true → S9 m (n,d,b) fo = (bif b then G7 else fo) := fun e=>by
   unfold S9
   simp only [c1]
   cases b with
   | true=>rfl
   | false =>
    have e : PyData.eqv fo G7 = true := e
    simp only [e,Bool.not_true,Bool.and_false]
    rfl
  refine ⟨_,rfl,_,rfl,?_⟩
  cases m with
  | false=>exact L5 (L5 ⟨_,rfl,q _ _ W6 (by rw [h1 rfl]; exact hva)⟩)
  | true =>
   refine K8 ⟨_,rfl,_,G7,hva,hrr H1,hab.lay,V7.lay,aP (by decide +kernel),_,rfl,M2 (fun c=>?_) (fun c=>?_)⟩
   ·have c' : PyData.eqv (bif b then G7 else fo) G7 = false := by simpa using c
    refine ⟨_,rfl,_,rfl,X8,fun p hp=>⟨AE8,fun p2 hp2=>?_⟩⟩
    have k1 := A8 hp (.tup [])
    have k2 := A8 hp2 (.tup [.str (Str.ofString "name"),.str n,va,.ref p])
    refine q _ _ (k1.trans k2) ?_
    cases b with
    | true=>exact absurd c' (by rw [show (bif true then G7 else fo) = G7 from rfl,AO4]; decide)
    | false =>
     have c' : PyData.eqv fo G7 = false := c'
     have e : S9 true (n,d,false) fo = lL n fo := by
      unfold S9
      have c3 : PyData.eqv d J8 = true := by rw [c',Bool.or_false] at c1; exact c1
      simp only [c3,c',Bool.true_or]
      rfl
     rw [e]
     exact K2 (SqT.of A5) (E5 (G9.mpr rfl) (E5 (G9.mpr rfl) (E5 (O7 (k1.trans k2) hf hva) (N7 (K2 (SqT.of (k2 _ _ A5)) L7)))))
   ·exact ⟨_,rfl,q _ _ W6 (by rw [h2 (by simpa using c)]; exact hva)⟩
 refine ⟨_,rfl,d,J8,hv,K2 (hn H1).1 (hn H1).2,hd.lay,cN.lay,aP (by decide +kernel),_,rfl,?_⟩
 refine M2 (fun c1=>K8 (inn (by rw [c1]; rfl))) (fun c1=>?_)
 refine ⟨_,rfl,fo,G7,hu,hrr H1,hf.lay,V7.lay,aP (by decide +kernel),_,rfl,M2 (fun c2=>inn (by rw [c2,Bool.or_true])) (fun c2=>?_)⟩
 have c12 : (PyData.eqv d J8 || PyData.eqv fo G7) = false := by
  rw [Bool.or_eq_false_iff]
  exact ⟨by simpa using c1,by simpa using c2⟩
 refine ⟨_,rfl,d,S7,hv,K2 (ha H1).1 (ha H1).2,hd.lay,lJ.lay,aP (by decide +kernel),_,rfl,?_⟩
 refine M2 (fun c3=>⟨_,rfl,_,rfl,?_⟩) (fun c3=>L5 (fin (last c12 (by rw [show PyData.eqv d S7 = false by simpa using c3]; rfl))))
 cases m with
 | false=>exact L5 (L5 (fin (last c12 (by simp))))
 | true =>
  refine K8 ⟨_,rfl,_,rfl,?_⟩
  cases b with
  | true=>exact L5 (fin (last c12 (by simp)))
  | false =>
   refine K8 ⟨_,rfl,q _ _ W6 ?_⟩
   unfold S9
   simp only [c12,c3]
   exact hva
end
end Law
namespace Law
open PySem L2 L2.Sp
theorem yN {a b : Str} (h : T5 a b = false) (n : a ≠ b) : T5 b a = true := by
 cases e : T5 b a with
 | true=>rfl
 | false=>exact absurd (AE3 e h) n
theorem AC9 {α β : Type} {f : α → β} {xs : List α} {ys : List β} (h : ys.Perm (xs.map f)) : ∃ zs : List α,zs.Perm xs ∧ zs.map f = ys := by
 have p0 : ∀ xs : List α,Paired (fun a b=>f a = b) xs (xs.map f) := fun xs=>by
  induction xs with
  | nil=>exact .nil
  | cons x xs ih=>exact .cons rfl ih
 have p1 : ∀ {xs : List α} {ys : List β},Paired (fun a b=>f a = b) xs ys → xs.map f = ys := fun {xs ys} h=>by
  induction h with
  | nil=>rfl
  | cons r _ ih=>rw [List.map_cons,r,ih]
 obtain ⟨zs,hz,hp⟩ := Z2 h.symm (p0 xs)
 exact ⟨zs,hz,p1 hp⟩
section
variable {P : Program} {w : World} {K : PySem.W.Frag} {mg : Str → Option Value} {base : Heap} {f : Addr} {fd : FuncData}
structure CalD (P : Program) (w : World) (K : PySem.W.Frag) (mg : Str → Option Value) (base : Heap) (k : Nat) (x : Str) (ps : List Str) (sp : Sp) : Prop where
 ex : ∃ (f : Addr) (fd : FuncData),FnOk P w K mg base L9 k f fd ps sp ∧ mg x = some (.ref f) ∧ PySem.W.keepIn K (.ref f) = true ∧ Binds K fd ps [] ∧ Binds K fd ps [.bool false]
theorem CalD.cal {k : Nat} {x : Str} {ps : List Str} {sp : Sp} (C : CalD P w K mg base k x ps sp) : Cal P w K mg base k x ps sp := by
 obtain ⟨f,fd,F,a,b,c,_⟩ := C.ex
 exact ⟨f,fd,F,a,b,c⟩
theorem iJ {X : Cx} {k : Nat} {x : Str} {ps : List Str} {sp : Sp} {p pos : Pos} {e : Expr} {es : List Expr} {t : TA} (C : CalD X.prog X.w X.K X.mg X.base k x ps sp) (hr : Room k X.A) (hg : Gl X x) (ha : PA X (e :: es) t)
  (hdb : (x == ("__debug__" : Str)) = false := by decide) (he : starEach (e :: es) X.env = (false,eval e X.env) :: starEach es X.env := by rfl) (hpl : (backTo pos (starEach es X.env)).any (·.1) = false := by rfl) :
  PE X (.Call (.Name x p) (e :: es) [] pos) (gZ sp [.bl false] E0 t) := by
 obtain ⟨f,fd,F,a,b,_,c⟩ := C.ex
 exact sW F hr hg a b c (.cons rfl .nil) AI2 ha hdb he hpl
abbrev iX : Stmt := N3 28
theorem hX : G0 ["fields","more","form","name","kind","must"] ["fields","more"] (B6 iX) := ⟨rfl,rfl,rfl,by decide +kernel,rfl,by decide +kernel,by decide +kernel⟩
def Q5 : Pos := match E4 iX with
 | _ :: .For _ (.Call _ _ (⟨_,.Lambda _ _ _ p,_⟩ :: _) _) _ _ _ :: _=>p
 | _=>⟨0,0,0,0⟩
def Q4 : Str := (Str.ofString "of_record" ++ Str.ofString ".<locals>.") ++ Str.ofString "<lambda>"
def FldV (K : PySem.W.Frag) (H : Hp) (v : V) (e : Fl) : Prop := ∃ c y,v = .ref c ∧ SqT K H c [.str e.1,y,.bl e.2.2] ∧ DatV K H e.2.1 y ∧ G6 e.2.1 ∧ PyData.strOk e.1 = true
theorem FldV.kt {H H' : Hp} {v : V} {e : Fl} (k : KF K H H') (h : FldV K H v e) : FldV K H' v e := by
 obtain ⟨c,y,h1,h2,h3,h4,h5⟩ := h
 exact ⟨c,y,h1,k.t _ _ h2,DatV.kt k h4.nol h3,h4,h5⟩
def dY (K : PySem.W.Frag) (T : Addr) : Sp := fun args H Q _=>∃ (a : Addr) (vs : List V) (fl : List Fl) (m : Bool),args = [.ref a,.bl m] ∧ H a = some (.lst vs) ∧ TabH H T Q5 Q4 ∧ Paired (FldV K H) vs fl ∧ (fl.map (·.1)).Nodup ∧ fl.length < 64 ∧
 ∀ H' u es,TB T Q5 Q4 H H' → es.Perm fl → es.Pairwise (fun p q=>T5 p.1 q.1 = true) → DatV K H' (O1 5 (K4 m es)) u → Q u H'
theorem AK3 {α : Type} : ∀ {vs : List V} {fl : List Fl},vs.length = fl.length → ∀ {i : Nat} {v : V} {k : Str},vs[i]? = some v → (fl.map (·.1))[i]? = some k → ∃ e,fl[i]? = some e ∧ e.1 = k := fun {vs fl} _ {i v k} _ hk=>by
 rw [List.getElem?_map] at hk
 cases e : fl[i]? with
 | none=>rw [e] at hk; cases hk
 | some x=>rw [e] at hk; cases hk; exact ⟨x,rfl,rfl⟩
theorem zH {H : Hp} : ∀ {vs : List V} {fl : List Fl},Paired (FldV K H) vs fl → Paired (fun (e : Fl) (p : Str × V)=>p.1 = e.1 ∧ FldV K H p.2 e) fl ((fl.map (·.1)).zip vs)
 | _,_,.nil=>.nil
 | _,_,.cons r t=>.cons ⟨rfl,r⟩ (zH t)
theorem lS {H : Hp} : ∀ {fl : List Fl} {ps : List (Str × V)},Paired (fun (e : Fl) (p : Str × V)=>p.1 = e.1 ∧ FldV K H p.2 e) fl ps → Paired (FldV K H) (ps.map Prod.snd) fl ∧ fl.map (·.1) = ps.map Prod.fst
 | _,_,.nil=>⟨.nil,rfl⟩
 | _,_,.cons r t=>⟨.cons r.2 (lS t).1,by rw [List.map_cons,List.map_cons,(lS t).2,r.1]⟩
theorem AV8 {params : Arguments} {body : Expr} {scope : Scope} {x : Str} {p1 p2 p3 : Pos} {n : Nat} (e : body = .Subscript (.Name x p1) (.Constant (.int 0) n p2) p3) (h1 : scope.names = [(x,.local)]) (h2 : scope.kind = .function) (h3 : scope.isCoroutine = false) (h4 : scope.isGenerator = false) (h5 : (x == ("__debug__" : Str)) = false)
  (h6 : ∀ (name qual : Str) (cl : List (Str × Addr)) (pm cdv ct : Value) (v : Value),bindArgs (PySem.W.kla_fn name qual params body scope cl pm cdv ct) ⟨[v],[]⟩ = pure [(x,v)]) : wC params body scope := ⟨x,p1,p2,p3,n,e,h1,h2,h3,h4,h5,h6⟩
theorem AU5 {c dt T : Addr} (F : FunD K "of_record" "of_record" iX f c dt fd) (hC : PySem.W.CodeHd base c T) (hB : base.BuiltinsAt mg T) (WP : Cal P w K mg base 1 "with_part" ["word","part"] (fN K)) (WF : Cal P w K mg base 1 "with_field" ["name","kind","must","form","more"] (AB8 K)) (m1 : mg "sorted" = none) : FnOk P w K mg base L9 2 f fd ["fields","more"] (dY K T) := by
 refine F.ok hX (fun vs H Q E h=>?_) (fun A outer s H vs Q E hr h=>?_)
 ·obtain ⟨a,vs,fl,m,rfl,_⟩ := h
  rfl
 obtain ⟨a,vs,fl,m,rfl,ha,hT,hP,hnd,h64,q⟩ := h
 refine ⟨_,B5 (G2 (i := 2) hX.nd rfl (Or.inl rfl) (G1 (A0 E1 (A0 W7 (A0 (pv 1) A6)))))
  (B5 (R9 PassesOwn.never rfl (U5 (AD0 (T := T) (c := c) (AV8 rfl rfl rfl rfl rfl (by decide) (fun _ _ _ _ _ _ _=>rfl)) rfl hC hB rfl rfl hr.depth rfl m1 (A0 (pv 0) A6))) (V2 (n := 3) rfl (K1 (G5 (i := 3) hX.nd rfl (Or.inl rfl)) (K1 (G5 (i := 4) hX.nd rfl (Or.inl rfl)) (K1 (G5 (i := 5) hX.nd rfl (Or.inl rfl)) T2))))
   (A9 (G2 (i := 2) hX.nd rfl (Or.inl rfl) (B8 WF hr rfl (A0 (pv 3) (A0 (pv 4) (A0 (pv 5) (A0 (pv 2) (A0 (pv 1) A6)))))))))
  (A9 (D8 (B8 WP hr rfl (A0 E1 (A0 (pv 2) A6)))))),?_⟩
 have hvl := hP.length
 refine ⟨_,rfl,N4,fun p hp=>?_⟩
 have k1 := A8 hp (.tup [.str (Str.ofString "rest"),.bl true,.bl m])
 have B1 := (TB.start hT).new (o := .tup [.str (Str.ofString "rest"),.bl true,.bl m]) hp
 refine ⟨_,rfl,a,vs,fl.map (·.1),rfl,k1 _ _ ha,B1.t,by rw [List.length_map,hvl],by omega,fun i v k hv hk=>?_,fun H2 D ps g2 hT2 hD hperm hpw=>?_⟩
 ·obtain ⟨e,he,_⟩ := AK3 (α := Nat) hvl hv hk
  obtain ⟨e',he',c',y,rfl,hq,_⟩ := P5 hP hv
  rw [he] at he'
  cases he'
  refine ⟨c',[y,.bl e.2.2],rfl,?_⟩
  have : e.1 = k := by rw [List.getElem?_map,he] at hk; cases hk; rfl
  rw [← this]
  exact k1.seqT hq
 obtain ⟨fl',hfl,hpr⟩ := Z2 hperm.symm (zH hP)
 obtain ⟨hP',hfst⟩ := lS hpr
 have B2 : TB T Q5 Q4 H H2 := B1.more ⟨fun b o hb h=>g2 b o hb h,hT2,B1.t⟩
 have npT : p ≠ T := (TB.start hT).ne hp
 have hp2 : H2 p = some (.tup [.str (Str.ofString "rest"),.bl true,.bl m]) := g2 _ _ npT A5
 have hDne : H D = none := B2.old hD
 have kD := A8 hD (.lst (ps.map Prod.snd))
 have B3 := B2.same kD
 have hP3 : Paired (FldV K (upd H2 D (.lst (ps.map Prod.snd)))) (ps.map Prod.snd) fl' := L2.Paired.mapP hP' fun _ _ z=>FldV.kt B3.kt.toKF z
 have hlp := hP3.length
 have nd' : (fl'.map (·.1)).Nodup := (hfl.map _).nodup_iff.mpr hnd
 have okf : ∀ e ∈ fl',PyData.strOk e.1 = true ∧ G6 e.2.1 := fun e he=>by
  obtain ⟨i,hi⟩ := List.mem_iff_getElem?.mp he
  have hi2 : i < (ps.map Prod.snd).length := by rw [hlp]; exact (List.getElem?_eq_some_iff.mp hi).1
  obtain ⟨e2,he2,_,_,_,_,_,h4,h5⟩ := P5 hP3 (List.getElem?_eq_getElem hi2)
  rw [hi] at he2
  cases he2
  exact ⟨h5,h4⟩
 refine ⟨D,rfl,⟨_,SqL.of A5⟩,?_⟩
 generalize hH3 : upd H2 D (.lst (ps.map Prod.snd)) = H3 at *
 have h3D : H3 D = some (.lst (ps.map Prod.snd)) := by rw [← hH3]; exact A5
 refine Y9 (xs := ps.map Prod.snd) (fun i σ H'=>∃ (u : V) (x y z : Option V),σ = [some (.ref a),some (.bl m),some u,x,y,z] ∧ Same H3 H' ∧ DatV K H' (K4 m (fl'.take i).reverse) u)
  ⟨.ref p,none,none,none,rfl,W6,K2 (SqT.of (kD _ _ hp2)) (E5 (G9.mpr rfl) (E5 (P1.mpr rfl) (N7 (P1.mpr rfl))))⟩ (fun i σ H' _ ⟨_,_,_,_,_,g,_⟩=>SqL.of (g _ _ h3D)) (fun i x σ H' hx hinv=>?_) (fun σ H' hinv=>?_)
 ·obtain ⟨u,x0,y0,z0,rfl,g,hu⟩ := hinv
  obtain ⟨e,he,c',y,rfl,hq,hdy,hdk,hsk⟩ := P5 hP3 hx
  refine ⟨c',_,rfl,g.seqT hq,rfl,_,_,rfl,_,_,rfl,_,_,rfl,rfl,?_⟩
  have hro : G6 (K4 m (fl'.take i).reverse) := iK fun e2 he2=>okf e2 (List.mem_of_mem_take (List.mem_reverse.mp he2))
  refine ⟨_,rfl,_,rfl,_,rfl,_,rfl,_,rfl,e,y,u,_,m,rfl,hdk,O7 g hdk hdy,hro,hu,fun H4 u4 g4 hu4=>⟨u4,_,_,_,rfl,g.trans g4,?_⟩⟩
  rw [M5 he,List.reverse_append,List.reverse_singleton,List.singleton_append]
  exact hu4
 ·obtain ⟨u,x0,y0,z0,rfl,g,hu⟩ := hinv
  rw [hlp,List.take_length] at hu
  refine ⟨_,rfl,5,_,_,u,rfl,rfl,iK fun e2 he2=>okf e2 (List.mem_reverse.mp he2),hu,fun H4 u4 g4 hu4=>?_⟩
  refine q H4 u4 fl'.reverse (B3.same (g.trans g4)) ((List.reverse_perm _).trans hfl) ?_ hu4
  rw [List.pairwise_reverse]
  have hpw2 : (fl'.map (·.1)).Pairwise (fun a b=>T5 a b = false) := by rw [hfst]; exact pM.mp hpw
  rw [List.pairwise_map] at hpw2
  have hnd2 : fl'.Pairwise (fun a b=>a.1 ≠ b.1) := List.pairwise_map.mp nd'
  exact (hpw2.and hnd2).imp fun {a b} h=>yN h.1 h.2
end
end Law
namespace Law
open PySem L2 L2.Sp
theorem J9 {x y : V} {A B : Prop} (h : x ≠ y) (hb : B) : if decide (x = y) = true then A else B := by rw [decide_eq_false h]; exact L5 hb
theorem T7 {x y : V} {A B : Prop} (h : x = y) (ha : A) : if decide (x = y) = true then A else B := by rw [decide_eq_true h]; exact K8 ha
inductive ThOk : Nat → Th → Prop
 | non {n : Nat} : ThOk n .non
 | tru {n : Nat} {b : Bool} : ThOk n (.tru b)
 | num {n : Nat} {i : Int} : ThOk n (.num i)
 | txt {n : Nat} {s : Str} : Sg s → ThOk n (.txt s)
 | lst {n : Nat} {xs : List Th} : xs.length ≤ 40 → (∀ x ∈ xs,ThOk n x) → ThOk (n + 1) (.lst xs)
 | rc {n : Nat} {ns : List Str} {xs : List Th} : ns.length = xs.length → ns.length ≤ 40 → ns.Pairwise (fun a b=>T5 a b = true) → (∀ s ∈ ns,PyData.strOk s = true) → (∀ x ∈ xs,ThOk n x) → ThOk (n + 1) (.rc ns xs)
theorem Sg.ok {s : Str} (h : Sg s) : PyData.strOk s = true := by
 unfold PyData.strOk
 rw [← Array.all_toList,List.all_eq_true]
 intro c hc
 have := h.1 c hc
 exact decide_eq_true (by omega)
theorem ThOk.mono : ∀ {m n : Nat} {x : Th},m ≤ n → ThOk m x → ThOk n x := by
 intro m n
 induction n generalizing m with
 | zero=>intro x h hx; rw [Nat.le_zero.mp h] at hx; exact hx
 | succ n ih =>
  intro x h hx
  cases hx with
  | non=>exact .non
  | tru=>exact .tru
  | num=>exact .num
  | txt s=>exact .txt s
  | lst l hx=>exact .lst l fun x hm=>ih (by omega) (hx x hm)
  | rc l l2 p s hx=>exact .rc l l2 p s fun x hm=>ih (by omega) (hx x hm)
mutual
def P9 : Th → Tr
 | .non=>.sort 0
 | .tru b=>.truth b
 | .num i=>.span (some i) (some i)
 | .txt s=>.text s
 | .lst xs=>.lst (V1 xs) false
 | .rc ns xs=>.rc ns (ns.map fun _=>true) (V1 xs) false
def V1 : List Th → List Tr
 | []=>[]
 | x :: xs=>P9 x :: V1 xs
end
theorem O5 : ∀ xs : List Th,V1 xs = xs.map P9
 | []=>by simp only [V1,List.map_nil]
 | x :: xs=>by simp only [V1,List.map_cons,O5 xs]
theorem KdAll.snoc : ∀ {ts : List Tr} {ds : List PyData} {t : Tr} {d : PyData},KdAll ts ds → G8 t d → KdAll (ts ++ [t]) (ds ++ [d])
 | [],ds,t,d,h,h'=>by simp only [KdAll] at h; subst h; simp only [List.nil_append,KdAll]; exact ⟨d,[],rfl,h',rfl⟩
 | x :: ts,ds,t,d,h,h'=>by simp only [KdAll] at h; obtain ⟨y,r,rfl,h1,h2⟩ := h; simp only [List.cons_append,KdAll]; exact ⟨y,_,rfl,h1,KdAll.snoc h2 h'⟩
theorem AH5 : ∀ {n : Nat} {x : Th},ThOk n x → TD n (P9 x) := by
 intro n
 induction n with
 | zero=>intro x h; cases h <;> simp only [P9] <;> constructor
 | succ n ih =>
  intro x h
  cases h with
  | lst l hx=>simp only [P9]; exact .lst fun t ht=>by rw [O5] at ht; obtain ⟨x,hm,rfl⟩ := List.mem_map.mp ht; exact ih (hx x hm)
  | rc l l2 p s hx=>simp only [P9]; exact .rc fun t ht=>by rw [O5] at ht; obtain ⟨x,hm,rfl⟩ := List.mem_map.mp ht; exact ih (hx x hm)
  | non=>simp only [P9]; constructor
  | tru=>simp only [P9]; constructor
  | num=>simp only [P9]; constructor
  | txt=>simp only [P9]; constructor
theorem lX {t : Tr} {d : PyData} {n : Str} {b : Bool} : ∀ {ns : List Str} {ts : List Tr} {ds : List PyData} {bs : List Bool},ns.length = ts.length → ds.length = ts.length → bs.length = ts.length → Q2 (ns ++ [n]) (ts ++ [t]) (ds ++ [d]) (bs ++ [b]) = Q2 ns ts ds bs ++ [(n,t,d,b)]
 | [],[],[],[],_,_,_=>by simp [Q2]
 | _ :: ns,_ :: ts,_ :: ds,_ :: bs,h1,h2,h3=>by
  simp only [List.cons_append,Q2]
  rw [lX (by simpa using h1) (by simpa using h2) (by simpa using h3)]
 | [],_ :: _,_,_,h,_,_=>by simp at h
 | _ :: _,[],_,_,h,_,_=>by simp at h
 | _,[],_ :: _,_,_,h,_=>by simp at h
 | _,_ :: _,[],_,_,h,_=>by simp at h
 | _,[],_,_ :: _,_,_,h=>by simp at h
 | _,_ :: _,_,[],_,_,h=>by simp at h
structure KsI (K : PySem.W.Frag) (T : Addr) (H H' : Hp) (l : Addr) (zs : List V) (ts : List Tr) : Prop where
 tb : TB T Q5 Q4 H H'
 at' : H' l = some (.lst zs)
 ex : ∃ ds,DatAll K H' ds zs ∧ KdAll ts ds ∧ ∀ d ∈ ds,G6 d
structure FsI (K : PySem.W.Frag) (T : Addr) (H H' : Hp) (l : Addr) (zs : List V) (ns : List Str) (ms : List Bool) (ts : List Tr) : Prop where
 tb : TB T Q5 Q4 H H'
 at' : H' l = some (.lst zs)
 ln : ns.length = ts.length
 lm : ms.length = ts.length
 ex : ∃ ds,KdAll ts ds ∧ Paired (FldV K H') zs ((Q2 ns ts ds ms).map f4)
section
variable {P : Program} {w : World} {K : PySem.W.Frag} {mg : Str → Option Value} {base : Heap} {f : Addr} {fd : FuncData} {T : Addr}
theorem DatAll.snoc {H : Hp} : ∀ {ds : List PyData} {vs : List V} {d : PyData} {v : V},DatAll K H ds vs → DatV K H d v → DatAll K H (ds ++ [d]) (vs ++ [v])
 | [],vs,d,v,h,h'=>by simp only [DatAll] at h; subst h; exact N7 h'
 | x :: ds,vs,d,v,h,h'=>by simp only [DatAll] at h; obtain ⟨y,r,rfl,h1,h2⟩ := h; exact E5 h1 (DatAll.snoc h2 h')
theorem qX {H H' : Hp} (k : KF K H H') : ∀ {ds : List PyData} {vs : List V},(∀ d ∈ ds,G6 d) → DatAll K H ds vs → DatAll K H' ds vs
 | [],vs,_,h=>by simp only [DatAll] at h ⊢; exact h
 | d :: ds,vs,ho,h=>by
  simp only [DatAll] at h
  obtain ⟨y,r,rfl,h1,h2⟩ := h
  exact E5 (DatV.kt k (ho d List.mem_cons_self).nol h1) (qX k (fun x hx=>ho x (List.mem_cons_of_mem _ hx)) h2)
theorem KsI.start {H : Hp} {l : Addr} (hT : TabH H T Q5 Q4) (hl : H l = none) : KsI K T H (upd H l (.lst [])) l [] [] := ⟨(TB.start hT).new hl,A5,[],L7,by simp only [KdAll],fun d hd=>(by cases hd)⟩
theorem KsI.step {H H' H3 : Hp} {l : Addr} {zs : List V} {ts : List Tr} {t : Tr} {d : PyData} {u : V} (I : KsI K T H H' l zs ts) (hl : H l = none) (B : TB T Q5 Q4 H' H3) (hk : G8 t d) (ho : G6 d) (hd : DatV K H3 d u) :
  H3 l = some (.lst zs) ∧ KsI K T H (upd H3 l (.lst (zs ++ [u]))) l (zs ++ [u]) (ts ++ [t]) := by
 have h3 := B.lst I.at'
 have kf := KF.lst (K := K) (o := .lst (zs ++ [u])) h3
 obtain ⟨ds,h1,h2,hok⟩ := I.ex
 refine ⟨h3,(I.tb.more B).put hl h3,A5,ds ++ [d],DatAll.snoc (qX (B.kt.toKF.trans kf) hok h1) (DatV.kt kf ho.nol hd),h2.snoc hk,fun x hx=>?_⟩
 rcases List.mem_append.mp hx with z | z
 ·exact hok x z
 ·rw [List.mem_singleton.mp z]; exact ho
theorem KsI.size {H H' : Hp} {l : Addr} {zs : List V} {ts : List Tr} (I : KsI K T H H' l zs ts) : zs.length = ts.length := by
 obtain ⟨ds,h1,h2,hok⟩ := I.ex
 rw [DatAll.length h1,h2.length]
theorem FsI.start {H : Hp} {l : Addr} (hT : TabH H T Q5 Q4) (hl : H l = none) : FsI K T H (upd H l (.lst [])) l [] [] [] [] := ⟨(TB.start hT).new hl,A5,rfl,rfl,[],by simp only [KdAll],.nil⟩
theorem oJ : ∀ {ns : List Str} {ts : List Tr} {ds : List PyData} {bs : List Bool},ns.length = ts.length → ds.length = ts.length → bs.length = ts.length → (Q2 ns ts ds bs).length = ts.length := fun h1 h2 h3=>by
 have := congrArg List.length (X0 (ns := _) h1 h3 h2)
 rw [List.length_map] at this
 omega
theorem FsI.step {H H' H3 H4 : Hp} {l p : Addr} {zs : List V} {ns : List Str} {ms : List Bool} {ts : List Tr} {n : Str} {b : Bool} {t : Tr} {d : PyData} {u : V} (I : FsI K T H H' l zs ns ms ts) (hl : H l = none) (B : TB T Q5 Q4 H' H3) (hk : G8 t d) (ho : G6 d) (hd : DatV K H3 d u) (hn : PyData.strOk n = true)
  (hp : H3 p = none) (e : H4 = upd H3 p (.tup [.str n,u,.bl b])) : H4 l = some (.lst zs) ∧ FsI K T H (upd H4 l (.lst (zs ++ [.ref p]))) l (zs ++ [.ref p]) (ns ++ [n]) (ms ++ [b]) (ts ++ [t]) := by
 subst e
 have k4 := A8 hp (.tup [.str n,u,.bl b])
 have B4 := B.same k4
 have h4 := B4.lst I.at'
 have kf := KF.lst (K := K) (o := .lst (zs ++ [.ref p])) h4
 have npl : p ≠ l := fun e=>by rw [e,B.lst I.at'] at hp; cases hp
 obtain ⟨ds,h1,h2⟩ := I.ex
 refine ⟨h4,(I.tb.more B4).put hl h4,A5,by simp [I.ln],by simp [I.lm],ds ++ [d],h1.snoc hk,?_⟩
 rw [lX I.ln h1.length I.lm,List.map_append]
 exact PySem.Paired.snoc (L2.Paired.mapP h2 fun _ _ z=>FldV.kt (B4.kt.toKF.trans kf) z) ⟨p,u,rfl,SqT.of (by rw [B7 npl]; exact A5),DatV.kt ((KT.same k4).toKF.trans kf) ho.nol hd,ho,hn⟩
theorem FsI.size {H H' : Hp} {l : Addr} {zs : List V} {ns : List Str} {ms : List Bool} {ts : List Tr} (I : FsI K T H H' l zs ns ms ts) : zs.length = ts.length := by
 obtain ⟨ds,h1,h2⟩ := I.ex
 rw [h2.length,List.length_map,oJ I.ln h1.length I.lm]
theorem AW7 (es : List F4) : (es.map f4).map (·.1) = es.map (·.1) := by rw [List.map_map]; rfl
theorem FsI.kd {H H' : Hp} {l : Addr} {zs : List V} {ns : List Str} {ms : List Bool} {ts : List Tr} (I : FsI K T H H' l zs ns ms ts) (hnd : ns.Nodup) (h64 : ts.length < 64) {m : Bool} {Q : VK} (q : ∀ H2 u d,TB T Q5 Q4 H H2 → G8 (.rc ns ms ts m) d → G6 d → DatV K H2 d u → Q u H2) :
  dY K T [.ref l,.bl m] H' Q E0 := by
 obtain ⟨ds,h1,h2⟩ := I.ex
 have hfst : ((Q2 ns ts ds ms).map f4).map (·.1) = ns := by rw [AW7,X0 I.ln I.lm h1.length]
 refine ⟨l,zs,_,m,rfl,I.at',I.tb.t,h2,by rw [hfst]; exact hnd,by rw [List.length_map,oJ I.ln h1.length I.lm]; exact h64,fun H2 u es B2 hp hs hd=>?_⟩
 obtain ⟨es',hp',e⟩ := AC9 hp
 subst e
 refine q H2 u _ (I.tb.more B2) ?_ ?_ hd
 ·simp only [G8]
  exact ⟨I.ln,I.lm,hnd,ds,h1,es',hp',List.pairwise_map.mp hs,rfl⟩
 ·refine R1 (iK fun e he=>?_)
  obtain ⟨i,hi⟩ := List.mem_iff_getElem?.mp (hp.mem_iff.mp he)
  have hi2 : i < zs.length := by rw [h2.length]; exact (List.getElem?_eq_some_iff.mp hi).1
  obtain ⟨e2,he2,_,_,_,_,_,h4,h5⟩ := P5 h2 (List.getElem?_eq_getElem hi2)
  rw [hi] at he2
  cases he2
  exact ⟨h5,h4⟩
theorem KsI.kd {H H' : Hp} {l : Addr} {zs : List V} {ts : List Tr} (I : KsI K T H H' l zs ts) {m : Bool} {Q : VK} (q : ∀ H2 u d,TB T Q5 Q4 H H2 → G8 (.lst ts m) d → G6 d → DatV K H2 d u → Q u H2) : aX K [.ref l,.bl m] H' Q E0 := by
 obtain ⟨ds,h1,h2,hok⟩ := I.ex
 refine ⟨l,zs,ds,m,rfl,SqL.of I.at',h1,hok,fun H2 u g hu=>q H2 u _ (I.tb.same g) ?_ (R1 (bG hok)) hu⟩
 simp only [G8]
 exact ⟨ds,h2,rfl⟩
abbrev bV : Stmt := N3 30
theorem xK : G0 ["thing"] ["thing"] (B6 bV) := ⟨rfl,rfl,rfl,by decide +kernel,rfl,by decide +kernel,by decide +kernel⟩
theorem AO7 : (["item"] : List Str).Nodup := by decide +kernel
theorem AI9 : (["name","value"] : List Str).Nodup := by decide +kernel
def cZ (K : PySem.W.Frag) (T : Addr) (n : Nat) : Sp := fun args H Q _=>∃ (x : Th) (v : V),args = [v] ∧ ThOk n x ∧ ThV K H x v ∧ TabH H T Q5 Q4 ∧ ∀ H' u d,TB T Q5 Q4 H H' → G8 (P9 x) d → G6 d → DatV K H' d u → Q u H'
theorem tH {k n : Nat} {sp : Sp} (F : Fun K "just" "just" bV f fd) (JU : Cal P w K mg base k "just" ["thing"] sp) (hsp : ∀ n',n = n' + 1 → sp = cZ K T n') (SO : Cal P w K mg base 2 "of_sort" ["word"] (cX K)) (TU : Cal P w K mg base 2 "of_truth" ["truth"] (hU K)) (NO : Cal P w K mg base 4 "of_numbers" ["low","high"] (kR K)) (TX : Cal P w K mg base 2 "of_text" ["text"] (hJ K))
  (OL : CalD P w K mg base 2 "of_list" ["kinds","more"] (aX K)) (OR : CalD P w K mg base 2 "of_record" ["fields","more"] (dY K T)) (hk : 4 ≤ k) : FnOk P w K mg base L9 (k + 1) f fd ["thing"] (cZ K T n) := by
 refine F.ok xK (fun vs H Q E h=>?_) (fun cdv A outer s H vs Q E hr h=>?_)
 ·obtain ⟨x,v,rfl,_⟩ := h
  rfl
 obtain ⟨x,v,rfl,hx,hv,hT,q⟩ := h
 have hr2 := hr.mono (show 2 ≤ k by omega)
 have hr4 := hr.mono hk
 refine ⟨_,B5 (G4 (E2 J4 (D9 E8 (pv 0) A7 (fun _ _=>rfl)) E1 (D7 _)) (A9 (D8 (B8 SO hr2 rfl (A0 E1 A6)))) E7)
  (B5 (G4 (E2 J4 (D9 E8 (pv 0) A7 (fun _ _=>rfl)) E1 (D7 _)) (A9 (D8 (B8 TU hr2 rfl (A0 (D9 E8 (pv 0) A7 (fun _ _=>rfl)) A6)))) E7)
  (B5 (G4 (E2 J4 (D9 E8 (pv 0) A7 (fun _ _=>rfl)) E1 (D7 _)) (A9 (D8 (B8 NO hr4 rfl (A0 (D9 E8 (pv 0) A7 (fun _ _=>rfl)) (A0 (D9 E8 (pv 0) A7 (fun _ _=>rfl)) A6))))) E7)
  (B5 (G4 (E2 J4 (D9 E8 (pv 0) A7 (fun _ _=>rfl)) E1 (D7 _)) (A9 (D8 (B8 TX hr2 rfl (A0 (D9 E8 (pv 0) A7 (fun _ _=>rfl)) A6)))) E7)
  (B5 (G4 (E2 J4 (D9 E8 (pv 0) A7 (fun _ _=>rfl)) E1 (D7 _)) (A9 (D8 (iJ OL hr2 rfl (A0 (U6 (N' := ["item"]) (fr := [none]) (own := [0]) ⟨rfl,rfl,rfl,rfl,rfl,rfl,rfl⟩ rfl (bC (D9 E8 (pv 0) A7 (fun _ _=>rfl)))
    (fun _ _ _ _=>G5 (i := 0) AO7 rfl (Or.inl rfl)) (U1 0) (fun _ _ _ _=>R7) (fun _ _ _ _=>B8 JU hr rfl (A0 (pv 0) A6))) A6)))) E7)
  (A9 (D8 (iJ OR hr2 rfl (A0 (U6 (N' := ["name","value"]) (fr := [none,none]) (own := [0,1]) ⟨rfl,rfl,rfl,rfl,rfl,rfl,rfl⟩ rfl (bC (D9 E8 (pv 0) A7 (fun _ _=>rfl)))
    (fun _ _ _ _=>V2 (n := 2) rfl (K1 (G5 (i := 0) AI9 rfl (Or.inl rfl)) (K1 (G5 (i := 1) AI9 rfl (Or.inl rfl)) T2))) (dH (eO 0 1)) (fun _ _ _ _=>R7)
    (fun _ _ _ _=>G1 (A0 (pv 0) (A0 (B8 JU hr rfl (A0 (pv 1) A6)) (A0 W7 A6))))) A6)))))))),?_⟩
 have B0 := TB.start hT
 cases hx with
 | non =>
  simp only [ThV] at hv
  obtain ⟨a,rfl,hq⟩ := hv
  exact ⟨_,rfl,a,_,_,_,rfl,rfl,hq,rfl,rfl,_,rfl,T7 rfl ⟨0,_,rfl,rfl,fun H2 u g hu=>q H2 u _ (B0.same g) (by simp only [P9,G8]; exact ⟨by decide,rfl⟩) (R1 (jU _ (List.mem_cons_self))) hu⟩⟩
 | tru =>
  simp only [ThV] at hv
  obtain ⟨a,rfl,hq⟩ := hv
  exact ⟨_,rfl,a,_,_,_,rfl,rfl,hq,rfl,rfl,_,rfl,J9 (by decide +kernel) ⟨_,rfl,a,_,_,_,rfl,rfl,hq,rfl,rfl,_,rfl,T7 rfl ⟨_,rfl,a,_,_,_,rfl,rfl,hq,rfl,_,rfl,fun H2 u g hu=>q H2 u _ (B0.same g) (by simp only [P9,G8]) (R1 (W8 T4)) hu⟩⟩⟩
 | num =>
  simp only [ThV] at hv
  obtain ⟨a,rfl,hq⟩ := hv
  exact ⟨_,rfl,a,_,_,_,rfl,rfl,hq,rfl,rfl,_,rfl,J9 (by decide +kernel) ⟨_,rfl,a,_,_,_,rfl,rfl,hq,rfl,rfl,_,rfl,J9 (by decide +kernel) ⟨_,rfl,a,_,_,_,rfl,rfl,hq,rfl,rfl,_,rfl,T7 rfl ⟨_,rfl,a,_,_,_,rfl,rfl,hq,rfl,_,rfl,a,_,_,_,rfl,rfl,hq,rfl,some _,some _,rfl,fun H2 u g hu=>q H2 u _ (B0.same g) (by simp only [P9,G8]; rfl) (R1 (pU _)) hu⟩⟩⟩⟩
 | txt hs =>
  simp only [ThV] at hv
  obtain ⟨a,rfl,hq⟩ := hv
  exact ⟨_,rfl,a,_,_,_,rfl,rfl,hq,rfl,rfl,_,rfl,J9 (by decide +kernel) ⟨_,rfl,a,_,_,_,rfl,rfl,hq,rfl,rfl,_,rfl,J9 (by decide +kernel) ⟨_,rfl,a,_,_,_,rfl,rfl,hq,rfl,rfl,_,rfl,J9 (by decide +kernel) ⟨_,rfl,a,_,_,_,rfl,rfl,hq,rfl,rfl,_,rfl,T7 rfl ⟨_,rfl,a,_,_,_,rfl,rfl,hq,rfl,_,rfl,hs.ok,fun H2 u g hu=>q H2 u _ (B0.same g) (by simp only [P9,G8]) (R1 (R4 (K5 (by decide +kernel)) (W8 (K5 hs.ok)))) hu⟩⟩⟩⟩⟩
 | @lst n' xs hl40 hxs =>
  have esp := hsp n' rfl
  subst esp
  simp only [ThV] at hv
  obtain ⟨a,p,ys,rfl,hq,hp,hys⟩ := hv
  refine ⟨_,rfl,a,_,_,_,rfl,rfl,hq,rfl,rfl,_,rfl,J9 (by decide +kernel) ⟨_,rfl,a,_,_,_,rfl,rfl,hq,rfl,rfl,_,rfl,J9 (by decide +kernel) ⟨_,rfl,a,_,_,_,rfl,rfl,hq,rfl,rfl,_,rfl,J9 (by decide +kernel) ⟨_,rfl,a,_,_,_,rfl,rfl,hq,rfl,rfl,_,rfl,J9 (by decide +kernel) ⟨_,rfl,a,_,_,_,rfl,rfl,hq,rfl,rfl,_,rfl,T7 rfl ⟨_,rfl,a,_,_,_,rfl,rfl,hq,rfl,p,rfl,⟨_,hp⟩,fun l hl=>?_⟩⟩⟩⟩⟩⟩
  have hyl := hys.length
  refine fB (xs := ys) (fun i zs H'=>KsI K T H H' l zs (V1 (xs.take i))) (KsI.start hT hl) (fun i zs H' _ I=>I.tb.kt.t _ _ hp) (fun i y zs H' hy I=>?_) (fun zs H' I=>?_)
  ·obtain ⟨x,hxi,hxv⟩ := hys.get hy
   dsimp only [V0,P6]
   refine aG ⟨_,rfl,x,y,rfl,hxs x (List.mem_of_getElem? hxi),ThV.kt I.tb.kt.toKF hxv,I.tb.t,fun H3 u d B3 hk hok hd=>?_⟩
   obtain ⟨h3,I3⟩ := I.step hl B3 hk hok hd
   rw [M5 hxi,O5,List.map_append,← O5]
   refine ⟨h3,P0 ?_,I3⟩
   rw [I.size,O5,List.length_map,List.length_take]
   omega
  ·rw [hyl,List.take_length] at I
   exact I.kd fun H2 u d B2 hk hok hd=>q H2 u d B2 (by simp only [P9]; exact hk) hok hd
 | @rc n' ns xs hlx hl40 hpw hst hxs =>
  have esp := hsp n' rfl
  subst esp
  simp only [ThV] at hv
  obtain ⟨a,p,ys,rfl,hq,hp,hys⟩ := hv
  refine ⟨_,rfl,a,_,_,_,rfl,rfl,hq,rfl,rfl,_,rfl,J9 (by decide +kernel) ⟨_,rfl,a,_,_,_,rfl,rfl,hq,rfl,rfl,_,rfl,J9 (by decide +kernel) ⟨_,rfl,a,_,_,_,rfl,rfl,hq,rfl,rfl,_,rfl,J9 (by decide +kernel) ⟨_,rfl,a,_,_,_,rfl,rfl,hq,rfl,rfl,_,rfl,J9 (by decide +kernel) ⟨_,rfl,a,_,_,_,rfl,rfl,hq,rfl,rfl,_,rfl,J9 (by decide +kernel) ⟨_,rfl,a,_,_,_,rfl,rfl,hq,rfl,p,rfl,⟨_,FT.sq hp⟩,fun l hl=>?_⟩⟩⟩⟩⟩⟩
  have hyl := hys.length
  refine fB (xs := ys) (fun i zs H'=>FsI K T H H' l zs (ns.take i) ((ns.take i).map fun _=>true) (V1 (xs.take i))) (FsI.start hT hl) (fun i zs H' _ I=>I.tb.kt.t _ _ (FT.sq hp)) (fun i y zs H' hy I=>?_) (fun zs H' I=>?_)
  ·obtain ⟨n,x,c,u,hni,hxi,rfl,hc,hxv⟩ := hys.get hy
   refine ⟨c,_,rfl,I.tb.kt.t _ _ hc,rfl,_,_,rfl,_,_,rfl,rfl,aG ?_⟩
   refine ⟨_,rfl,_,rfl,x,u,rfl,hxs x (List.mem_of_getElem? hxi),ThV.kt I.tb.kt.toKF hxv,I.tb.t,fun H3 u d B3 hk hok hd=>⟨N4,fun p3 hp3=>?_⟩⟩
   obtain ⟨h3,I3⟩ := I.step hl B3 hk hok hd (hst n (List.mem_of_getElem? hni)) (b := true) hp3 rfl
   rw [M5 hxi,M5 hni,O5,List.map_append,List.map_append,← O5]
   refine ⟨h3,P0 ?_,I3⟩
   rw [I.size,O5,List.length_map,List.length_take]
   omega
  ·rw [hyl.1,List.take_length,show xs.take ns.length = xs by rw [hlx,List.take_length]] at I
   have hnd : ns.Nodup := hpw.imp fun {a b} z e=>by subst e; rw [Y8] at z; cases z
   exact I.kd hnd (by rw [O5,List.length_map]; omega) fun H2 u d B2 hk hok hd=>q H2 u d B2 (by simp only [P9]; exact hk) hok hd
end
end Law
namespace Law
open PySem L2 L2.Sp
abbrev Lf := List (Str × Th)
def O2 (L : Lf) (n : Str) : Option Th := jX (L.map (·.1)) (L.map (·.2)) n
theorem AE6 {n : Str} : O2 [] n = none := rfl
theorem T6 {p : Str × Th} {L : Lf} {n : Str} : O2 (p :: L) n = if p.1 = n then some p.2 else O2 L n := rfl
def T1 (L : Lf) (n : Str) : Lf := L.filter fun p=>decide (p.1 ≠ n)
theorem mP {n : Str} : ∀ {L : Lf},O2 L n = none → ∀ p ∈ L,p.1 ≠ n
 | [],_,p,hp=>by cases hp
 | q :: L,h,p,hp=>by
  rw [T6] at h
  by_cases e : q.1 = n
  ·rw [if_pos e] at h; cases h
  ·rw [if_neg e] at h
   rcases List.mem_cons.mp hp with rfl | hp
   ·exact e
   ·exact mP h p hp
theorem gG {n : Str} {x : Th} : ∀ {L : Lf},O2 L n = some x → (n,x) ∈ L
 | [],h=>by cases h
 | q :: L,h=>by
  rw [T6] at h
  by_cases e : q.1 = n
  ·rw [if_pos e] at h
   cases h
   rw [← e]
   exact List.mem_cons_self
  ·rw [if_neg e] at h
   exact List.mem_cons_of_mem _ (gG h)
theorem cC {n k : Str} (hne : n ≠ k) : ∀ {L : Lf},O2 (T1 L k) n = O2 L n
 | []=>rfl
 | q :: L=>by
  unfold T1
  rw [List.filter_cons]
  by_cases e : q.1 = k
  ·rw [if_neg (by simpa using e),T6,if_neg (fun z=>hne (z.symm.trans e))]
   exact cC hne
  ·rw [if_pos (by simpa using e),T6,T6]
   have := cC hne (L := L)
   unfold T1 at this
   rw [this]
def aL (L : Lf) (e : F4) : Bool := cG (L.map (·.1)) (L.map (·.2)) e
theorem aA (L : Lf) (e : F4) : aL L e = match O2 L e.1 with | some x=>E3 e.2.1 x | none=>!e.2.2.2 := rfl
def N9 (m : Bool) (es : List F4) (L : Lf) : Bool := es.all (aL L) && (m || L.all fun p=>decide (p.1 ∈ es.map (·.1)))
def rO (n : Nat) (t : Tr) : Prop := ∃ n',n = n' + 1 ∧ TD n' t
structure EsOk (n : Nat) (es : List F4) : Prop where
 nd : (es.map (·.1)).Nodup
 kd : ∀ e ∈ es,G8 e.2.1 e.2.2.1 ∧ rO n e.2.1
theorem EsOk.tail {n : Nat} {e : F4} {es : List F4} (h : EsOk n (e :: es)) : EsOk n es ∧ ∀ x ∈ es,x.1 ≠ e.1 := by
 have := h.nd
 rw [List.map_cons,List.nodup_cons] at this
 exact ⟨⟨this.2,fun x hx=>h.kd x (List.mem_cons_of_mem _ hx)⟩,fun x hx z=>this.1 (by rw [← z]; exact List.mem_map_of_mem hx)⟩
theorem AG4 {n : Str} {ns : List Str} {L : Lf} (h : O2 L n = none) : (L.all fun p=>decide (p.1 ∈ n :: ns)) = L.all fun p=>decide (p.1 ∈ ns) := by
 rw [Bool.eq_iff_iff,List.all_eq_true,List.all_eq_true]
 constructor
 ·intro z p hp
  have := of_decide_eq_true (z p hp)
  rcases List.mem_cons.mp this with e | e
  ·exact absurd e (mP h p hp)
  ·exact decide_eq_true e
 ·intro z p hp
  exact decide_eq_true (List.mem_cons_of_mem _ (of_decide_eq_true (z p hp)))
theorem rG {n : Str} {ns : List Str} {L : Lf} : ((L.all fun p=>decide (p.1 ∈ n :: ns)) = (T1 L n).all fun p=>decide (p.1 ∈ ns)) ∨ (n ∈ ns) := by
 by_cases hn : n ∈ ns
 ·exact .inr hn
 refine .inl ?_
 rw [Bool.eq_iff_iff,List.all_eq_true,List.all_eq_true]
 constructor
 ·intro z p hp
  obtain ⟨h1,h2⟩ := List.mem_filter.mp hp
  have := of_decide_eq_true (z p h1)
  rcases List.mem_cons.mp this with e | e
  ·exact absurd e (of_decide_eq_true h2)
  ·exact decide_eq_true e
 ·intro z p hp
  by_cases e : p.1 = n
  ·exact decide_eq_true (by rw [e]; exact List.mem_cons_self)
  ·exact decide_eq_true (List.mem_cons_of_mem _ (of_decide_eq_true (z p (List.mem_filter.mpr ⟨hp,decide_eq_true e⟩))))
theorem U0 {m : Bool} {e : F4} {es : List F4} {L : Lf} (h : O2 L e.1 = none) : N9 m (e :: es) L = (!e.2.2.2 && N9 m es L) := by
 unfold N9
 rw [List.all_cons,aA,h,List.map_cons,AG4 h,Bool.and_assoc]
theorem Y4 {n : Nat} {m : Bool} {e : F4} {es : List F4} {L : Lf} {x : Th} (hk : EsOk n (e :: es)) (h : O2 L e.1 = some x) : N9 m (e :: es) L = (E3 e.2.1 x && N9 m es (T1 L e.1)) := by
 obtain ⟨_,hne⟩ := hk.tail
 have hnd := hk.nd
 rw [List.map_cons,List.nodup_cons] at hnd
 unfold N9
 rw [List.all_cons,aA,h,List.map_cons,Bool.and_assoc]
 congr 1
 have e1 : es.all (aL L) = es.all (aL (T1 L e.1)) := by
  rw [Bool.eq_iff_iff,List.all_eq_true,List.all_eq_true]
  have : ∀ y ∈ es,aL L y = aL (T1 L e.1) y := fun y hy=>by rw [aA,aA,cC (hne y hy)]
  exact ⟨fun z y hy=>by rw [← this y hy]; exact z y hy,fun z y hy=>by rw [this y hy]; exact z y hy⟩
 rw [e1]
 rcases rG (n := e.1) (ns := es.map (·.1)) (L := L) with z | z
 ·rw [z]
 ·exact absurd z hnd.1
theorem hW {n : Nat} {m : Bool} {es : List F4} {L : Lf} (hk : EsOk n es) (h : PyData.eqv (K4 m (es.map f4)) G7 = true) : N9 m es L = false := by
 have ko : AG6 es := fun e he x hz=>by
  obtain ⟨a,n',_,b⟩ := hk.kd e he
  exact dJ b a hz
 have := lG (fn := L.map (·.1)) (fx := L.map (·.2)) ko h
 unfold N9
 rw [show es.all (aL L) = es.all (cG (L.map (·.1)) (L.map (·.2))) from rfl,this,Bool.false_and]
inductive Cl (n : Nat) (m : Bool) (es : List F4) (L : Lf) : Prop
 | nor : K4 m (es.map f4) = G7 → N9 m es L = false → Cl n m es L
 | rest : K4 m (es.map f4) = .tuple [dS V8,.bool true,.bool m] → N9 m es L = (m || L.isEmpty) → Cl n m es L
 | nm0 (e : F4) (r : List F4) : e ∈ es → EsOk n r → r.length < es.length → K4 m (es.map f4) = lL e.1 (K4 m (r.map f4)) → (O2 L e.1 = none → N9 m es L = N9 m r L) → (∀ x,O2 L e.1 = some x → N9 m es L = false) → Cl n m es L
 | nm1 (e : F4) (r : List F4) : e ∈ es → EsOk n r → r.length < es.length → K4 m (es.map f4) = gF e.1 (bif e.2.2.2 then G7 else K4 m (r.map f4)) e.2.2.1 (K4 m (r.map f4)) → (O2 L e.1 = none → N9 m es L = (!e.2.2.2 && N9 m r L)) → (∀ x,O2 L e.1 = some x → N9 m es L = (E3 e.2.1 x && N9 m r (T1 L e.1))) → Cl n m es L
theorem Cl.skip {n : Nat} {m : Bool} {e : F4} {es : List F4} {L : Lf} (c : Cl n m es L) (h1 : K4 m ((e :: es).map f4) = K4 m (es.map f4)) (h2 : N9 m (e :: es) L = N9 m es L) : Cl n m (e :: es) L := by
 cases c with
 | nor a b=>exact .nor (h1.trans a) (h2.trans b)
 | rest a b=>exact .rest (h1.trans a) (h2.trans b)
 | nm0 e' r he hr hl a b c=>exact .nm0 e' r (List.mem_cons_of_mem _ he) hr (by rw [List.length_cons]; omega) (h1.trans a) (fun z=>h2.trans (b z)) (fun x z=>h2.trans (c x z))
 | nm1 e' r he hr hl a b c=>exact .nm1 e' r (List.mem_cons_of_mem _ he) hr (by rw [List.length_cons]; omega) (h1.trans a) (fun z=>h2.trans (b z)) (fun x z=>h2.trans (c x z))
theorem cls {n : Nat} {m : Bool} : ∀ {es : List F4} (L : Lf),EsOk n es → Cl n m es L
 | [],L,_=>.rest rfl (by unfold N9; cases L <;> simp)
 | e :: es,L,hk=>by
  obtain ⟨hk',hne⟩ := hk.tail
  have ih := cls (m := m) L hk'
  obtain ⟨kk,n',_,ktd⟩ := hk.kd e List.mem_cons_self
  have hF : K4 m ((e :: es).map f4) = S9 m (f4 e) (K4 m (es.map f4)) := rfl
  have e1 : (f4 e).1 = e.1 := rfl
  have e2 : (f4 e).2.1 = e.2.2.1 := rfl
  have e3 : (f4 e).2.2 = e.2.2.2 := rfl
  unfold S9 at hF
  rw [e1,e2,e3] at hF
  cases c1 : (PyData.eqv e.2.2.1 J8 || PyData.eqv (K4 m (es.map f4)) G7) with
  | true =>
   cases c2 : e.2.2.2 with
   | true =>
    rw [c1,c2] at hF
    refine .nor hF ?_
    rw [Bool.or_eq_true] at c1
    cases hl : O2 L e.1 with
    | none=>rw [U0 hl,c2]; rfl
    | some x =>
     rw [Y4 hk hl]
     rcases c1 with c1 | c1
     ·rw [dJ ktd kk c1]; rfl
     ·rw [hW hk' c1,Bool.and_false]
   | false =>
    rw [c1,c2] at hF
    cases c3 : (m && !PyData.eqv (K4 m (es.map f4)) G7) with
    | true =>
     rw [c3] at hF
     have c4 : PyData.eqv (K4 m (es.map f4)) G7 = false := by
      cases z : PyData.eqv (K4 m (es.map f4)) G7
      ·rfl
      ·rw [z] at c3; simp at c3
     have c5 : PyData.eqv e.2.2.1 J8 = true := by rw [c4,Bool.or_false] at c1; exact c1
     refine .nm0 e es List.mem_cons_self hk' (Nat.lt_succ_self _) hF (fun hl=>?_) (fun x hl=>?_)
     ·rw [U0 hl,c2]; simp
     ·rw [Y4 hk hl,dJ ktd kk c5]; rfl
    | false =>
     rw [c3] at hF
     refine ih.skip hF ?_
     cases c4 : PyData.eqv (K4 m (es.map f4)) G7 with
     | true =>
      rw [hW hk' c4]
      cases hl : O2 L e.1 with
      | none=>rw [U0 hl,hW hk' c4,Bool.and_false]
      | some x=>rw [Y4 hk hl,hW hk' c4,Bool.and_false]
     | false =>
      have c5 : PyData.eqv e.2.2.1 J8 = true := by rw [c4,Bool.or_false] at c1; exact c1
      have c6 : m = false := by
       cases z : m
       ·rfl
       ·rw [z] at c3 c4; rw [c4] at c3; simp at c3
      cases hl : O2 L e.1 with
      | none=>rw [U0 hl,c2]; simp
      | some x =>
       rw [Y4 hk hl,dJ ktd kk c5,Bool.false_and]
       symm
       unfold N9
       rw [c6,Bool.false_or]
       have : (L.all fun p=>decide (p.1 ∈ es.map (·.1))) = false := by
        rw [List.all_eq_false]
        refine ⟨_,gG hl,?_⟩
        intro z
        obtain ⟨y,hy,ey⟩ := List.mem_map.mp (of_decide_eq_true z)
        exact hne y hy ey
       rw [this,Bool.and_false]
  | false =>
   cases c2 : e.2.2.2 with
   | true =>
    rw [c1,c2] at hF
    refine .nm1 e es List.mem_cons_self hk' (Nat.lt_succ_self _) (by rw [c2]; exact hF) (fun hl=>by rw [U0 hl]) (fun x hl=>Y4 hk hl)
   | false =>
    rw [c1,c2] at hF
    cases c3 : (PyData.eqv e.2.2.1 S7 && m) with
    | false =>
     rw [c3] at hF
     exact .nm1 e es List.mem_cons_self hk' (Nat.lt_succ_self _) (by rw [c2]; exact hF) (fun hl=>by rw [U0 hl]) (fun x hl=>Y4 hk hl)
    | true =>
     rw [c3] at hF
     rw [Bool.and_eq_true] at c3
     refine ih.skip hF ?_
     unfold N9
     rw [c3.2,List.all_cons]
     have : aL L e = true := by
      rw [aA]
      cases O2 L e.1 with
      | none=>rw [c2]; rfl
      | some x=>exact AX7 x kk c3.1
     rw [this]; simp
def M8 (ts : List Tr) (m : Bool) (xs : List Th) : Bool := decide (ts.length ≤ xs.length) && (m || decide (xs.length ≤ ts.length)) && R6 ts xs
theorem mQ {ts : List Tr} {m : Bool} : M8 ts m [] = decide (ts = []) := by
 cases ts with
 | nil=>cases m <;> simp [M8,R6]
 | cons t ts=>simp [M8]
theorem eV {t : Tr} {ts : List Tr} {m : Bool} {x : Th} {xs : List Th} : M8 (t :: ts) m (x :: xs) = (E3 t x && M8 ts m xs) := by
 unfold M8
 simp only [List.length_cons,Nat.add_le_add_iff_right,R6]
 cases E3 t x <;> simp
theorem yR {m : Bool} {x : Th} {xs : List Th} : M8 [] m (x :: xs) = m := by
 unfold M8
 simp [R6]
theorem AE7 {n : Nat} {ts : List Tr} {ds : List PyData} {m : Bool} {xs : List Th} (hd : KdAll ts ds) (ht : ∀ t ∈ ts,rO n t) (h : PyData.eqv (K9 m ds) S0 = true) : M8 ts m xs = false := by
 unfold M8
 by_cases hl : ts.length ≤ xs.length
 ·rw [lO hd (fun t htm d x hk he=>by obtain ⟨n',_,b⟩ := ht t htm; exact dJ b hk he) h hl,Bool.and_false]
 ·rw [decide_eq_false hl]; rfl
end Law
namespace Law
open PySem L2 L2.Sp
theorem O6 : ∀ {ds : List PyData},G6 (.tuple ds) → ∀ d ∈ ds,G6 d
 | [],_,d,hd=>by cases hd
 | x :: ds,h,d,hd=>by
  have a := h.lay
  have b := h.nol
  simp only [PyData.canLay0,PyData.canLayAll0,Bool.and_eq_true] at a
  simp only [bH,eR,Bool.and_eq_true] at b
  rcases List.mem_cons.mp hd with rfl | hd
  ·exact ⟨a.1,b.1⟩
  ·exact O6 (ds := ds) ⟨by simp only [PyData.canLay0]; exact a.2,by simp only [bH]; exact b.2⟩ d hd
def LFm (n : Nat) (t : Tr) (lf : PyData) : Prop := (lf = S0 ∧ ∀ xs,E3 t (.lst xs) = false) ∨ ∃ ts ds m,lf = K9 m ds ∧ KdAll ts ds ∧ (∀ t ∈ ts,rO n t) ∧ ∀ xs,E3 t (.lst xs) = M8 ts m xs
def RFm (n : Nat) (t : Tr) (rf : PyData) : Prop := (rf = G7 ∧ ∀ fn fx,E3 t (.rc fn fx) = false) ∨ ∃ m es,rf = K4 m (es.map f4) ∧ EsOk n es ∧ ∀ fn fx,fn.length = fx.length → E3 t (.rc fn fx) = N9 m es (fn.zip fx)
structure Prt (n : Nat) (t : Tr) (b : Bool) (bs : List Bool) (ss : List Pr) (tb : Bool) (tx : List Str) (lf rf : PyData) : Prop where
 non : E3 t .non = b
 tru : ∀ c,E3 t (.tru c) = decide (c ∈ bs)
 num : ∀ i,E3 t (.num i) = J6 i ss
 len : ss.length ≤ 1
 txt : ∀ s,E3 t (.txt s) = cK tb tx s
 lst : LFm n t lf
 rc : RFm n t rf
def kdD (b : Bool) (bs : List Bool) (ss : List Pr) (tb : Bool) (tx : List Str) (lf rf : PyData) : PyData := .tuple [.bool b,.tuple (bs.map PyData.bool),mF ss,txD tb tx,lf,rf]
theorem gW {fn : List Str} {fx : List Th} (h : fn.length = fx.length) : (fn.zip fx).map (·.1) = fn ∧ (fn.zip fx).map (·.2) = fx := by
 constructor
 ·have := List.map_fst_zip (l₁ := fn) (l₂ := fx) (by omega); exact this
 ·have := List.map_snd_zip (l₁ := fn) (l₂ := fx) (by omega); exact this
theorem AT6 {n : Nat} {t : Tr} {d : PyData} (ht : TD n t) (h : G8 t d) : ∃ b bs ss tb tx lf rf,d = kdD b bs ss tb tx lf rf ∧ Prt n t b bs ss tb tx lf rf := by
 have rest0 : ∀ {t : Tr} {m : Bool},(∀ fn fx,E3 t (.rc fn fx) = m) → m = true → RFm n t (.tuple [dS V8,.bool true,.bool true]) := fun {t m} h e=>.inr ⟨true,[],rfl,⟨List.nodup_nil,fun e he=>(by cases he)⟩,fun fn fx _=>by rw [h,e]; simp [N9]⟩
 have all0 : ∀ {t : Tr},(∀ xs,E3 t (.lst xs) = true) → LFm n t cU := fun {t} h=>.inr ⟨[],[],true,rfl,by simp only [KdAll],fun t ht=>(by cases ht),fun xs=>by rw [h]; simp [M8,R6]⟩
 cases ht with
 | any =>
  simp only [G8] at h
  exact ⟨true,[false,true],[(none,none)],true,[],cU,_,h,by simp only [E3],fun c=>by cases c <;> simp [E3],fun i=>by simp [E3,J6,M4,U7,gI],by decide,fun s=>by simp [E3,cK],all0 fun xs=>by simp only [E3],rest0 (m := true) (fun fn fx=>by simp only [E3]) rfl⟩
 | nothing =>
  simp only [G8] at h
  exact ⟨false,[],[],false,[],S0,G7,h,by simp only [E3],fun c=>by simp [E3],fun i=>by simp [E3,J6],by decide,fun s=>by simp [E3,cK],.inl ⟨rfl,fun xs=>by simp only [E3]⟩,.inl ⟨rfl,fun fn fx=>by simp only [E3]⟩⟩
 | sort =>
  rename_i k
  simp only [G8] at h
  obtain ⟨hk,h⟩ := h
  have hk' : k = 0 ∨ k = 1 ∨ k = 2 ∨ k = 3 ∨ k = 4 ∨ k = 5 := by omega
  rcases hk' with rfl | rfl | rfl | rfl | rfl | rfl
  ·exact ⟨true,[],[],false,[],S0,G7,h,by simp [E3,J7],fun c=>by simp [E3,J7],fun i=>by simp [E3,J7,J6],by decide,fun s=>by simp [E3,J7,cK],.inl ⟨rfl,fun xs=>by simp [E3,J7]⟩,.inl ⟨rfl,fun fn fx=>by simp [E3,J7]⟩⟩
  ·exact ⟨false,[false,true],[],false,[],S0,G7,h,by simp [E3,J7],fun c=>by cases c <;> simp [E3,J7],fun i=>by simp [E3,J7,J6],by decide,fun s=>by simp [E3,J7,cK],.inl ⟨rfl,fun xs=>by simp [E3,J7]⟩,.inl ⟨rfl,fun fn fx=>by simp [E3,J7]⟩⟩
  ·exact ⟨false,[],[(none,none)],false,[],S0,G7,h,by simp [E3,J7],fun c=>by simp [E3,J7],fun i=>by simp [E3,J7,J6,M4,U7,gI],by decide,fun s=>by simp [E3,J7,cK],.inl ⟨rfl,fun xs=>by simp [E3,J7]⟩,.inl ⟨rfl,fun fn fx=>by simp [E3,J7]⟩⟩
  ·exact ⟨false,[],[],true,[],S0,G7,h,by simp [E3,J7],fun c=>by simp [E3,J7],fun i=>by simp [E3,J7,J6],by decide,fun s=>by simp [E3,J7,cK],.inl ⟨rfl,fun xs=>by simp [E3,J7]⟩,.inl ⟨rfl,fun fn fx=>by simp [E3,J7]⟩⟩
  ·exact ⟨false,[],[],false,[],cU,G7,h,by simp [E3,J7],fun c=>by simp [E3,J7],fun i=>by simp [E3,J7,J6],by decide,fun s=>by simp [E3,J7,cK],all0 (fun xs=>by simp [E3,J7]),.inl ⟨rfl,fun fn fx=>by simp [E3,J7]⟩⟩
  ·exact ⟨false,[],[],false,[],S0,_,h,by simp [E3,J7],fun c=>by simp [E3,J7],fun i=>by simp [E3,J7,J6],by decide,fun s=>by simp [E3,J7,cK],.inl ⟨rfl,fun xs=>by simp [E3,J7]⟩,rest0 (m := true) (fun fn fx=>by simp [E3,J7]) rfl⟩
 | span =>
  rename_i lo hi
  simp only [G8] at h
  refine ⟨false,[],gB lo hi,false,[],S0,G7,h,by simp only [E3],fun c=>by simp [E3],fun i=>?_,?_,fun s=>by simp [E3,cK],.inl ⟨rfl,fun xs=>by simp only [E3]⟩,.inl ⟨rfl,fun fn fx=>by simp only [E3]⟩⟩
  ·rw [tL,O9,eU,Bool.or_false]; simp only [E3]
  ·unfold gB; split <;> simp
 | text =>
  rename_i s
  simp only [G8] at h
  exact ⟨false,[],[],false,[s],S0,G7,h,by simp only [E3],fun c=>by simp [E3],fun i=>by simp [E3,J6],by decide,fun u=>by simp only [E3]; show (s == u) = decide (u ∈ [s]); rw [Bool.eq_iff_iff,beq_iff_eq,decide_eq_true_iff,List.mem_singleton]; exact eq_comm,.inl ⟨rfl,fun xs=>by simp only [E3]⟩,.inl ⟨rfl,fun fn fx=>by simp only [E3]⟩⟩
 | truth =>
  rename_i b
  simp only [G8] at h
  exact ⟨false,[b],[],false,[],S0,G7,h,by simp only [E3],fun c=>by cases b <;> cases c <;> simp [E3],fun i=>by simp [E3,J6],by decide,fun u=>by simp [E3,cK],.inl ⟨rfl,fun xs=>by simp only [E3]⟩,.inl ⟨rfl,fun fn fx=>by simp only [E3]⟩⟩
 | lst hts =>
  rename_i n' ts m
  simp only [G8] at h
  obtain ⟨ds,hd,h⟩ := h
  exact ⟨false,[],[],false,[],K9 m ds,G7,h,by simp only [E3],fun c=>by simp [E3],fun i=>by simp [E3,J6],by decide,fun u=>by simp [E3,cK],.inr ⟨ts,ds,m,rfl,hd,fun t ht=>⟨n',rfl,hts t ht⟩,fun xs=>by simp only [E3]; rfl⟩,.inl ⟨rfl,fun fn fx=>by simp only [E3]⟩⟩
 | rc hts =>
  rename_i n' ns ms ts m
  simp only [G8] at h
  obtain ⟨l1,l2,nd,ds,hd,es,hp,hs,h⟩ := h
  have hfst : (es.map (·.1)).Perm ns := by have := hp.map (·.1); rw [X0 l1 l2 hd.length] at this; exact this
  refine ⟨false,[],[],false,[],S0,_,h,by simp only [E3],fun c=>by simp [E3],fun i=>by simp [E3,J6],by decide,fun u=>by simp [E3,cK],.inl ⟨rfl,fun xs=>by simp only [E3]⟩,.inr ⟨m,es,rfl,⟨hfst.nodup_iff.mpr nd,fun e he=>?_⟩,fun fn fx hl=>?_⟩⟩
  ·obtain ⟨a,b⟩ := kM hd e (hp.mem_iff.mp he)
   exact ⟨a,n',rfl,hts _ b⟩
  ·simp only [E3]
   obtain ⟨z1,z2⟩ := gW hl
   unfold N9
   rw [dO l1 l2 hd.length,← hp.all_eq]
   have e1 : es.all (aL (fn.zip fx)) = es.all (cG fn fx) := by
    congr 1
    funext e
    unfold aL
    rw [z1,z2]
   have e2 : ((fn.zip fx).all fun p=>decide (p.1 ∈ es.map (·.1))) = fn.all fun y=>decide (y ∈ ns) := by
    have : (fn.all fun y=>decide (y ∈ ns)) = ((fn.zip fx).map (·.1)).all fun y=>decide (y ∈ ns) := by rw [z1]
    rw [this,List.all_map]
    congr 1
    funext p
    show decide (p.1 ∈ es.map (·.1)) = decide (p.1 ∈ ns)
    rw [Bool.eq_iff_iff,decide_eq_true_iff,decide_eq_true_iff,hfst.mem_iff]
   rw [e1,e2]
section
variable {P : Program} {w : World} {K : PySem.W.Frag} {mg : Str → Option Value} {base : Heap} {f : Addr} {fd : FuncData}
abbrev mK : Stmt := N3 35
theorem AC2 : G0 ["branches","thing","none","kind","form"] ["branches","thing","none"] (B6 mK) := ⟨rfl,rfl,rfl,by decide +kernel,rfl,by decide +kernel,by decide +kernel⟩
def aT (K : PySem.W.Frag) (n : Nat) : Sp := fun args H Q _=>∃ (t : Tr) (d : PyData) (x : Th) (v u : V) (N : Nat),args = [v,u] ∧ TD n t ∧ G8 t d ∧ G6 d ∧ DatV K H d v ∧ ThOk N x ∧ ThV K H x u ∧ ∀ H',Same H H' → Q (.bl (E3 t x)) H'
def pB (K : PySem.W.Frag) (n : Nat) : Sp := fun args H Q _=>∃ v u z : V,args = [v,u,z] ∧ ((DatV K H (.tuple []) v ∧ ∀ H',Same H H' → Q z H') ∨ ∃ (t : Tr) (k fo : PyData) (x : Th) (N : Nat),DatV K H (.tuple [.tuple [k,fo]]) v ∧ G8 t k ∧ G6 k ∧ G6 fo ∧ rO n t ∧ ThOk N x ∧ ThV K H x u ∧
 (E3 t x = true → ∀ H' y,Same H H' → DatV K H' fo y → Q y H') ∧ (E3 t x = false → ∀ H',Same H H' → Q z H'))
theorem AI8 {k n : Nat} {sp : Sp} (F : Fun K "form_behind" "form_behind" mK f fd) (HO : Cal P w K mg base k "holds" ["kind","thing"] sp) (hsp : ∀ n',n = n' + 1 → sp = aT K n') : FnOk P w K mg base L9 (k + 1) f fd ["branches","thing","none"] (pB K n) := by
 refine F.ok AC2 (fun vs H Q E h=>?_) (fun cdv A outer s H vs Q E hr h=>?_)
 ·obtain ⟨v,u,z,rfl,_⟩ := h
  rfl
 obtain ⟨v,u,z,rfl,h⟩ := h
 refine ⟨_,B5 (R9 PassesOwn.never rfl (bC (pv 0)) (V2 (n := 2) rfl (K1 (G5 (i := 3) AC2.nd rfl (Or.inl rfl)) (K1 (G5 (i := 4) AC2.nd rfl (Or.inl rfl)) T2)))
   (A9 (G4 (Q6 (B8 HO hr rfl (A0 (pv 3) (A0 (pv 1) A6)))) (A9 (D8 (pv 4))) E7)))
  (A9 (D8 (pv 2))),?_⟩
 rcases h with ⟨hv,q⟩ | ⟨t,kd,fo,x,N,hv,hk,hok,hof,hb,hx,hxv,q1,q2⟩
 ·obtain ⟨a,ys,rfl,hq,hd⟩ := N6.mp hv
  simp only [DatAll] at hd
  subst hd
  refine ⟨_,rfl,a,rfl,⟨_,hq⟩,?_⟩
  refine iM (xs := []) (fun i σ H'=>σ = [some (.ref a),some u,some z,none,none] ∧ H' = H) ⟨rfl,rfl⟩ (fun i σ H' _ ⟨_,e⟩=>by rw [e]; exact hq) (fun i x σ H' hx hinv=>by simp at hx) (fun σ H' hinv=>?_)
  obtain ⟨rfl,rfl⟩ := hinv
  exact ⟨_,rfl,q _ W6⟩
 ·obtain ⟨n',e,htd⟩ := hb
  have esp := hsp n' e
  subst esp
  obtain ⟨a,ys,rfl,hq,hd⟩ := N6.mp hv
  simp only [DatAll] at hd
  obtain ⟨y,_,rfl,hy,rfl⟩ := hd
  obtain ⟨b,ys,rfl,hqb,hdb⟩ := N6.mp hy
  simp only [DatAll] at hdb
  obtain ⟨y1,_,rfl,h1,y2,_,rfl,h2,rfl⟩ := hdb
  refine ⟨_,rfl,a,rfl,⟨_,hq⟩,?_⟩
  refine iM (xs := [.ref b]) (fun i σ H'=>∃ o1 o2,σ = [some (.ref a),some u,some z,o1,o2] ∧ Same H H' ∧ (i = 0 ∨ E3 t x = false)) ⟨none,none,rfl,W6,.inl rfl⟩ (fun i σ H' _ ⟨_,_,_,g,_⟩=>g.seqT hq) (fun i y σ H' hy hinv=>?_) (fun σ H' hinv=>?_)
  ·obtain ⟨o1,o2,rfl,g,_⟩ := hinv
   have hi : i = 0 := by have := (List.getElem?_eq_some_iff.mp hy).1; simp at this; exact this
   subst hi
   cases hy
   refine ⟨b,_,rfl,g.seqT hqb,rfl,_,_,rfl,_,_,rfl,rfl,?_⟩
   refine ⟨_,rfl,_,rfl,t,kd,x,_,_,N,rfl,htd,hk,hok,O7 g hok h1,hx,ThV.kt (KT.same g).toKF hxv,fun H3 g3=>⟨_,rfl,?_⟩⟩
   cases c : E3 t x with
   | true=>exact K8 ⟨_,rfl,q1 c _ _ (g.trans g3) (O7 (g.trans g3) hof h2)⟩
   | false=>exact L5 ⟨_,_,rfl,g.trans g3,.inr rfl⟩
  ·obtain ⟨o1,o2,rfl,g,hc⟩ := hinv
   rcases hc with hc | hc
   ·simp at hc
   ·exact ⟨_,rfl,q2 hc _ g⟩
abbrev mJ : Stmt := N3 33
theorem vH : G0 ["form","items","here","item"] ["form","items"] (B6 mJ) := ⟨rfl,rfl,rfl,by decide +kernel,rfl,by decide +kernel,by decide +kernel⟩
inductive rL (n : Nat) (m B : Bool) (xs : List Th) : PyData → Prop
 | no : B = false → rL n m B xs S0
 | all : B = true → rL n m B xs cU
 | fin : B = decide (xs = []) → rL n m B xs AF7
 | first {t : Tr} {ts : List Tr} {d : PyData} {ds : List PyData} : G8 t d → rO n t → KdAll ts ds → (∀ t ∈ ts,rO n t) → B = M8 (t :: ts) m xs → rL n m B xs (bL d (K9 m ds))
theorem yP {n : Nat} {m B : Bool} {xs : List Th} {ts : List Tr} {ds : List PyData} (hd : KdAll ts ds) (ht : ∀ t ∈ ts,rO n t) (hB : B = M8 ts m xs) : rL n m B xs (K9 m ds) := by
 cases ts with
 | nil =>
  simp only [KdAll] at hd
  subst hd
  unfold K9
  cases m with
  | true=>exact .all (by rw [hB]; simp [M8,R6])
  | false=>exact .fin (by rw [hB]; cases xs <;> simp [M8,R6])
 | cons t ts =>
  have hd0 := hd
  simp only [KdAll] at hd
  obtain ⟨d,r,rfl,h1,h2⟩ := hd
  by_cases c : (PyData.eqv d J8 || PyData.eqv (K9 m r) S0) = true
  ·have e : K9 m (d :: r) = S0 := by rw [K9,if_pos c]
   rw [e]
   exact .no (by rw [hB,AE7 hd0 ht (by rw [e]; decide +kernel)])
  ·have e : K9 m (d :: r) = bL d (K9 m r) := by rw [K9,if_neg c]
   rw [e]
   exact .first h1 (ht t List.mem_cons_self) h2 (fun t h=>ht t (List.mem_cons_of_mem _ h)) hB
def vB (K : PySem.W.Frag) (n : Nat) : Sp := fun args H Q _=>∃ (v : V) (p : Addr) (ys : List V) (xs : List Th) (fo : PyData) (m B : Bool) (N : Nat),args = [v,.ref p] ∧ SqT K H p ys ∧ ThAll K H xs ys ∧ (∀ x ∈ xs,ThOk N x) ∧ G6 fo ∧ DatV K H fo v ∧ rL n m B xs fo ∧ ∀ H',Same H H' → Q (.bl B) H'
theorem AI7 {k n : Nat} (F : Fun K "lets_list_in" "lets_list_in" mJ f fd) (G : Gk K mg) (FB : Cal P w K mg base k "form_behind" ["branches","thing","none"] (pB K n)) : FnOk P w K mg base L9 (k + 1) f fd ["form","items"] (vB K n) := by
 refine F.ok vH (fun vs H Q E h=>?_) (fun cdv A outer s H vs Q E hr h=>?_)
 ·obtain ⟨v,p,ys,xs,fo,m,B,N,rfl,_⟩ := h
  rfl
 obtain ⟨v,p,ys,xs,fo,m,B,N,rfl,hp,hys,hxs,hok,hv,hL,q⟩ := h
 obtain ⟨go,mo,ho⟩ := G.no
 obtain ⟨gl,ml,hl⟩ := G.al
 refine ⟨_,B5 (G2 (i := 2) vH.nd rfl (Or.inl rfl) (pv 0))
  (B5 (R9 PassesOwn.never rfl (bC (pv 1)) (G5 (i := 3) vH.nd rfl (Or.inl rfl))
   (B5 (G4 (E2 AI3 (D9 P2 (pv 2) A7 (fun _ _=>rfl)) E1 (D7 _)) (A9 (D8 (J5 (W1 hr.units) (pv 2) (M3 (v := .ref gl) rfl ml rfl) (D7 _)))) E7)
   (A9 (G2 (i := 2) vH.nd rfl (Or.inl rfl) (B8 FB hr rfl (A0 (D9 P2 (pv 2) A7 (fun _ _=>rfl)) (A0 (pv 3) (A0 (M3 (v := .ref go) rfl mo rfl) A6))))))))
  (A9 (D8 (X1 (E2 J4 (D9 P2 (pv 2) A7 (fun _ _=>rfl)) E1 (D7 _)) (D9 P2 (pv 2) A7 (fun _ _=>rfl)) (J5 (W1 hr.units) (pv 2) (M3 (v := .ref gl) rfl ml rfl) (D7 _)))))),?_⟩
 have hyl := hys.length
 have nn : ∀ {a b : V} {A B : Prop},a = b → B → if (!decide (a = b)) = true then A else B := fun {a b A B} e h=>by rw [decide_eq_true e]; exact L5 h
 have ny : ∀ {a b : V} {A B : Prop},a ≠ b → A → if (!decide (a = b)) = true then A else B := fun {a b A B} e h=>by rw [decide_eq_false e]; exact K8 h
 have tail : ∀ {H' : Hp} {d : PyData} {u : V},Same H H' → G6 d → DatV K H' d u → d.depth ≤ 60 → PyData.eqv d cU = B → AT4 K u (.ref gl) H' Q := fun {H' d u} g hd hu hdp e=>⟨d,cU,hu,hl H',hd.lay,lK.lay,by omega,by rw [e]; exact q _ g⟩
 refine ⟨_,rfl,_,rfl,p,rfl,⟨_,hp⟩,?_⟩
 refine iM (xs := ys) (fun i σ H'=>∃ (u : V) (z : Option V) (d : PyData),σ = [some v,some (.ref p),some u,z] ∧ Same H H' ∧ G6 d ∧ DatV K H' d u ∧ rL n m B (xs.drop i) d)
  ⟨v,none,fo,rfl,W6,hok,hv,hL⟩ (fun i σ H' _ ⟨_,_,_,_,g,_⟩=>g.seqT hp) (fun i y σ H' hy hinv=>?_) (fun σ H' hinv=>?_)
 ·obtain ⟨u,z,d,rfl,g,hd,hu,hL⟩ := hinv
  obtain ⟨x,hxi,hxv⟩ := hys.get hy
  have edr := gL hxi
  rw [edr] at hL
  have hxv' := ThV.kt (KT.same g).toKF hxv
  cases hL with
  | no e=>exact ⟨_,rfl,[dS kNo],0,_,hu,rfl,rfl,fun u0 h0=>by rw [G9.mp h0]; exact ⟨rfl,_,rfl,ny (by decide +kernel) ⟨_,rfl,tail g hd hu (by decide +kernel) (by rw [e]; decide +kernel)⟩⟩⟩
  | all e=>exact ⟨_,rfl,[dS qM],0,_,hu,rfl,rfl,fun u0 h0=>by rw [G9.mp h0]; exact ⟨rfl,_,rfl,ny (by decide +kernel) ⟨_,rfl,tail g hd hu (by decide +kernel) (by rw [e]; decide +kernel)⟩⟩⟩
  | fin e =>
   refine ⟨_,rfl,[dS W2,.bool true,.tuple []],0,_,hu,rfl,rfl,fun u0 h0=>?_⟩
   rw [G9.mp h0]
   refine ⟨rfl,_,rfl,nn (by decide +kernel) ⟨_,rfl,[dS W2,.bool true,.tuple []],2,_,hu,rfl,rfl,fun u2 h2=>⟨_,rfl,u2,y,.ref go,rfl,.inl ⟨h2,fun H3 g3=>?_⟩⟩⟩⟩
   exact ⟨_,_,S0,rfl,g.trans g3,gC,ho H3,.no (by rw [e]; simp)⟩
  | @first t ts dk ds hk hb hd2 ht2 e =>
   have hdk : G6 dk := O6 (O6 (O6 hd _ (List.mem_cons_of_mem _ (List.mem_cons_of_mem _ List.mem_cons_self))) _ List.mem_cons_self) _ List.mem_cons_self
   have hdr : G6 (K9 m ds) := O6 (O6 (O6 hd _ (List.mem_cons_of_mem _ (List.mem_cons_of_mem _ List.mem_cons_self))) _ List.mem_cons_self) _ (List.mem_cons_of_mem _ List.mem_cons_self)
   refine ⟨_,rfl,[dS W2,.bool false,.tuple [.tuple [dk,K9 m ds]]],0,_,hu,rfl,rfl,fun u0 h0=>?_⟩
   rw [G9.mp h0]
   refine ⟨rfl,_,rfl,nn (by decide +kernel) ⟨_,rfl,[dS W2,.bool false,.tuple [.tuple [dk,K9 m ds]]],2,_,hu,rfl,rfl,fun u2 h2=>⟨_,rfl,u2,y,.ref go,rfl,.inr ⟨t,dk,K9 m ds,x,N,h2,hk,hdk,hdr,hb,hxs x (List.mem_of_getElem? hxi),hxv',fun c H3 y3 g3 h3=>?_,fun c H3 g3=>?_⟩⟩⟩⟩
   ·exact ⟨_,_,_,rfl,g.trans g3,hdr,h3,yP hd2 ht2 (by rw [e,eV,c]; rfl)⟩
   ·exact ⟨_,_,S0,rfl,g.trans g3,gC,ho H3,.no (by rw [e,eV,c]; rfl)⟩
 ·obtain ⟨u,z,d,rfl,g,hd,hu,hL⟩ := hinv
  rw [hyl,List.drop_length] at hL
  cases hL with
  | no e=>exact ⟨_,rfl,[dS kNo],0,_,hu,rfl,rfl,fun u0 h0=>by rw [G9.mp h0]; exact ⟨rfl,_,rfl,J9 (by decide +kernel) ⟨_,rfl,tail g hd hu (by decide +kernel) (by rw [e]; decide +kernel)⟩⟩⟩
  | all e=>exact ⟨_,rfl,[dS qM],0,_,hu,rfl,rfl,fun u0 h0=>by rw [G9.mp h0]; exact ⟨rfl,_,rfl,J9 (by decide +kernel) ⟨_,rfl,tail g hd hu (by decide +kernel) (by rw [e]; decide +kernel)⟩⟩⟩
  | fin e =>
   refine ⟨_,rfl,[dS W2,.bool true,.tuple []],0,_,hu,rfl,rfl,fun u0 h0=>?_⟩
   rw [G9.mp h0]
   refine ⟨rfl,_,rfl,T7 (by decide +kernel) ⟨_,rfl,[dS W2,.bool true,.tuple []],1,_,hu,rfl,rfl,fun u1 h1=>?_⟩⟩
   rw [P1.mp h1]
   rw [e] at q
   exact q _ g
  | @first t ts dk ds hk hb hd2 ht2 e =>
   refine ⟨_,rfl,[dS W2,.bool false,.tuple [.tuple [dk,K9 m ds]]],0,_,hu,rfl,rfl,fun u0 h0=>?_⟩
   rw [G9.mp h0]
   refine ⟨rfl,_,rfl,T7 (by decide +kernel) ⟨_,rfl,[dS W2,.bool false,.tuple [.tuple [dk,K9 m ds]]],1,_,hu,rfl,rfl,fun u1 h1=>?_⟩⟩
   rw [P1.mp h1]
   have e' : B = false := by rw [e,mQ]; simp
   rw [e'] at q
   exact q _ g
end
end Law
namespace Law
open PySem L2 L2.Sp
theorem mY {X : Cx} : S3 X (.builtin "len") (fun xs H Q=>∃ (a : Addr) (kvs : List (G3 × V)),xs = [.ref a] ∧ H a = some (.dK kvs) ∧ Q (.int kvs.length) H) := by
 intro pins s σ H xs us Q I r h
 obtain ⟨a,kvs,rfl,ha,q⟩ := h
 obtain ⟨u,rfl,ru⟩ := Vals.one r
 cases ru
 exact BC0 I (.inl ha) fun t s' I'=>⟨.int _,H,I',⟨t,rfl⟩,q⟩
theorem cO : ∀ (more kvs : List (G3 × V)),(∀ p ∈ more,P7 kvs p.1 = none) → (more.map (·.1)).Nodup → S1 kvs more = kvs ++ more
 | [],kvs,_,_=>(List.append_nil _).symm
 | p :: r,kvs,h,nd=>by
  rw [List.map_cons,List.nodup_cons] at nd
  have e : S1 kvs (p :: r) = S1 (Q9 kvs p.1 p.2) r := rfl
  rw [e,pN _ (h p List.mem_cons_self),cO r _ (fun x hx=>?_) nd.2,List.append_assoc]
  ·rfl
  ·rw [mC _ _ _ _ (h p List.mem_cons_self),if_neg (fun z=>nd.1 (by rw [← z]; exact List.mem_map_of_mem hx))]
   exact h x (List.mem_cons_of_mem _ hx)
def kL (K : PySem.W.Frag) (H : Hp) (N : Nat) (kv : G3 × V) (p : Str × Th) : Prop := kv.1 = Sum.inr p.1 ∧ ThV K H p.2 kv.2 ∧ ThOk N p.2
section
variable {P : Program} {w : World} {K : PySem.W.Frag} {mg : Str → Option Value} {base : Heap} {f : Addr} {fd : FuncData}
theorem jY {H : Hp} {N : Nat} {n : Str} : ∀ {kvs : List (G3 × V)} {L : Lf},Paired (kL K H N) kvs L → (O2 L n = none ∧ P7 kvs (Sum.inr n) = none) ∨ ∃ x v,O2 L n = some x ∧ P7 kvs (Sum.inr n) = some v ∧ ThV K H x v ∧ ThOk N x
 | _,_,.nil=>.inl ⟨rfl,rfl⟩
 | _,_,.cons (a := kv) (b := p) r t=>by
  by_cases e : p.1 = n
  ·refine .inr ⟨p.2,kv.2,by rw [T6,if_pos e],S4 (by rw [r.1,e]),r.2.1,r.2.2⟩
  ·have e2 : ¬ kv.1 = Sum.inr n := fun z=>e (Sum.inr.inj (r.1.symm.trans z))
   rw [T6,if_neg e,T8 e2]
   exact jY t
theorem aV {H : Hp} {N : Nat} {n : Str} : ∀ {kvs : List (G3 × V)} {L : Lf},Paired (kL K H N) kvs L → Paired (kL K H N) (U2 kvs (Sum.inr n)) (T1 L n)
 | _,_,.nil=>.nil
 | _,_,.cons (a := kv) (b := p) r t=>by
  unfold T1
  rw [List.filter_cons]
  by_cases e : p.1 = n
  ·rw [zL (by rw [r.1,e]),if_neg (by simpa using e)]
   exact aV t
  ·have e2 : ¬ kv.1 = Sum.inr n := fun z=>e (Sum.inr.inj (r.1.symm.trans z))
   rw [zM e2,if_pos (by simpa using e)]
   exact .cons r (aV t)
theorem jB {H : Hp} {N : Nat} : ∀ {fn : List Str} {fx : List Th} {ys : List V},ThFs K H fn fx ys → (∀ x ∈ fx,ThOk N x) → ∃ fs : List (G3 × V),Paired (PrV K H) ys fs ∧ Paired (kL K H N) fs (fn.zip fx) ∧ fs.map (·.1) = fn.map Sum.inr
 | n :: ns,x :: xs,ys,h,hx=>by
  simp only [ThFs] at h
  obtain ⟨c,v,r,rfl,q,h1,h2⟩ := h
  obtain ⟨fs,a,b,e⟩ := jB h2 fun y hy=>hx y (List.mem_cons_of_mem _ hy)
  exact ⟨(Sum.inr n,v) :: fs,.cons ⟨c,rfl,q⟩ a,.cons ⟨rfl,h1,hx x List.mem_cons_self⟩ b,by rw [List.map_cons,List.map_cons,e]⟩
 | [],[],ys,h,hx=>by simp only [ThFs] at h; subst h; exact ⟨[],.nil,.nil,rfl⟩
 | [],_ :: _,ys,h,hx=>by simp only [ThFs] at h
 | _ :: _,[],ys,h,hx=>by simp only [ThFs] at h
abbrev mI : Stmt := N3 34
theorem pI : G0 ["form","fields","here","left"] ["form","fields"] (B6 mI) := ⟨rfl,rfl,rfl,by decide +kernel,rfl,by decide +kernel,by decide +kernel⟩
inductive uK (n : Nat) (m B : Bool) (L : Lf) : Nat → PyData → Prop
 | nor {k : Nat} : B = false → uK n m B L k G7
 | form {k : Nat} (es : List F4) : EsOk n es → es.length < k → B = N9 m es L → uK n m B L k (K4 m (es.map f4))
def vA (K : PySem.W.Frag) (n : Nat) : Sp := fun args H Q _=>∃ (v : V) (p : Addr) (ys : List V) (fn : List Str) (fx : List Th) (fo : PyData) (m B : Bool) (N k : Nat),args = [v,.ref p] ∧ FT H p ys ∧ ThFs K H fn fx ys ∧ fn.Nodup ∧ fn.length ≤ 40 ∧ (∀ x ∈ fx,ThOk N x) ∧ G6 fo ∧ DatV K H fo v ∧ uK n m B (fn.zip fx) k fo ∧ ∀ H',Same H H' → Q (.bl B) H'
theorem AI6 {k n : Nat} (F : Fun K "lets_record_in" "lets_record_in" mI f fd) (G : Gk K mg) (FB : Cal P w K mg base k "form_behind" ["branches","thing","none"] (pB K n)) (m1 : mg "dict" = none) (m2 : mg "len" = none) : FnOk P w K mg base L9 (k + 1) f fd ["form","fields"] (vA K n) := by
 refine F.ok pI (fun vs H Q E h=>?_) (fun cdv A outer s H vs Q E hr h=>?_)
 ·obtain ⟨v,p,ys,fn,fx,fo,m,B,N,k0,rfl,_⟩ := h
  rfl
 obtain ⟨v,p,ys,fn,fx,fo,m,B,N,k0,rfl,hp,hys,hnd,h40,hxs,hok,hv,hR,q⟩ := h
 obtain ⟨gr,mr,hrr⟩ := G.nr
 refine ⟨_,B5 (G2 (i := 2) pI.nd rfl (Or.inl rfl) (pv 0))
  (B5 (G2 (i := 3) pI.nd rfl (Or.inl rfl) (O8 (kH rfl) rfl m1 AQ4 (A0 (pv 1) A6)))
  (B5 (AC7 PassesOwn.never (E2 J4 (D9 P2 (pv 2) A7 (fun _ _=>rfl)) E1 (D7 _))
   (A9 (G4 (pO (xY (fA hr) (D9 P2 (pv 2) A7 (fun _ _=>rfl)) (pv 3)))
    (A9 (G2 (i := 2) pI.nd rfl (Or.inl rfl) (B8 FB hr rfl (A0 (D9 P2 (pv 2) A7 (fun _ _=>rfl)) (A0 (pR (pv 3) (D9 P2 (pv 2) A7 (fun _ _=>rfl)) ⟨rfl,rfl,rfl,rfl⟩) (A0 (M3 (v := .ref gr) rfl mr rfl) A6))))))
    (A9 (G2 (i := 2) pI.nd rfl (Or.inl rfl) (D9 P2 (pv 2) A7 (fun _ _=>rfl)))))))
  (A9 (D8 (X1 (E2 bY (K6 mY rfl m2 PySem.boot_len (A0 (pv 3) A6)) A7 (D7 _)) (D9 P2 (pv 2) A7 (fun _ _=>rfl)) (D9 P2 (pv 2) A7 (fun _ _=>rfl))))))),?_⟩
 obtain ⟨fs,hfs,hL0,hfst⟩ := jB hys hxs
 have hyl := hys.length
 have hfl := hfs.length
 refine ⟨_,rfl,_,rfl,p,ys,fs,rfl,.inr hp,hfs,by omega,fun D hD=>?_⟩
 rw [cO _ _ (fun _ _=>oK) (by rw [hfst]; exact List.Pairwise.map _ (fun a b n z=>n (Sum.inr.inj z)) hnd),List.nil_append]
 have k1 := A8 hD (.dK fs)
 have fin : ∀ {H' : Hp} {vh : V} {kvs : List (G3 × V)} {L : Lf} {a b : Bool},Same H H' → H' D = some (.dK kvs) → Paired (kL K H N) kvs L → DatV K H' (.tuple [dS V8,.bool a,.bool b]) vh → B = (if L.isEmpty then a else b) →
   dW (tIf (gY (U8 (iR fun i j=>.bl (decide (j < i))) (tCB (fun xs H Q=>∃ (a : Addr) (kvs : List (G3 × V)),xs = [.ref a] ∧ H a = some (.dK kvs) ∧ Q (.int kvs.length) H) (N5 (O4 3) Y3)) (tC (.int 0)))) (U8 (AC6 K) (O4 2) (tC (.int 2))) (U8 (AC6 K) (O4 2) (tC (.int 1)))) { nx := fun _ H'=>Q .non H',rt := Q } [some v,some (.ref p),some vh,some (.ref D)] H' := fun {H' vh kvs L a b} g hD' hP hd e=>by
  have hl := hP.length
  refine ⟨_,rfl,D,kvs,rfl,hD',_,_,rfl,rfl,_,rfl,M2 (fun c=>?_) (fun c=>?_)⟩
  ·refine ⟨_,rfl,[dS V8,.bool a,.bool b],2,_,hd,rfl,rfl,fun u hu=>?_⟩
   rw [P1.mp hu]
   have hne : L.isEmpty = false := by
    cases L with
    | nil=>rw [show kvs.length = 0 from hl] at c; simp at c
    | cons _ _=>rfl
   rw [hne] at e
   rw [e] at q
   exact q _ g
  ·refine ⟨_,rfl,[dS V8,.bool a,.bool b],1,_,hd,rfl,rfl,fun u hu=>?_⟩
   rw [P1.mp hu]
   have hne : L.isEmpty = true := by
    cases L with
    | nil=>rfl
    | cons _ _=>rw [List.length_cons] at hl; exact absurd (decide_eq_true (by omega)) c
   rw [hne] at e
   rw [e] at q
   exact q _ g
 refine ⟨fun k σ H'=>∃ (vh : V) (d : PyData) (kvs : List (G3 × V)) (L : Lf),σ = [some v,some (.ref p),some vh,some (.ref D)] ∧ Same H H' ∧ H' D = some (.dK kvs) ∧ Paired (kL K H N) kvs L ∧ G6 d ∧ DatV K H' d vh ∧ uK n m B L k d,⟨k0,v,fo,fs,_,rfl,k1,A5,hL0,hok,O7 k1 hok hv,hR⟩,?_⟩
 rintro k σ H' ⟨vh,d,kvs,L,rfl,g,hD',hP,hd,hdv,hR⟩
 have start : ∀ {ds : List PyData} {wd : Str} {Q' : Prop},d = .tuple (dS wd :: ds) → V.str wd ≠ .str (Str.ofString "name") → Q' → True := fun _ _ _=>trivial
 clear start
 cases hR with
 | nor e =>
  refine ⟨_,rfl,[dS V8,.bool false,.bool false],0,_,hdv,rfl,rfl,fun u hu=>?_⟩
  rw [G9.mp hu]
  exact ⟨rfl,_,rfl,J9 (by decide +kernel) (fin g hD' hP hdv (by rw [e]; split <;> rfl))⟩
 | form es hes hlt e =>
  cases cls (m := m) L hes with
  | nor a b =>
   rw [a] at hdv
   refine ⟨_,rfl,[dS V8,.bool false,.bool false],0,_,hdv,rfl,rfl,fun u hu=>?_⟩
   rw [G9.mp hu]
   exact ⟨rfl,_,rfl,J9 (by decide +kernel) (fin g hD' hP hdv (by rw [e,b]; split <;> rfl))⟩
  | rest a b =>
   rw [a] at hdv
   refine ⟨_,rfl,[dS V8,.bool true,.bool m],0,_,hdv,rfl,rfl,fun u hu=>?_⟩
   rw [G9.mp hu]
   exact ⟨rfl,_,rfl,J9 (by decide +kernel) (fin g hD' hP hdv (by rw [e,b]; cases L <;> cases m <;> rfl))⟩
  | nm0 e1 r he hr' hrl a b c =>
   rw [a] at hdv hd
   have hof : G6 (K4 m (r.map f4)) := O6 hd _ (List.mem_cons_of_mem _ (List.mem_cons_of_mem _ List.mem_cons_self))
   refine ⟨_,rfl,[dS W9,dS e1.1,K4 m (r.map f4),.tuple []],0,_,hdv,rfl,rfl,fun u hu=>?_⟩
   rw [G9.mp hu]
   refine ⟨rfl,_,rfl,T7 (by decide +kernel) ?_⟩
   refine ⟨fun σ' H2=>∃ (vh : V) (d : PyData) (kvs : List (G3 × V)) (L : Lf) (k' : Nat),k' < k ∧ σ' = [some v,some (.ref p),some vh,some (.ref D)] ∧ Same H H2 ∧ H2 D = some (.dK kvs) ∧ Paired (kL K H N) kvs L ∧ G6 d ∧ DatV K H2 d vh ∧ uK n m B L k' d,fun σ' H2 hh=>?_,?_⟩
   ·obtain ⟨x1,x2,x3,x4,k',hk',rest⟩ := hh
    exact ⟨k',hk',x1,x2,x3,x4,rest⟩
   refine ⟨_,rfl,[dS W9,dS e1.1,K4 m (r.map f4),.tuple []],1,_,hdv,rfl,rfl,fun u1 hu1=>?_⟩
   rw [G9.mp hu1]
   refine ⟨_,rfl,D,_,rfl,DGet.k (k := Sum.inr e1.1) hD',_,rfl,?_⟩
   rcases jY (n := e1.1) hP with ⟨z1,z2⟩ | ⟨x,vx,z1,z2,z3,z4⟩
   ·rw [z2]
    refine L5 ⟨_,rfl,[dS W9,dS e1.1,K4 m (r.map f4),.tuple []],2,_,hdv,rfl,rfl,fun u2 hu2=>?_⟩
    exact ⟨u2,_,kvs,L,r.length + 1,by omega,rfl,g,hD',hP,hof,hu2,.form r hr' (Nat.lt_succ_self _) (e.trans (b z1))⟩
   ·rw [z2]
    refine K8 ⟨_,rfl,[dS W9,dS e1.1,K4 m (r.map f4),.tuple []],3,_,hdv,rfl,rfl,fun u3 hu3=>?_⟩
    refine ⟨_,rfl,D,rfl,.inl ⟨_,.inl hD'⟩,_,rfl,[dS W9,dS e1.1,K4 m (r.map f4),.tuple []],1,_,hdv,rfl,rfl,fun u4 hu4=>?_⟩
    rw [G9.mp hu4]
    refine ⟨kvs,Sum.inr e1.1,vx,hD',rfl,z2,?_⟩
    have gd : Same H (upd H' D (.dK (U2 kvs (Sum.inr e1.1)))) := fun b o h=>by rw [B7 (E6 h hD)]; exact g _ _ h
    refine ⟨u3,vx,.ref gr,rfl,.inl ⟨DatV.kt (KF.dct hD') (by simp only [bH,eR]) hu3,fun H5 g5=>?_⟩⟩
    exact ⟨.ref gr,G7,_,_,r.length + 1,by omega,rfl,gd.trans g5,g5 _ _ A5,aV hP,V7,hrr H5,.nor (e.trans (c x z1))⟩
  | nm1 e1 r he hr' hrl a b c =>
   rw [a] at hdv hd
   have hoa : G6 (bif e1.2.2.2 then G7 else K4 m (r.map f4)) := O6 hd _ (List.mem_cons_of_mem _ (List.mem_cons_of_mem _ List.mem_cons_self))
   have hob := O6 hd _ (List.mem_cons_of_mem _ (List.mem_cons_of_mem _ (List.mem_cons_of_mem _ List.mem_cons_self)))
   have hok1 : G6 e1.2.2.1 := O6 (O6 hob _ List.mem_cons_self) _ List.mem_cons_self
   have hof : G6 (K4 m (r.map f4)) := O6 (O6 hob _ List.mem_cons_self) _ (List.mem_cons_of_mem _ List.mem_cons_self)
   refine ⟨_,rfl,[dS W9,dS e1.1,(bif e1.2.2.2 then G7 else K4 m (r.map f4)),.tuple [.tuple [e1.2.2.1,K4 m (r.map f4)]]],0,_,hdv,rfl,rfl,fun u hu=>?_⟩
   rw [G9.mp hu]
   refine ⟨rfl,_,rfl,T7 (by decide +kernel) ?_⟩
   refine ⟨fun σ' H2=>∃ (vh : V) (d : PyData) (kvs : List (G3 × V)) (L : Lf) (k' : Nat),k' < k ∧ σ' = [some v,some (.ref p),some vh,some (.ref D)] ∧ Same H H2 ∧ H2 D = some (.dK kvs) ∧ Paired (kL K H N) kvs L ∧ G6 d ∧ DatV K H2 d vh ∧ uK n m B L k' d,fun σ' H2 hh=>?_,?_⟩
   ·obtain ⟨x1,x2,x3,x4,k',hk',rest⟩ := hh
    exact ⟨k',hk',x1,x2,x3,x4,rest⟩
   refine ⟨_,rfl,[dS W9,dS e1.1,(bif e1.2.2.2 then G7 else K4 m (r.map f4)),.tuple [.tuple [e1.2.2.1,K4 m (r.map f4)]]],1,_,hdv,rfl,rfl,fun u1 hu1=>?_⟩
   rw [G9.mp hu1]
   refine ⟨_,rfl,D,_,rfl,DGet.k (k := Sum.inr e1.1) hD',_,rfl,?_⟩
   rcases jY (n := e1.1) hP with ⟨z1,z2⟩ | ⟨x,vx,z1,z2,z3,z4⟩
   ·rw [z2]
    refine L5 ⟨_,rfl,[dS W9,dS e1.1,(bif e1.2.2.2 then G7 else K4 m (r.map f4)),.tuple [.tuple [e1.2.2.1,K4 m (r.map f4)]]],2,_,hdv,rfl,rfl,fun u2 hu2=>?_⟩
    have hb := e.trans (b z1)
    cases hm : e1.2.2.2 with
    | true =>
     rw [hm] at hu2 hb
     exact ⟨u2,G7,kvs,L,r.length + 1,by omega,rfl,g,hD',hP,V7,hu2,.nor hb⟩
    | false =>
     rw [hm] at hu2 hb
     exact ⟨u2,_,kvs,L,r.length + 1,by omega,rfl,g,hD',hP,hof,hu2,.form r hr' (Nat.lt_succ_self _) (by rw [hb]; rfl)⟩
   ·rw [z2]
    refine K8 ⟨_,rfl,[dS W9,dS e1.1,(bif e1.2.2.2 then G7 else K4 m (r.map f4)),.tuple [.tuple [e1.2.2.1,K4 m (r.map f4)]]],3,_,hdv,rfl,rfl,fun u3 hu3=>?_⟩
    refine ⟨_,rfl,D,rfl,.inl ⟨_,.inl hD'⟩,_,rfl,[dS W9,dS e1.1,(bif e1.2.2.2 then G7 else K4 m (r.map f4)),.tuple [.tuple [e1.2.2.1,K4 m (r.map f4)]]],1,_,hdv,rfl,rfl,fun u4 hu4=>?_⟩
    rw [G9.mp hu4]
    refine ⟨kvs,Sum.inr e1.1,vx,hD',rfl,z2,?_⟩
    have gd : Same H (upd H' D (.dK (U2 kvs (Sum.inr e1.1)))) := fun b o h=>by rw [B7 (E6 h hD)]; exact g _ _ h
    obtain ⟨hkk,hbl⟩ := hes.kd e1 he
    refine ⟨u3,vx,.ref gr,rfl,.inr ⟨e1.2.1,e1.2.2.1,K4 m (r.map f4),x,N,DatV.kt (KF.dct hD') hob.nol hu3,hkk,hok1,hof,hbl,z4,ThV.kt (KT.same gd).toKF z3,fun cc H5 y5 g5 h5=>?_,fun cc H5 g5=>?_⟩⟩
    ·exact ⟨y5,_,_,_,r.length + 1,by omega,rfl,gd.trans g5,g5 _ _ A5,aV hP,hof,h5,.form r hr' (Nat.lt_succ_self _) (by rw [e,c x z1,cc]; rfl)⟩
    ·exact ⟨.ref gr,G7,_,_,r.length + 1,by omega,rfl,gd.trans g5,g5 _ _ A5,aV hP,V7,hrr H5,.nor (by rw [e,c x z1,cc]; rfl)⟩
theorem AP7 (c : Bool) (bs : List Bool) : iT (.bl c) (bs.map V.bl) = decide (c ∈ bs) := by
 rw [Bool.eq_iff_iff,decide_eq_true_iff]
 unfold iT
 simp only [List.any_map,List.any_eq_true,Function.comp]
 constructor
 ·rintro ⟨y,hy,e⟩
  have e : (y == c) = true := e
  rw [beq_iff_eq] at e
  exact e ▸ hy
 ·intro h
  exact ⟨c,h,by show (c == c) = true; simp⟩
theorem AF5 (bs : List Bool) : (bs.map V.bl).all Z4 = true := by rw [List.all_eq_true]; intro v hv; obtain ⟨b,_,rfl⟩ := List.mem_map.mp hv; rfl
theorem uC {H : Hp} : ∀ {bs : List Bool} {ys : List V},DatAll K H (bs.map PyData.bool) ys → ys = bs.map V.bl
 | [],ys,h=>by simpa only [List.map_nil,DatAll] using h
 | t :: ts,ys,h=>by
  simp only [List.map_cons,DatAll] at h
  obtain ⟨y,r,rfl,h1,h2⟩ := h
  rw [P1.mp h1,uC h2]; rfl
theorem uB {H : Hp} {e : En} {v : V} (h : DatV K H (W4 e) v) : EndV K H v e := by
 obtain ⟨a,ys,rfl,hq,hd⟩ := N6.mp h
 refine ⟨a,rfl,?_⟩
 cases e with
 | none=>simp only [Option.toList,List.map_nil,DatAll] at hd; subst hd; exact hq
 | some n=>simp only [Option.toList,List.map_cons,List.map_nil,DatAll] at hd; obtain ⟨y,_,rfl,h1,rfl⟩ := hd; rw [zK.mp h1] at hq; exact hq
theorem zO {H : Hp} {ss : List Pr} {v : V} (h : DatV K H (mF ss) v) : SpansV K H v ss := by
 obtain ⟨a,ys,rfl,hq,hd⟩ := N6.mp h
 refine ⟨a,ys,rfl,hq,?_⟩
 clear h hq
 induction ss generalizing ys with
 | nil=>simp only [List.map_nil,DatAll] at hd; subst hd; exact .nil
 | cons p ss ih =>
  simp only [List.map_cons,DatAll] at hd
  obtain ⟨y,r,rfl,h1,h2⟩ := hd
  obtain ⟨b,zs,rfl,hb,hz⟩ := N6.mp h1
  simp only [DatAll] at hz
  obtain ⟨y1,_,rfl,e1,y2,_,rfl,e2,rfl⟩ := hz
  exact .cons ⟨b,y1,y2,rfl,hb,uB e1,uB e2⟩ (ih _ h2)
abbrev Z6 : Stmt := N3 32
theorem sJ : G0 ["kind","thing"] ["kind","thing"] (B6 Z6) := ⟨rfl,rfl,rfl,by decide +kernel,rfl,by decide +kernel,by decide +kernel⟩
theorem pV {k n : Nat} (F : Fun K "holds" "holds" Z6 f fd) (LL : Cal P w K mg base k "lets_list_in" ["form","items"] (vB K n)) (LR : Cal P w K mg base k "lets_record_in" ["form","fields"] (vA K n)) (IS : Cal P w K mg base 2 "in_spans" ["spans","number"] (vD K)) (IT : Cal P w K mg base 3 "in_texts" ["texts","text"] (nZ K)) (hk : 3 ≤ k) : FnOk P w K mg base L9 (k + 1) f fd ["kind","thing"] (aT K n) := by
 refine F.ok sJ (fun vs H Q E h=>?_) (fun cdv A outer s H vs Q E hr h=>?_)
 ·obtain ⟨t,d,x,v,u,N,rfl,_⟩ := h
  rfl
 obtain ⟨t,d,x,v,u,N,rfl,htd,hkd,hok,hv,hx,hu,q⟩ := h
 have hr2 := hr.mono (show 2 ≤ k by omega)
 have hr3 := hr.mono hk
 refine ⟨_,B5 (G4 (E2 J4 (D9 E8 (pv 1) A7 (fun _ _=>rfl)) E1 (D7 _)) (A9 (D8 (D9 P2 (pv 0) A7 (fun _ _=>rfl)))) E7)
  (B5 (G4 (E2 J4 (D9 E8 (pv 1) A7 (fun _ _=>rfl)) E1 (D7 _)) (A9 (D8 (J5 V3 (D9 E8 (pv 1) A7 (fun _ _=>rfl)) (D9 P2 (pv 0) A7 (fun _ _=>rfl)) rfl))) E7)
  (B5 (G4 (E2 J4 (D9 E8 (pv 1) A7 (fun _ _=>rfl)) E1 (D7 _)) (A9 (D8 (B8 IS hr2 rfl (A0 (D9 P2 (pv 0) A7 (fun _ _=>rfl)) (A0 (D9 E8 (pv 1) A7 (fun _ _=>rfl)) A6))))) E7)
  (B5 (G4 (E2 J4 (D9 E8 (pv 1) A7 (fun _ _=>rfl)) E1 (D7 _)) (A9 (D8 (B8 IT hr3 rfl (A0 (D9 P2 (pv 0) A7 (fun _ _=>rfl)) (A0 (D9 E8 (pv 1) A7 (fun _ _=>rfl)) A6))))) E7)
  (B5 (G4 (E2 J4 (D9 E8 (pv 1) A7 (fun _ _=>rfl)) E1 (D7 _)) (A9 (D8 (B8 LL hr rfl (A0 (D9 P2 (pv 0) A7 (fun _ _=>rfl)) (A0 (D9 E8 (pv 1) A7 (fun _ _=>rfl)) A6))))) E7)
  (A9 (D8 (B8 LR hr rfl (A0 (D9 P2 (pv 0) A7 (fun _ _=>rfl)) (A0 (D9 E8 (pv 1) A7 (fun _ _=>rfl)) A6))))))))),?_⟩
 obtain ⟨b,bs,ss,tb,tx,lf,rf,rfl,pr⟩ := AT6 htd hkd
 have hv : DatV K H (.tuple [.bool b,.tuple (bs.map PyData.bool),mF ss,txD tb tx,lf,rf]) v := hv
 cases hx with
 | non =>
  simp only [ThV] at hu
  obtain ⟨a,rfl,hq⟩ := hu
  exact ⟨_,rfl,a,_,_,_,rfl,rfl,hq,rfl,rfl,_,rfl,T7 rfl ⟨_,rfl,_,0,_,hv,rfl,rfl,fun z hz=>by rw [P1.mp hz]; rw [pr.non] at q; exact q _ W6⟩⟩
 | @tru _ c =>
  simp only [ThV] at hu
  obtain ⟨a,rfl,hq⟩ := hu
  exact ⟨_,rfl,a,_,_,_,rfl,rfl,hq,rfl,rfl,_,rfl,J9 (by decide +kernel) ⟨_,rfl,a,_,_,_,rfl,rfl,hq,rfl,rfl,_,rfl,T7 rfl ⟨_,rfl,a,_,_,_,rfl,rfl,hq,rfl,_,rfl,_,1,_,hv,rfl,rfl,fun z hz=>by
   obtain ⟨pp,ys,rfl,hqp,hd⟩ := N6.mp hz
   rw [uC hd] at hqp
   refine ⟨pp,_,rfl,.inr hqp,rfl,AF5 bs,?_⟩
   rw [pr.tru,← AP7] at q
   exact q _ W6⟩⟩⟩
 | @num _ i =>
  simp only [ThV] at hu
  obtain ⟨a,rfl,hq⟩ := hu
  exact ⟨_,rfl,a,_,_,_,rfl,rfl,hq,rfl,rfl,_,rfl,J9 (by decide +kernel) ⟨_,rfl,a,_,_,_,rfl,rfl,hq,rfl,rfl,_,rfl,J9 (by decide +kernel) ⟨_,rfl,a,_,_,_,rfl,rfl,hq,rfl,rfl,_,rfl,T7 rfl ⟨_,rfl,_,2,_,hv,rfl,rfl,fun z hz=>⟨_,rfl,a,_,_,_,rfl,rfl,hq,rfl,z,i,ss,rfl,zO hz,Nat.le_trans pr.len (by decide),fun H2 g2=>by rw [← pr.num]; exact q _ g2⟩⟩⟩⟩⟩
 | @txt _ s0 hs =>
  simp only [ThV] at hu
  obtain ⟨a,rfl,hq⟩ := hu
  exact ⟨_,rfl,a,_,_,_,rfl,rfl,hq,rfl,rfl,_,rfl,J9 (by decide +kernel) ⟨_,rfl,a,_,_,_,rfl,rfl,hq,rfl,rfl,_,rfl,J9 (by decide +kernel) ⟨_,rfl,a,_,_,_,rfl,rfl,hq,rfl,rfl,_,rfl,J9 (by decide +kernel) ⟨_,rfl,a,_,_,_,rfl,rfl,hq,rfl,rfl,_,rfl,T7 rfl ⟨_,rfl,_,3,_,hv,rfl,rfl,fun z hz=>⟨_,rfl,a,_,_,_,rfl,rfl,hq,rfl,z,tb,tx,s0,rfl,hz,hs,fun H2 g2=>by rw [← pr.txt]; exact q _ g2⟩⟩⟩⟩⟩⟩
 | @lst N' xs hl40 hxs =>
  simp only [ThV] at hu
  obtain ⟨a,p,ys,rfl,hq,hp,hys⟩ := hu
  have hof : G6 lf := O6 hok _ (by simp)
  refine ⟨_,rfl,a,_,_,_,rfl,rfl,hq,rfl,rfl,_,rfl,J9 (by decide +kernel) ⟨_,rfl,a,_,_,_,rfl,rfl,hq,rfl,rfl,_,rfl,J9 (by decide +kernel) ⟨_,rfl,a,_,_,_,rfl,rfl,hq,rfl,rfl,_,rfl,J9 (by decide +kernel) ⟨_,rfl,a,_,_,_,rfl,rfl,hq,rfl,rfl,_,rfl,J9 (by decide +kernel) ⟨_,rfl,a,_,_,_,rfl,rfl,hq,rfl,rfl,_,rfl,T7 rfl ⟨_,rfl,_,4,_,hv,rfl,rfl,fun z hz=>⟨_,rfl,a,_,_,_,rfl,rfl,hq,rfl,?_⟩⟩⟩⟩⟩⟩⟩
  rcases pr.lst with ⟨e,h⟩ | ⟨ts,ds,m,e,hd,ht,h⟩
  ·rw [h] at q
   exact ⟨z,p,ys,xs,_,true,false,N',rfl,hp,hys,hxs,hof,hz,by rw [e]; exact .no rfl,q⟩
  ·rw [h] at q
   exact ⟨z,p,ys,xs,_,m,_,N',rfl,hp,hys,hxs,hof,hz,by rw [e]; exact yP hd ht rfl,q⟩
 | @rc N' ns xs hlx hl40 hpw hst hxs =>
  simp only [ThV] at hu
  obtain ⟨a,p,ys,rfl,hq,hp,hys⟩ := hu
  have hof : G6 rf := O6 hok _ (by simp)
  have hnd : ns.Nodup := hpw.imp fun {a b} z e=>by subst e; rw [Y8] at z; cases z
  refine ⟨_,rfl,a,_,_,_,rfl,rfl,hq,rfl,rfl,_,rfl,J9 (by decide +kernel) ⟨_,rfl,a,_,_,_,rfl,rfl,hq,rfl,rfl,_,rfl,J9 (by decide +kernel) ⟨_,rfl,a,_,_,_,rfl,rfl,hq,rfl,rfl,_,rfl,J9 (by decide +kernel) ⟨_,rfl,a,_,_,_,rfl,rfl,hq,rfl,rfl,_,rfl,J9 (by decide +kernel) ⟨_,rfl,a,_,_,_,rfl,rfl,hq,rfl,rfl,_,rfl,J9 (by decide +kernel) ⟨_,rfl,_,5,_,hv,rfl,rfl,fun z hz=>⟨_,rfl,a,_,_,_,rfl,rfl,hq,rfl,?_⟩⟩⟩⟩⟩⟩⟩
  rcases pr.rc with ⟨e,h⟩ | ⟨m,es,e,hes,h⟩
  ·rw [h] at q
   exact ⟨z,p,ys,ns,xs,_,true,false,N',0,rfl,hp,hys,hnd,hl40,hxs,hof,hz,by rw [e]; exact .nor rfl,q⟩
  ·rw [h _ _ hlx] at q
   exact ⟨z,p,ys,ns,xs,_,m,_,N',es.length + 1,rfl,hp,hys,hnd,hl40,hxs,hof,hz,by rw [e]; exact .form es hes (Nat.lt_succ_self _) rfl,q⟩
structure Nm (K : PySem.W.Frag) (mg : Str → Option Value) (x : Str) (st : Stmt) (ps : List Str) : Prop where
 ex : ∃ (f : Addr) (fd : FuncData),Fun K x x st f fd ∧ mg x = some (.ref f) ∧ PySem.W.keepIn K (.ref f) = true ∧ Binds K fd ps []
theorem Nm.cal {x : Str} {st : Stmt} {ps : List Str} {k : Nat} {sp : Sp} (n : Nm K mg x st ps) (h : ∀ f fd,Fun K x x st f fd → FnOk P w K mg base L9 k f fd ps sp) : Cal P w K mg base k x ps sp := by
 obtain ⟨f,fd,F,a,b,c⟩ := n.ex
 exact ⟨f,fd,h f fd F,a,b,c⟩
theorem Nm.no {x : Str} {st : Stmt} {ps N : List Str} (n : Nm K mg x st ps) (S : G0 N ps (B6 st)) (k : Nat) : Cal P w K mg base (k + 1) x ps (fun _ _ _ _=>False) :=
 n.cal fun f fd F=>F.ok S (fun vs H Q E h=>h.elim) (fun cdv A outer s H vs Q E hr h=>h.elim)
theorem mT (nH : Nm K mg "holds" Z6 ["kind","thing"]) (nF : Nm K mg "form_behind" mK ["branches","thing","none"]) (nL : Nm K mg "lets_list_in" mJ ["form","items"]) (nR : Nm K mg "lets_record_in" mI ["form","fields"]) (G : Gk K mg) (IS : Cal P w K mg base 2 "in_spans" ["spans","number"] (vD K)) (IT : Cal P w K mg base 3 "in_texts" ["texts","text"] (nZ K)) (m1 : mg "dict" = none) (m2 : mg "len" = none) :
  ∀ n,Cal P w K mg base (3 * n + 4) "holds" ["kind","thing"] (aT K n)
 | 0=>by
  have F0 : Cal P w K mg base 2 "form_behind" ["branches","thing","none"] (pB K 0) := nF.cal fun f fd F=>AI8 F (nH.no sJ 0) (fun n' e=>by omega)
  have L0 : Cal P w K mg base 3 "lets_list_in" ["form","items"] (vB K 0) := nL.cal fun f fd F=>AI7 F G F0
  have R0 : Cal P w K mg base 3 "lets_record_in" ["form","fields"] (vA K 0) := nR.cal fun f fd F=>AI6 F G F0 m1 m2
  exact nH.cal fun f fd F=>pV F L0 R0 IS IT (by decide)
 | n + 1=>by
  have F0 : Cal P w K mg base (3 * n + 4 + 1) "form_behind" ["branches","thing","none"] (pB K (n + 1)) := nF.cal fun f fd F=>AI8 F (mT nH nF nL nR G IS IT m1 m2 n) (fun n' e=>congrArg (aT K) (Nat.succ.inj e))
  have L0 : Cal P w K mg base (3 * n + 4 + 1 + 1) "lets_list_in" ["form","items"] (vB K (n + 1)) := nL.cal fun f fd F=>AI7 F G F0
  have R0 : Cal P w K mg base (3 * n + 4 + 1 + 1) "lets_record_in" ["form","fields"] (vA K (n + 1)) := nR.cal fun f fd F=>AI6 F G F0 m1 m2
  exact nH.cal fun f fd F=>pV F L0 R0 IS IT (by omega)
end
end Law
namespace Law
open PySem L2 L2.Sp
abbrev S (l : List Nat) : Str := ⟨l.toArray⟩
theorem kK (l : List Nat) : (S l).length = l.length := rfl
theorem BC1 {a b : List Nat} (h : S a = S b) : a = b := by
 have : a.toArray = b.toArray := congrArg Str.cps h
 simpa using this
theorem wB (a b : List Nat) : (S a ++ S b : Str) = S (a ++ b) := by
 show (⟨a.toArray ++ b.toArray⟩ : Str) = ⟨(a ++ b).toArray⟩
 simp
theorem AJ9 {a : List Nat} (h : a.length ≤ 1000) : (S a).length ≤ sizeLine := by rw [kK]; exact T9 h
theorem rH {a b : List Nat} (h : a.length + b.length ≤ 1000) : (S a).length + (S b).length ≤ sizeLine := by rw [kK,kK]; exact T9 h
def azL (l : List Nat) : Prop := ∀ c ∈ l,97 ≤ c ∧ c ≤ 122
def NmOk (m : Nat) (s : Str) : Prop := ∃ l,s = S l ∧ azL l ∧ l.length ≤ m
theorem NmOk.mono {m n : Nat} {s : Str} (h : NmOk m s) (hmn : m ≤ n) : NmOk n s := by
 obtain ⟨l,e,a,b⟩ := h
 exact ⟨l,e,a,by omega⟩
theorem NmOk.str {m : Nat} {s : Str} (h : NmOk m s) : PyData.strOk s = true := by
 obtain ⟨l,rfl,a,_⟩ := h
 unfold PyData.strOk
 rw [← Array.all_toList,List.all_eq_true]
 intro c hc
 have := a c (by simpa using hc)
 exact decide_eq_true (by omega)
structure jG (ns : List Str) : Prop where
 nd : ns.Nodup
 ok : ∀ s ∈ ns,NmOk 8 s
 len : ns.length = 3 ∨ ns.length = 9
section
variable {P : Program} {w : World} {K : PySem.W.Frag} {mg : Str → Option Value} {base : Heap} {f : Addr} {fd : FuncData}
abbrev iF : Stmt := N3 37
theorem AS8 : G0 ["_law_script","_law_k"] ["_law_script","_law_k"] (B6 iF) := ⟨rfl,rfl,rfl,by decide +kernel,rfl,by decide +kernel,by decide +kernel⟩
def pC (K : PySem.W.Frag) : Sp := fun args H Q _=>∃ (a : Addr) (ns : List Int) (k : Nat),args = [.ref a,.int (k : Int)] ∧ SqL K H a (ns.map V.int) ∧ ∀ n,Q (.int n) H
theorem AO1 (F : Fun K "_law_cell_at" "_law_cell_at" iF f fd) (m1 : mg "len" = none) : FnOk P w K mg base L9 1 f fd ["_law_script","_law_k"] (pC K) := by
 refine F.ok AS8 (fun vs H Q E h=>?_) (fun cdv A outer s H vs Q E hr h=>?_)
 ·obtain ⟨a,ns,k,rfl,_⟩ := h
  rfl
 obtain ⟨a,ns,k,rfl,hq,q⟩ := h
 refine ⟨_,B5 (G4 (E2 Z3 (pv 1) (K6 M6 rfl m1 PySem.boot_len (A0 (pv 0) A6)) (D7 _)) (A9 (D8 (J0 X7 (D9 M7 (pv 0) (pv 1) (fun _ _=>rfl)) (J0 jQ A7 A7)))) E7)
  (A9 (D8 A7)),?_⟩
 refine ⟨_,rfl,_,rfl,a,_,rfl,.inl hq,_,_,rfl,rfl,_,rfl,M2 (fun h=>?_) (fun _=>q 0)⟩
 have hk : k < ns.length := by
  have h := of_decide_eq_true h
  rw [List.length_map] at h
  omega
 exact ⟨_,rfl,_,rfl,a,_,_,_,rfl,rfl,hq,Q7 (by rw [List.getElem?_map,List.getElem?_eq_getElem hk]; rfl),_,_,rfl,rfl,⟨by decide,by decide,by decide⟩,_,_,rfl,rfl,(by show (0 : Int) < 10 ^ Int.toNat 30; decide),q _⟩
abbrev dB : Stmt := N3 38
theorem AL6 : G0 ["_law_cell","_law_k"] ["_law_cell","_law_k"] (B6 dB) := ⟨rfl,rfl,rfl,by decide +kernel,rfl,by decide +kernel,by decide +kernel⟩
def kO : Sp := fun args H Q _=>∃ c k : Int,args = [.int c,.int k] ∧ ∀ l y,H l = none → Q (.ref l) (upd H l (.lst [.int y]))
theorem AD4 (F : Fun K "_law_state" "_law_state" dB f fd) : FnOk P w K mg base L9 1 f fd ["_law_cell","_law_k"] kO := by
 refine F.ok AL6 (fun vs H Q E h=>?_) (fun cdv A outer s H vs Q E hr h=>?_)
 ·obtain ⟨c,k,rfl,_⟩ := h
  rfl
 obtain ⟨c,k,rfl,q⟩ := h
 refine ⟨_,A9 (D8 (P8 (A0 (J0 X7 (J0 U3 (J0 U3 (J0 Z9 (J0 X7 (pv 0) (J0 jQ A7 A7)) A7) (J0 Z9 A7 (pv 1))) A7) A7) A6))),?_⟩
 exact ⟨_,rfl,_,_,rfl,rfl,⟨by decide,by decide,by decide⟩,_,_,rfl,rfl,(by show (0 : Int) < 10 ^ Int.toNat 30; decide),_,_,rfl,rfl,.inr ⟨by decide,by decide⟩,_,rfl,_,_,rfl,rfl,.inl ⟨by decide,by decide⟩,_,_,rfl,rfl,_,_,rfl,rfl,_,_,rfl,rfl,(by show (0 : Int) < 2305843009213693951; decide),X2,fun l hl=>q l _ hl⟩
abbrev iD : Stmt := N3 39
theorem AS7 : G0 ["_law_state_here","_law_many"] ["_law_state_here","_law_many"] (B6 iD) := ⟨rfl,rfl,rfl,by decide +kernel,rfl,by decide +kernel,by decide +kernel⟩
def Q8 : Sp := fun vs H Q _=>∃ (st : Addr) (x m : Int),vs = [.ref st,.int m] ∧ H st = some (.lst [.int x]) ∧ 0 < m ∧ ∀ y r : Int,0 ≤ r → r < m → Q (.int r) (upd H st (.lst [.int y]))
theorem AN8 (F : Fun K "_law_next" "_law_next" iD f fd) : FnOk P w K mg base L9 1 f fd ["_law_state_here","_law_many"] Q8 := by
 refine F.ok AS7 (fun vs H Q E h=>?_) (fun cdv A outer s H vs Q E hr h=>?_)
 ·obtain ⟨st,x,m,rfl,_⟩ := h
  rfl
 obtain ⟨st,x,m,rfl,hs,hm,q⟩ := h
 refine ⟨_,B5 (xP (J0 X7 (J0 U3 (J0 Z9 (D9 M7 (pv 0) A7 (fun _ _=>rfl)) A7) A7) A7) (xV (pv 0) A7 pH))
  (A9 (D8 (J0 X7 (J0 AM6 (D9 M7 (pv 0) A7 (fun _ _=>rfl)) A7) (pv 1)))),?_⟩
 refine ⟨_,rfl,st,_,_,_,rfl,rfl,SqL.of hs,rfl,_,_,rfl,rfl,.inr ⟨by decide,by decide⟩,_,_,rfl,rfl,_,_,rfl,rfl,(by show (0 : Int) < 2305843009213693951; decide),?_⟩
 refine ⟨_,rfl,st,_,_,_,rfl,rfl,hs,rfl,?_⟩
 refine ⟨_,rfl,st,_,_,_,rfl,rfl,SqL.of A5,rfl,_,_,rfl,rfl,⟨by decide,by decide⟩,_,rfl,_,_,rfl,rfl,hm,?_⟩
 exact q _ _ (Int.emod_nonneg _ (by omega)) (Int.emod_lt_of_pos _ hm)
abbrev iC : Stmt := N3 41
theorem xJ : G0 ["_law_state_here","_law_number_here"] ["_law_state_here"] (B6 iC) := ⟨rfl,rfl,rfl,by decide +kernel,rfl,by decide +kernel,by decide +kernel⟩
def fO : Sp := fun args H Q _=>∃ (st : Addr) (x : Int),args = [.ref st] ∧ H st = some (.lst [.int x]) ∧ ∀ (H' : Hp) (i : Int),DS st H H' → Q (.int i) H'
theorem AN7 (F : Fun K "_law_number" "_law_number" iC f fd) (N : Cal P w K mg base 1 "_law_next" ["_law_state_here","_law_many"] Q8) : FnOk P w K mg base L9 2 f fd ["_law_state_here"] fO := by
 refine F.ok xJ (fun vs H Q E h=>?_) (fun cdv A outer s H vs Q E hr h=>?_)
 ·obtain ⟨st,x,rfl,_⟩ := h
  rfl
 obtain ⟨st,x,rfl,hs,q⟩ := h
 refine ⟨_,B5 (G2 (i := 1) xJ.nd rfl (Or.inl rfl) (J0 bF (B8 N hr rfl (A0 (pv 0) (A0 A7 A6))) A7))
  (B5 (G4 (E2 J4 (B8 N hr rfl (A0 (pv 0) (A0 A7 A6))) A7 (D7 _)) (A9 (D8 (J0 U3 (J0 Z9 (pv 1) (J0 jQ A7 A7)) (B8 N hr rfl (A0 (pv 0) (A0 A7 A6)))))) E7)
  (A9 (D8 (pv 1)))),?_⟩
 have D0 := DS.start hs
 refine ⟨_,rfl,st,x,9,rfl,hs,by decide,fun y r a0 a1=>⟨_,_,rfl,rfl,?_⟩⟩
 have D1 := D0.next y
 refine ⟨_,rfl,st,y,4,rfl,A5,by decide,fun y2 r2 b0 b1=>⟨rfl,_,rfl,M2 (fun _=>?_) (fun _=>⟨_,rfl,q _ _ (D1.next y2)⟩)⟩⟩
 have D2 := D1.next y2
 exact ⟨_,rfl,_,_,rfl,rfl,⟨by decide,by decide,by decide⟩,_,_,rfl,rfl,.inl ⟨by omega,by omega⟩,_,rfl,st,y2,3,rfl,A5,by decide,fun y3 r3 c0 c1=>⟨_,_,rfl,rfl,q _ _ (D2.next y3)⟩⟩
def BG3 (X : Cx) (st : Stmt) : TS := fun D σ H=>∃ t,PS X st t ∧ t D σ H
theorem V5 {X : Cx} {st : Stmt} : PS X st (BG3 X st) := fun pins s σ H D I ⟨_,h,g⟩=>h pins s σ H D I g
def W0 (b : List Stmt) (i : Nat) : Stmt := b.getD i (.Pass ⟨0,0,0,0⟩)
def zE : Stmt → List Stmt
 | .If _ b _ _=>b
 | _=>[]
def cV : Expr → V
 | .Constant (.int i) _ _=>.int i
 | .Constant (.str x) _ _=>.str x
 | .BinOp (.Constant (.int a) _ _) .Pow (.Constant (.int b) _ _) _=>.int (a ^ b.toNat)
 | _=>.non
def tQ : Expr → Bool
 | .Constant (.int i) _ _=>true
 | .Constant (.str x) _ _=>true
 | .BinOp (.Constant (.int a) _ _) .Pow (.Constant (.int b) _ _) _=>decide (0 ≤ b ∧ b ≤ 1000000 ∧ a.natAbs < 2 ^ 64)
 | _=>false
theorem pS {X : Cx} {e : Expr} (h : tQ e = true) : PE X e (tC (cV e)) ∧ ∀ es,starEach (e :: es) X.env = (false,eval e X.env) :: starEach es X.env := by
 unfold tQ at h
 split at h
 ·exact ⟨A7,fun _=>rfl⟩
 ·exact ⟨E1,fun _=>rfl⟩
 ·have hc := of_decide_eq_true h
  exact ⟨fun pins s σ H Q I hq=>J0 jQ A7 A7 pins s σ H Q I ⟨_,_,rfl,rfl,hc,hq⟩,fun _=>rfl⟩
 ·cases h
def tCs (es : List Expr) : TA := fun _ H Q=>Q (es.map cV) H
theorem oE {X : Cx} : ∀ {es : List Expr},es.all tQ = true → PA X es (tCs es)
 | [],_=>A6
 | e :: es,h=>by
  rw [List.all_cons,Bool.and_eq_true] at h
  exact A0 (pS h.1).1 (oE h.2) ((pS h.1).2 es)
def pG : List Str := [Str.ofString "",Str.ofString "a",Str.ofString "b",Str.ofString "ab",Str.ofString "A b",Str.ofString "{1}"]
theorem AS0 : ∀ s ∈ pG,Sg s := by
 intro s hs
 simp only [pG,List.mem_cons,List.not_mem_nil,or_false] at hs
 rcases hs with rfl | rfl | rfl | rfl | rfl | rfl <;> refine ⟨?_,by decide +kernel⟩ <;> decide +kernel
abbrev eB : Stmt := N3 42
theorem AS4 : G0 ["_law_state_here"] ["_law_state_here"] (B6 eB) := ⟨rfl,rfl,rfl,by decide +kernel,rfl,by decide +kernel,by decide +kernel⟩
def cW : Sp := fun args H Q _=>∃ (st : Addr) (x : Int),args = [.ref st] ∧ H st = some (.lst [.int x]) ∧ ∀ (H' : Hp) (s : Str),DS st H H' → Sg s → Q (.str s) H'
theorem zZ : ∃ es p1 pa pb pc pd p2 p3 k,E4 eB = [.Return (some (.Subscript (.List es p1) (.Call (.Name "_law_next" pa) [.Name "_law_state_here" pb,.Constant (.int 6) k pc] [] pd) p2)) p3] ∧ es.all tQ = true ∧ es.map cV = pG.map V.str := ⟨_,_,_,_,_,_,_,_,_,rfl,rfl,rfl⟩
theorem AN3 (F : Fun K "_law_text" "_law_text" eB f fd) (N : Cal P w K mg base 1 "_law_next" ["_law_state_here","_law_many"] Q8) : FnOk P w K mg base L9 2 f fd ["_law_state_here"] cW := by
 refine F.ok AS4 (fun vs H Q E h=>?_) (fun cdv A outer s H vs Q E hr h=>?_)
 ·obtain ⟨st,x,rfl,_⟩ := h
  rfl
 obtain ⟨st,x,rfl,hs,q⟩ := h
 obtain ⟨es,p1,pa,pb,pc,pd,p2,p3,kk,hb,hes,hem⟩ := zZ
 rw [hb]
 refine ⟨_,A9 (D8 (D9 M7 (P8 (oE hes)) (B8 N hr rfl (A0 (pv 0) (A0 A7 A6))) (fun _ _=>rfl))),?_⟩
 dsimp only [dW,U8,uU,tCs]
 rw [hem]
 refine ⟨by show 6 ≤ sizeLine; decide,fun l hl=>?_⟩
 have k1 := A8 hl (.lst (pG.map V.str))
 have D1 := (DS.start hs).same k1
 have nl := D1.ne hl
 refine ⟨_,rfl,st,x,6,rfl,k1 _ _ hs,by decide,fun y r a0 a1=>?_⟩
 obtain ⟨t,ht,hat⟩ := uG pG a0 a1
 exact ⟨l,_,_,.str t,rfl,rfl,SqL.of (by rw [B7 nl]; exact A5),hat,q _ t (D1.next y) (AS0 t ht)⟩
end
end Law
namespace Law
open PySem L2 L2.Sp
def uF : List Nat := (List.range 26).map (97 + ·)
theorem BB4 : (Str.ofString "abcdefghijklmnopqrstuvwxyz" : Str) = S uF := by decide +kernel
theorem AJ7 {r : Int} (h0 : 0 ≤ r) (h1 : r < 26) : Y0 uF r = some (97 + r.toNat) := by
 obtain ⟨k,rfl⟩ := Int.eq_ofNat_of_zero_le h0
 refine Q7 ?_
 unfold uF
 rw [List.getElem?_map,List.getElem?_range (by omega)]
 rfl
theorem BF4 : (Str.ofString "" : Str) = S [] := by decide +kernel
def qE (bs : List Int) (step spot : Int) (k p : Nat) : Nat := 97 + ((bs.getD p 0 + step * (0 + (k : Int)) * (if decide (V.int (0 + (p : Int)) = V.int spot) = true then 1 else 0)) % 26).toNat
theorem AV5 (bs : List Int) (step spot : Int) (k p : Nat) : 97 ≤ qE bs step spot k p ∧ qE bs step spot k p ≤ 122 := by
 unfold qE
 have h0 := Int.emod_nonneg (bs.getD p 0 + step * (0 + (k : Int)) * (if decide (V.int (0 + (p : Int)) = V.int spot) = true then 1 else 0)) (show (26 : Int) ≠ 0 by decide)
 have h1 := Int.emod_lt_of_pos (bs.getD p 0 + step * (0 + (k : Int)) * (if decide (V.int (0 + (p : Int)) = V.int spot) = true then 1 else 0)) (show (0 : Int) < 26 by decide)
 omega
def WK (bs : List Int) (step spot : Int) (c k : Nat) (u : List Nat) : Prop := ∃ v : List Nat,u = v ++ List.replicate (if step = 0 then k else 0) c ∧ v.length = bs.length ∧ ∀ p,p < bs.length → v[p]? = some (qE bs step spot k p)
theorem AY8 {bs : List Int} {step spot : Int} {c j k : Nat} {u : List Nat} (h0 : 0 ≤ step) (h9 : step < 9) (hs0 : 0 ≤ spot) (hs1 : spot < bs.length) (hk : k < 3) (hj : j < k) (hu : WK bs step spot c j u) (hu' : WK bs step spot c k u) : False := by
 obtain ⟨v,e,hl,hv⟩ := hu
 obtain ⟨v',e',hl',hv'⟩ := hu'
 by_cases hs : step = 0
 ·have := congrArg List.length (e.symm.trans e')
  rw [List.length_append,List.length_append,List.length_replicate,List.length_replicate,if_pos hs,if_pos hs] at this
  omega
 ·rw [if_neg hs,List.replicate_zero,List.append_nil] at e e'
  obtain ⟨p,rfl⟩ := Int.eq_ofNat_of_zero_le hs0
  have hp : p < bs.length := by omega
  have h1 := hv p hp
  have h2 := hv' p hp
  rw [← e] at h1
  rw [← e',h1] at h2
  have h3 := Option.some.inj h2
  unfold qE at h3
  have ed : decide (V.int (0 + (p : Int)) = V.int ((p : Nat) : Int)) = true := by rw [Int.zero_add]; exact decide_eq_true rfl
  rw [ed] at h3
  simp only [if_true,Int.mul_one] at h3
  generalize bs.getD p 0 = b at h3
  have hjk : (j = 0 ∧ k = 1) ∨ (j = 0 ∧ k = 2) ∨ (j = 1 ∧ k = 2) := by omega
  rcases hjk with ⟨rfl,rfl⟩ | ⟨rfl,rfl⟩ | ⟨rfl,rfl⟩ <;> simp at h3 <;> omega
theorem mul_one (c : Nat) {k : Nat} (hk : k < 3) : Txt.mul (S [c]) (0 + (k : Int)) = S (List.replicate k c) := by
 have : k = 0 ∨ k = 1 ∨ k = 2 := by omega
 rcases this with rfl | rfl | rfl <;> rfl
theorem mN (c : Nat) : Txt.mul (S [c]) 8 = S (List.replicate 8 c) := rfl
section
variable {P : Program} {w : World} {K : PySem.W.Frag} {mg : Str → Option Value} {base : Heap} {f : Addr} {fd : FuncData}
abbrev dE : Stmt := N3 40
theorem Q0 : G0 ["_law_state_here","_law_letters","_law_size","_law_step","_law_base","_law_spot","_law_more","_law_names_here","_law_k","_law_word","_law_place","_law_shift"] ["_law_state_here"] (B6 dE) := ⟨rfl,rfl,rfl,by decide +kernel,rfl,by decide +kernel,by decide +kernel⟩
theorem AV3 : (["_law_k","_law_state_here","_law_step"] : List Str).Nodup := by decide +kernel
def kU : Sp := fun args H Q _=>∃ (st : Addr) (x : Int),args = [.ref st] ∧ H st = some (.lst [.int x]) ∧ ∀ (H' : Hp) (l : Addr) (ns : List Str),DS st H H' → H l = none → H' l = some (.lst (ns.map V.str)) → ns.Nodup → ns.length = 3 → (∀ s ∈ ns,NmOk 6 s) → Q (.ref l) H'
theorem AD7 (F : Fun K "_law_names" "_law_names" dE f fd) (N : Cal P w K mg base 1 "_law_next" ["_law_state_here","_law_many"] Q8) (m1 : mg "range" = none) (m2 : mg "int" = none) : FnOk P w K mg base L9 2 f fd ["_law_state_here"] kU := by
 refine F.ok Q0 (fun vs H Q E h=>?_) (fun cdv A outer s H vs Q E hr h=>?_)
 ·obtain ⟨st,x,rfl,_⟩ := h
  rfl
 obtain ⟨st,x,rfl,hs,q⟩ := h
 refine ⟨_,B5 (G2 (i := 1) Q0.nd rfl (Or.inl rfl) E1)
  (B5 (G2 (i := 2) Q0.nd rfl (Or.inl rfl) (J0 U3 A7 (B8 N hr rfl (A0 (pv 0) (A0 A7 A6)))))
  (B5 (G2 (i := 3) Q0.nd rfl (Or.inr rfl) (B8 N hr rfl (A0 (pv 0) (A0 A7 A6))))
  (B5 (iI (i := 4) (N' := ["_law_k","_law_state_here","_law_step"]) (fr := [none,some 0,some 3]) (own := [0]) ⟨rfl,rfl,rfl,rfl,rfl,rfl,rfl⟩ rfl Q0.nd rfl rfl (X4 rfl m1 (A0 (pv 2) A6))
   (fun _ _ _ _=>G5 (i := 0) AV3 rfl (Or.inl rfl)) (U1 0) (fun _ _ _ _=>R7) (fun _ _ _ _=>J0 Z9 (B8 N hr rfl (A0 (pv 1) (A0 A7 A6))) (O8 aF rfl m2 gO (A0 (J5 bY (J0 X7 (pv 2) A7) A7 (D7 _)) A6))))
  lH))),?_⟩
 have D0 := DS.start hs
 rw [BB4]
 refine ⟨_,rfl,st,x,4,rfl,hs,by decide,fun y1 sz a0 a1=>⟨_,_,rfl,rfl,?_⟩⟩
 have D1 := D0.next y1
 obtain ⟨z,rfl⟩ := Int.eq_ofNat_of_zero_le a0
 refine ⟨_,rfl,st,y1,9,rfl,A5,by decide,fun y2 step b0 b1=>?_⟩
 have D2 := D1.next y2
 have esz : (1 : Int) + (z : Int) = ((1 + z : Nat) : Int) := by omega
 refine ⟨_,rfl,((1 + z : Nat) : Int),by rw [← esz],by omega,by omega,fun lb hlb=>?_⟩
 have hlb0 := D2.old hlb
 refine fC (fun i ys H'=>DS st H H' ∧ H' lb = some (.lst ys) ∧ ∃ bs : List Int,ys = bs.map V.int ∧ bs.length = i) ⟨D2.put hlb0,A5,[],rfl,rfl⟩ (fun i ys H' hi hinv=>?_) (fun ys H' hinv=>?_)
 ·obtain ⟨d,hl,bs,rfl,hbl⟩ := hinv
  obtain ⟨y3,hy3⟩ := d.s
  dsimp only [V0,P6]
  have nlb := d.ne hlb0
  refine aG ⟨_,rfl,st,y3,26,rfl,hy3,by decide,fun y4 r c0 c1=>?_⟩
  refine ⟨_,rfl,_,_,rfl,rfl,(by show (0 : Int) < 3; decide),_,_,rfl,rfl,_,rfl,_,_,rfl,rfl,.inl ⟨by omega,by omega⟩,?_⟩
  exact ⟨by rw [B7 nlb]; exact hl,P0 (by rw [List.length_map]; omega),(d.next y4).put hlb0,A5,bs ++ [_],by rw [List.map_append]; rfl,by simp [hbl]⟩
 obtain ⟨d3,hlb3,bs,rfl,hbl⟩ := hinv
 have hbl : bs.length = 1 + z := by omega
 obtain ⟨y3,hy3⟩ := d3.s
 refine ⟨_,B5 (G2 (i := 5) Q0.nd rfl (Or.inl rfl) (B8 N hr rfl (A0 (pv 0) (A0 (pv 2) A6))))
  (B5 (G2 (i := 6) Q0.nd rfl (Or.inl rfl) (D9 yW (pv 1) (B8 N hr rfl (A0 (pv 0) (A0 A7 A6))) (fun _ _=>rfl)))
  (B5 (G2 (i := 7) Q0.nd rfl (Or.inl rfl) (P8 A6))
  (B5 (R9 PassesOwn.never rfl (X4 rfl m1 (A0 A7 A6)) (G5 (i := 8) Q0.nd rfl (Or.inl rfl))
   (B5 (G2 (i := 9) Q0.nd rfl (Or.inl rfl) E1)
   (B5 (R9 PassesOwn.never rfl (X4 rfl m1 (A0 (pv 2) A6)) (G5 (i := 10) Q0.nd rfl (Or.inl rfl))
    (B5 (G2 (i := 11) Q0.nd rfl (Or.inl rfl) (J0 Z9 (J0 Z9 (pv 3) (pv 8)) (O8 aF rfl m2 gO (A0 (J5 J4 (pv 10) (pv 5) (D7 _)) A6))))
    (A9 (G2 (i := 9) Q0.nd rfl (Or.inl rfl) (J0 aO (pv 9) (D9 yW (pv 1) (J0 X7 (J0 U3 (D9 M7 (pv 4) (pv 10) (fun _ _=>rfl)) (pv 11)) A7) (fun _ _=>rfl)))))))
   lH)))
  (A9 (D8 (pv 7)))))),?_⟩
 refine ⟨_,rfl,_,rfl,st,y3,_,rfl,hy3,by omega,fun y4 spot s0 s1=>?_⟩
 have d4 := d3.next y4
 refine ⟨_,rfl,_,rfl,st,y4,26,rfl,A5,by decide,fun y5 rm e0 e1=>?_⟩
 have d5 := d4.next y5
 refine ⟨_,_,_,rfl,rfl,AJ9 (by decide),AJ7 e0 e1,X8,fun l hl=>?_⟩
 have hl0 := d5.old hl
 have d6 := d5.put (o := .lst []) hl0
 have nlb := d3.ne hlb0
 have hllb : lb ≠ l := fun e=>by rw [← e,B7 nlb,B7 nlb,hlb3] at hl; cases hl
 have hlb6 : upd (upd (upd H' st (.lst [.int y4])) st (.lst [.int y5])) l (.lst []) lb = some (.lst (bs.map V.int)) := by rw [B7 hllb,B7 nlb,B7 nlb]; exact hlb3
 have hl6 : upd (upd (upd H' st (.lst [.int y4])) st (.lst [.int y5])) l (.lst []) l = some (.lst []) := A5
 generalize upd (upd (upd H' st (.lst [.int y4])) st (.lst [.int y5])) l (.lst []) = H6 at d6 hlb6 hl6
 generalize hc : 97 + rm.toNat = c
 have hcz : 97 ≤ c ∧ c ≤ 122 := by omega
 refine ⟨(3 : Int),rfl,by decide,by decide,?_⟩
 refine cF (fun i σ Hx=>∃ (ws : List (List Nat)) (b8 b9 b10 b11 : Option V),σ = [some (.ref st),some (.str (S uF)),some (.int (1 + (z : Int))),some (.int step),some (.ref lb),some (.int spot),some (.str (S [c])),some (.ref l),b8,b9,b10,b11] ∧ DS st H Hx ∧ Hx lb = some (.lst (bs.map V.int)) ∧ Hx l = some (.lst (ws.map fun u=>V.str (S u))) ∧ ws.length = i ∧ ∀ j u,ws[j]? = some u → WK bs step spot c j u)
  ⟨[],none,none,none,none,rfl,d6,hlb6,hl6,rfl,fun j u hu=>by simp at hu⟩ (fun i σ Hx hi hinv=>?_) (fun σ Hx hinv=>?_)
 ·obtain ⟨ws,b8,b9,b10,b11,rfl,d,hlbx,hlx,hwl,hws⟩ := hinv
  refine ⟨_,rfl,((1 + z : Nat) : Int),by rw [← esz],by omega,by omega,?_⟩
  refine cF (fun p σ Hy=>∃ (v : List Nat) (b10 b11 : Option V),σ = [some (.ref st),some (.str (S uF)),some (.int (1 + (z : Int))),some (.int step),some (.ref lb),some (.int spot),some (.str (S [c])),some (.ref l),some (.int (0 + (i : Int))),some (.str (S v)),b10,b11] ∧ Hy = Hx ∧ v.length = p ∧ ∀ p',p' < p → v[p']? = some (qE bs step spot i p'))
   ⟨[],_,_,by show _ = _; rw [BF4]; rfl,rfl,rfl,fun p' hp'=>by omega⟩ (fun p σ Hy hp hinv=>?_) (fun σ Hy hinv=>?_)
  ·obtain ⟨v,c10,c11,rfl,rfl,hvl,hv⟩ := hinv
   have hpb : p < bs.length := by omega
   have hat : Y0 (bs.map V.int) (0 + (p : Int)) = some (.int (bs.getD p 0)) := by
    rw [Int.zero_add]
    refine Q7 ?_
    rw [List.getElem?_map,List.getElem?_eq_getElem hpb,List.getD_eq_getElem?_getD,List.getElem?_eq_getElem hpb]
    rfl
   have m0 := Int.emod_nonneg (bs.getD p 0 + step * (0 + (i : Int)) * (if decide (V.int (0 + (p : Int)) = V.int spot) = true then 1 else 0)) (show (26 : Int) ≠ 0 by decide)
   have m1 := Int.emod_lt_of_pos (bs.getD p 0 + step * (0 + (i : Int)) * (if decide (V.int (0 + (p : Int)) = V.int spot) = true then 1 else 0)) (show (0 : Int) < 26 by decide)
   have small : ∀ b : Bool,-2 ^ 64 < (if b = true then (1 : Int) else 0) ∧ (if b = true then (1 : Int) else 0) < 2 ^ 64 := by decide
   refine ⟨_,rfl,_,rfl,_,_,rfl,rfl,.inl ⟨by omega,by omega⟩,_,rfl,_,rfl,rfl,_,rfl,_,_,rfl,rfl,.inr (small _),?_⟩
   refine ⟨_,rfl,_,rfl,_,rfl,_,rfl,lb,_,_,_,rfl,rfl,SqL.of hlbx,hat,_,rfl,_,_,rfl,rfl,_,_,rfl,rfl,(by show (0 : Int) < 26; decide),_,_,_,rfl,rfl,AJ9 (by decide),AJ7 m0 m1,_,_,rfl,rfl,rH (b := [_]) (by simp; omega),?_⟩
   refine ⟨v ++ [qE bs step spot i p],some (.int (0 + (p : Int))),some (.int (step * (0 + (i : Int)) * (if decide (V.int (0 + (p : Int)) = V.int spot) = true then 1 else 0))),?_,rfl,by simp [hvl],fun p' hp'=>?_⟩
   ·rw [← wB]; rfl
   ·by_cases e : p' < p
    ·rw [List.getElem?_append_left (by omega)]; exact hv p' e
    ·have e' : p' = p := by omega
     subst e'
     rw [List.getElem?_append_right (by omega),hvl,Nat.sub_self]; rfl
  ·obtain ⟨v,c10,c11,rfl,rfl,hvl,hv⟩ := hinv
   refine ⟨_,X3 (G4 (E2 J4 (pv 3) A7 (D7 _)) (A9 (G2 (i := 9) Q0.nd rfl (Or.inl rfl) (J0 aO (pv 9) (J0 jR (pv 6) (pv 8))))) E7)
    (A9 (lI (jP PySem.F.plainAttrs_list PySem.F.slot_list_append PySem.F.type_list_append cB (pv 7) (A0 (pv 9) A6)))),?_⟩
   have hvl' : v.length = bs.length := by omega
   refine ⟨fun σ' H'=>∃ u : List Nat,σ' = [some (.ref st),some (.str (S uF)),some (.int (1 + (z : Int))),some (.int step),some (.ref lb),some (.int spot),some (.str (S [c])),some (.ref l),some (.int (0 + (i : Int))),some (.str (S u)),c10,c11] ∧ H' = Hy ∧ WK bs step spot c i u,?_,?_⟩
   ·refine ⟨_,rfl,rfl,_,rfl,M2 (fun cc=>?_) (fun cc=>?_)⟩
    ·have hst : step = 0 := V.int.inj (of_decide_eq_true cc)
     refine ⟨_,rfl,_,rfl,_,rfl,_,_,rfl,rfl,(by show 1 ≤ 1000; decide),by omega,by omega,?_⟩
     rw [mul_one c hi]
     refine ⟨_,_,rfl,rfl,rH (by rw [List.length_replicate]; omega),v ++ List.replicate i c,?_,rfl,v,by rw [if_pos hst],hvl',fun p' hp'=>hv p' (by omega)⟩
     rw [← wB]; rfl
    ·have hst : step ≠ 0 := fun e=>cc (decide_eq_true (by rw [e]))
     exact ⟨v,rfl,rfl,v,by rw [if_neg hst]; simp,hvl',fun p' hp'=>hv p' (by omega)⟩
   ·rintro σ' H'' ⟨u,rfl,rfl,hu⟩
    refine ⟨_,rfl,.inl ⟨rfl,_,SqL.of hlx⟩,_,rfl,l,_,_,rfl,rfl,hlx,by rw [List.length_map]; exact P0 (by omega),?_⟩
    refine ⟨ws ++ [u],_,_,_,_,rfl,d.put hl0,?_,?_,by simp [hwl],fun j u' hu'=>?_⟩
    ·rw [B7 hllb]; exact hlbx
    ·rw [A5,List.map_append]; rfl
    ·by_cases e : j < ws.length
     ·rw [List.getElem?_append_left e] at hu'; exact hws j u' hu'
     ·have hj := (List.getElem?_eq_some_iff.mp hu').1
      rw [List.length_append,List.length_singleton] at hj
      have e' : j = ws.length := by omega
      subst e'
      rw [List.getElem?_append_right (Nat.le_refl _),Nat.sub_self] at hu'
      cases hu'
      rw [hwl]; exact hu
 ·obtain ⟨ws,b8,b9,b10,b11,rfl,d,hlbx,hlx,hwl,hws⟩ := hinv
  have hwl : ws.length = 3 := hwl
  have hlx' : Hx l = some (.lst ((ws.map S).map V.str)) := by rw [List.map_map]; exact hlx
  refine ⟨_,rfl,q Hx l (ws.map S) d hl0 hlx' ?_ (by rw [List.length_map]; exact hwl) fun s hs=>?_⟩
  ·have nd : ws.Nodup := by
    rw [List.nodup_iff_pairwise_ne,List.pairwise_iff_getElem]
    intro j k hj hk hjk e
    exact AY8 b0 b1 s0 (by omega) (by omega) hjk (hws j _ (List.getElem?_eq_getElem hj)) (by rw [e]; exact hws k _ (List.getElem?_eq_getElem hk))
   exact List.Pairwise.map _ (fun a b n e=>n (BC1 e)) nd
  ·obtain ⟨u,hu,rfl⟩ := List.mem_map.mp hs
   obtain ⟨j,hj⟩ := List.mem_iff_getElem?.mp hu
   obtain ⟨v,e,hvl,hv⟩ := hws j u hj
   have hj3 : j < 3 := by rw [← hwl]; exact (List.getElem?_eq_some_iff.mp hj).1
   refine ⟨u,rfl,fun x hx=>?_,?_⟩
   ·rw [e] at hx
    rcases List.mem_append.mp hx with h | h
    ·obtain ⟨p,hp⟩ := List.mem_iff_getElem?.mp h
     have hpl : p < bs.length := by rw [← hvl]; exact (List.getElem?_eq_some_iff.mp hp).1
     rw [hv p hpl] at hp
     cases hp
     exact AV5 _ _ _ _ _
    ·rw [(List.mem_replicate.mp h).2]; exact hcz
   ·rw [e,List.length_append,List.length_replicate,hvl]
    split <;> omega
end
end Law
namespace Law
open PySem L2 L2.Sp
inductive TrOk : Nat → Tr → Prop
 | any {n : Nat} : TrOk n .any
 | nothing {n : Nat} : TrOk n .nothing
 | sort {n k : Nat} : k < 6 → TrOk n (.sort k)
 | span {n : Nat} {lo hi : En} : TrOk n (.span lo hi)
 | text {n : Nat} {s : Str} : Sg s → TrOk n (.text s)
 | truth {n : Nat} {b : Bool} : TrOk n (.truth b)
 | lst {n : Nat} {ts : List Tr} {m : Bool} : ts.length ≤ 6 → (∀ t ∈ ts,TrOk n t) → TrOk (n + 1) (.lst ts m)
 | rc {n : Nat} {ns : List Str} {ms : List Bool} {ts : List Tr} {m : Bool} : ns.length = ts.length → ms.length = ts.length → ns.length ≤ 9 → ns.Nodup → (∀ s ∈ ns,NmOk 8 s) → (∀ t ∈ ts,TrOk n t) → TrOk (n + 1) (.rc ns ms ts m)
theorem TrOk.td : ∀ {n : Nat} {t : Tr},TrOk n t → TD n t := by
 intro n
 induction n with
 | zero=>intro t h; cases h <;> constructor
 | succ n ih =>
  intro t h
  cases h with
  | lst l hx=>exact .lst fun t ht=>ih (hx t ht)
  | rc l1 l2 l3 nd s hx=>exact .rc fun t ht=>ih (hx t ht)
  | any=>constructor
  | nothing=>constructor
  | sort=>constructor
  | span=>constructor
  | text=>constructor
  | truth=>constructor
theorem TrOk.leaf {n : Nat} {t : Tr} (h : TrOk 0 t) : TrOk n t := by
 cases h with
 | any=>exact .any
 | nothing=>exact .nothing
 | sort k=>exact .sort k
 | span=>exact .span
 | text s=>exact .text s
 | truth=>exact .truth
section
variable {P : Program} {w : World} {K : PySem.W.Frag} {mg : Str → Option Value} {base : Heap} {f : Addr} {fd : FuncData}
abbrev R3 : Stmt := N3 43
theorem fU : G0 ["_law_state_here","_law_way","_law_low","_law_high","_law_ends"] ["_law_state_here"] (B6 R3) := ⟨rfl,rfl,rfl,by decide +kernel,rfl,by decide +kernel,by decide +kernel⟩
def fP (K : PySem.W.Frag) : Sp := fun args H Q _=>∃ (st : Addr) (x : Int),args = [.ref st] ∧ H st = some (.lst [.int x]) ∧ ∀ (H' N : Hp) (t : Tr) (v : V),DS st H H' → TrOk 0 t → TrV K H' N t v → Q v H'
theorem AA1 : ∃ s1 c p a1 a2 a3 a4 s3 s4 s5 s6,E4 R3 = [s1,.If c [a1,a2,a3,a4] [] p,s3,s4,s5,s6] ∧ s1 = W0 (E4 R3) 0 ∧ (∃ u1 u2 u3 k,c = .Compare (.Name "_law_way" u1) [.Lt] [.Constant (.int 2) k u2] u3) ∧ a1 = W0 (zE (W0 (E4 R3) 1)) 0 ∧ a2 = W0 (zE (W0 (E4 R3) 1)) 1 ∧ a3 = W0 (zE (W0 (E4 R3) 1)) 2 ∧ a4 = W0 (zE (W0 (E4 R3) 1)) 3 ∧
  s3 = W0 (E4 R3) 2 ∧ s4 = W0 (E4 R3) 3 ∧ s5 = W0 (E4 R3) 4 ∧ s6 = W0 (E4 R3) 5 := ⟨_,_,_,_,_,_,_,_,_,_,_,rfl,rfl,⟨_,_,_,_,rfl⟩,rfl,rfl,rfl,rfl,rfl,rfl,rfl,rfl⟩
def uP : List V := [.int 5,.int 5,.int 13,.int 130,.int 1300,.int 70000,.int (10 ^ Int.toNat 9)]
theorem AA2 : ∃ es q1 q2 q3 q4 q5 q6 q7 q8 q9 q10 q11 q12 q13 q14 q15 k k2,W0 (zE (W0 (E4 R3) 1)) 1 = .Assign [.Name "_law_high" q1] (.BinOp (.BinOp (.Name "_law_low" q2) .Add (.Call (.Name "_law_next" q3) [.Name "_law_state_here" q4,.Subscript (.List es q5) (.Call (.Name "_law_next" q6) [.Name "_law_state_here" q7,.Constant (.int 7) k q8] [] q9) q10] [] q11) q12) .Sub (.Constant (.int 1) k2 q13) q14) q15 ∧ es.all tQ = true ∧ es.map cV = uP :=
 ⟨_,_,_,_,_,_,_,_,_,_,_,_,_,_,_,_,_,_,rfl,rfl,rfl⟩
theorem AA0 : ∃ es q1 q2 q3 q4 q5 q6 q7 q8 q9 q10 q11 q12 q13 k k2 k3 k4,W0 (E4 R3) 3 = .If (.Compare (.Name "_law_way" q1) [.Eq] [.Constant (.int 3) k q2] q3) [.Return (some (.Tuple [.Constant (.str "sort") k2 q4,.Subscript (.List es q5) (.Call (.Name "_law_next" q6) [.Name "_law_state_here" q7,.Constant (.int 6) k3 q8] [] q9) q10] k4 q11)) q12] [] q13 ∧ es.all tQ = true ∧ es.map cV = P3.map V.str :=
 ⟨_,_,_,_,_,_,_,_,_,_,_,_,_,_,_,_,_,_,rfl,rfl,rfl⟩
theorem AO0 (F : Fun K "_law_leaf" "_law_leaf" R3 f fd) (N : Cal P w K mg base 1 "_law_next" ["_law_state_here","_law_many"] Q8) (NO : Cal P w K mg base 2 "_law_number" ["_law_state_here"] fO) (TX : Cal P w K mg base 2 "_law_text" ["_law_state_here"] cW) : FnOk P w K mg base L9 3 f fd ["_law_state_here"] (fP K) := by
 refine F.ok fU (fun vs H Q E h=>?_) (fun cdv A outer s H vs Q E hr h=>?_)
 ·obtain ⟨st,x,rfl,_⟩ := h
  rfl
 obtain ⟨st,x,rfl,hs,q⟩ := h
 have hr1 := hr.mono (show 1 ≤ 2 by decide)
 obtain ⟨s1,cc,p,a1,a2,a3,a4,s3,s4,s5,s6,hb,e1,⟨u1,u2,u3,kk,ec⟩,f1,f2,f3,f4,e3,e4,e5,e6⟩ := AA1
 rw [hb]
 subst ec
 refine ⟨_,B5 V5 (B5 (G4 (E2 Z3 (pv 1) A7 (D7 _)) (B5 V5 (B5 V5 (B5 V5 (A9 V5)))) E7) (B5 V5 (B5 V5 (B5 V5 (A9 V5))))),?_⟩
 have D0 := DS.start hs
 subst e1
 refine ⟨_,G2 (i := 1) fU.nd rfl (Or.inl rfl) (B8 N hr1 rfl (A0 (pv 0) (A0 A7 A6))),?_⟩
 refine ⟨_,rfl,st,x,6,rfl,hs,by decide,fun y way a0 a1=>?_⟩
 have D1 := D0.next y
 refine ⟨_,rfl,_,_,rfl,rfl,_,rfl,M2 (fun _=>?_) (fun _=>?_)⟩
 ·subst f1
  refine ⟨_,G2 (i := 2) fU.nd rfl (Or.inl rfl) (B8 NO hr rfl (A0 (pv 0) A6)),?_⟩
  refine ⟨_,rfl,st,y,rfl,A5,fun H2 low d2=>?_⟩
  have D2 := D1.more d2
  obtain ⟨y2,hy2⟩ := D2.s
  subst f2
  obtain ⟨es,q1,q2,q3,q4,q5,q6,q7,q8,q9,q10,q11,q12,q13,q14,q15,k1,k2,hh,hes,hem⟩ := AA2
  rw [hh]
  refine ⟨_,G2 (i := 3) fU.nd rfl (Or.inl rfl) (J0 bF (J0 U3 (pv 2) (B8 N hr1 rfl (A0 (pv 0) (A0 (D9 M7 (P8 (oE hes)) (B8 N hr1 rfl (A0 (pv 0) (A0 A7 A6))) (fun _ _=>rfl)) A6)))) A7),?_⟩
  refine ⟨_,rfl,_,rfl,?_⟩
  dsimp only [N5,U8,uU,tCs]
  rw [hem]
  refine ⟨(by show 7 ≤ sizeLine; decide),fun l hl=>?_⟩
  have kl := A8 hl (.lst uP)
  have D3 := D2.same kl
  have nl := D3.ne (D2.old hl)
  refine ⟨_,rfl,st,y2,7,rfl,kl _ _ hy2,by decide,fun y3 r b0 b1=>?_⟩
  have D4 := D3.next y3
  obtain ⟨e,he,hpos⟩ : ∃ e : Int,Y0 uP r = some (.int e) ∧ 0 < e := by
   have : r = 0 ∨ r = 1 ∨ r = 2 ∨ r = 3 ∨ r = 4 ∨ r = 5 ∨ r = 6 := by omega
   rcases this with h | h | h | h | h | h | h <;> rw [h] <;> exact ⟨_,rfl,by decide⟩
  refine ⟨l,_,_,.int e,rfl,rfl,SqL.of (by rw [B7 nl]; exact A5),he,st,y3,e,rfl,A5,hpos,fun y4 r2 c0 c1=>?_⟩
  have D5 := D4.next y4
  refine ⟨_,_,rfl,rfl,_,_,rfl,rfl,?_⟩
  subst f3
  refine ⟨_,G2 (i := 4) fU.nd rfl (Or.inl rfl) (D9 M7 (P8 (A0 (G1 (A0 fZ (A0 (pv 3) A6))) (A0 (G1 (A0 (pv 2) (A0 fZ A6))) (A0 (G1 (A0 (pv 2) (A0 (pv 2) A6))) (A0 (G1 (A0 (pv 2) (A0 (pv 3) A6))) A6))))) (B8 N hr1 rfl (A0 (pv 0) (A0 A7 A6))) (fun _ _=>rfl)),?_⟩
  obtain ⟨y5,hy5⟩ := D5.s
  generalize upd (upd (upd H2 l _) st _) st _ = H5 at D5 hy5
  refine ⟨_,rfl,M0,fun p1 hp1=>⟨_,rfl,M0,fun p2 hp2=>⟨_,rfl,_,rfl,M0,fun p3 hp3=>⟨_,rfl,_,rfl,M0,fun p4 hp4=>⟨AE8,fun l2 hl2=>?_⟩⟩⟩⟩⟩
  have k1 := A8 hp1 (.tup [.non,.int (low + r2 - 1)])
  have k2 := A8 hp2 (.tup [.int low,.non])
  have k3 := A8 hp3 (.tup [.int low,.int low])
  have k4 := A8 hp4 (.tup [.int low,.int (low + r2 - 1)])
  have k5 := A8 hl2 (.lst [.ref p1,.ref p2,.ref p3,.ref p4])
  have D6 := D5.same (k1.trans (k2.trans (k3.trans (k4.trans k5))))
  have e1 := k5 _ _ (k4 _ _ (k3 _ _ (k2 _ _ (A5 (H := H5) (a := p1) (o := .tup [.non,.int (low + r2 - 1)])))))
  have e2 := k5 _ _ (k4 _ _ (k3 _ _ (A5 (H := upd H5 p1 (.tup [.non,.int (low + r2 - 1)])) (a := p2) (o := .tup [.int low,.non]))))
  have e3 := k5 _ _ (k4 _ _ (A5 (a := p3) (o := .tup [.int low,.int low])))
  have e4 := k5 _ _ (A5 (a := p4) (o := .tup [.int low,.int (low + r2 - 1)]))
  have hl2' : upd (upd (upd (upd (upd H5 p1 (.tup [.non,.int (low + r2 - 1)])) p2 (.tup [.int low,.non])) p3 (.tup [.int low,.int low])) p4 (.tup [.int low,.int (low + r2 - 1)])) l2 (.lst [.ref p1,.ref p2,.ref p3,.ref p4]) l2 = some (.lst [.ref p1,.ref p2,.ref p3,.ref p4]) := A5
  generalize upd (upd (upd (upd (upd H5 p1 (.tup [.non,.int (low + r2 - 1)])) p2 (.tup [.int low,.non])) p3 (.tup [.int low,.int low])) p4 (.tup [.int low,.int (low + r2 - 1)])) l2 (.lst [.ref p1,.ref p2,.ref p3,.ref p4]) = H6 at D6 e1 e2 e3 e4 hl2'
  obtain ⟨y6,hy6⟩ := D6.s
  refine ⟨_,rfl,st,y6,4,rfl,hy6,by decide,fun y7 r7 f0 f1=>?_⟩
  have kf : KF K H6 (upd H6 st (.lst [.int y7])) := KF.lst hy6
  have nl2 : l2 ≠ st := fun e=>by rw [e,hy6] at hl2'; cases hl2'
  obtain ⟨pp,lo,hi,hpp,hq,hne⟩ : ∃ pp lo hi,Y0 [V.ref p1,.ref p2,.ref p3,.ref p4] r7 = some (.ref pp) ∧ SqT K (upd H6 st (.lst [.int y7])) pp [oV lo,oV hi] ∧ ¬ (lo = none ∧ hi = none) := by
   have : r7 = 0 ∨ r7 = 1 ∨ r7 = 2 ∨ r7 = 3 := by omega
   rcases this with h | h | h | h <;> rw [h]
   ·exact ⟨p1,none,some (low + r2 - 1),rfl,kf.t _ _ (SqT.of e1),by simp⟩
   ·exact ⟨p2,some low,none,rfl,kf.t _ _ (SqT.of e2),by simp⟩
   ·exact ⟨p3,some low,some low,rfl,kf.t _ _ (SqT.of e3),by simp⟩
   ·exact ⟨p4,some low,some (low + r2 - 1),rfl,kf.t _ _ (SqT.of e4),by simp⟩
  refine ⟨l2,_,_,.ref pp,rfl,rfl,SqL.of (by rw [B7 nl2]; exact hl2'),hpp,?_⟩
  subst f4
  refine ⟨_,D8 (G1 (A0 E1 (A0 (D9 E8 (pv 4) A7 (fun _ _=>rfl)) (A0 (D9 E8 (pv 4) A7 (fun _ _=>rfl)) A6)))),?_⟩
  refine ⟨_,rfl,pp,_,_,_,rfl,rfl,hq,rfl,_,rfl,pp,_,_,_,rfl,rfl,hq,rfl,N4,fun p5 hp5=>?_⟩
  refine q _ H (.span lo hi) _ ((D6.next y7).same (A8 hp5 _)) .span ?_
  simp only [TrV]
  exact ⟨p5,rfl,SqT.of A5,hne⟩
 ·subst e3
  refine ⟨_,G4 (E2 J4 (pv 1) A7 (D7 _)) (A9 (D8 (G1 (A0 E1 (A0 (B8 TX hr rfl (A0 (pv 0) A6)) A6))))) E7,?_⟩
  refine ⟨_,rfl,rfl,_,rfl,M2 (fun _=>?_) (fun _=>?_)⟩
  ·refine ⟨_,rfl,st,y,rfl,A5,fun H2 t d2 ht=>⟨M0,fun p hp=>?_⟩⟩
   refine q _ H (.text t) _ ((D1.more d2).same (A8 hp _)) (.text ht) ?_
   simp only [TrV]
   exact ⟨p,rfl,SqT.of A5⟩
  subst e4
  obtain ⟨es,q1,q2,q3,q4,q5,q6,q7,q8,q9,q10,q11,q12,q13,k1,k2,k3,k4,hh,hes,hem⟩ := AA0
  rw [hh]
  refine ⟨_,G4 (E2 J4 (pv 1) A7 (D7 _)) (A9 (D8 (G1 (A0 E1 (A0 (D9 M7 (P8 (oE hes)) (B8 N hr1 rfl (A0 (pv 0) (A0 A7 A6))) (fun _ _=>rfl)) A6))))) E7,?_⟩
  refine ⟨_,rfl,rfl,_,rfl,M2 (fun _=>?_) (fun _=>?_)⟩
  ·dsimp only [dW,fM,N5,tC,U8,uU,tCs]
   rw [hem]
   refine ⟨by show 6 ≤ sizeLine; decide,fun l hl=>?_⟩
   have k1 := A8 hl (.lst (P3.map V.str))
   have D2 := D1.same k1
   have nl := D2.ne (D1.old hl)
   refine ⟨_,rfl,st,y,6,rfl,k1 _ _ A5,by decide,fun y3 r b0 b1=>?_⟩
   obtain ⟨k,rfl⟩ := Int.eq_ofNat_of_zero_le b0
   have hk : k < P3.length := by show k < 6; omega
   refine ⟨l,P3.map V.str,_,.str P3[k],rfl,rfl,SqL.of (by rw [B7 nl]; exact A5),Q7 (by rw [List.getElem?_map,List.getElem?_eq_getElem hk]; rfl),M0,fun p hp=>?_⟩
   refine q _ H (.sort k) _ ((D2.next y3).same (A8 hp _)) (.sort hk) ?_
   simp only [TrV]
   exact ⟨p,_,rfl,List.getElem?_eq_getElem hk,SqT.of A5⟩
  subst e5
  refine ⟨_,G4 (E2 J4 (pv 1) A7 (D7 _)) (A9 (D8 (G1 (A0 E1 (A0 (J5 J4 (B8 N hr1 rfl (A0 (pv 0) (A0 A7 A6))) A7 (D7 _)) A6))))) E7,?_⟩
  refine ⟨_,rfl,rfl,_,rfl,M2 (fun _=>?_) (fun _=>?_)⟩
  ·refine ⟨_,rfl,st,y,2,rfl,A5,by decide,fun y3 r b0 b1=>⟨rfl,M0,fun p hp=>?_⟩⟩
   refine q _ H (.truth (decide (V.int r = V.int 0))) _ ((D1.next y3).same (A8 hp _)) .truth ?_
   simp only [TrV]
   exact ⟨p,rfl,SqT.of A5⟩
  ·subst e6
   refine ⟨_,D8 (D9 M7 (P8 (A0 (G1 (A0 E1 A6)) (A0 (G1 (A0 E1 A6)) (A0 (G1 (A0 E1 (A0 E1 A6))) A6)))) (B8 N hr1 rfl (A0 (pv 0) (A0 A7 A6))) (fun _ _=>rfl)),?_⟩
   refine ⟨X2,fun p1 hp1=>⟨X2,fun p2 hp2=>⟨M0,fun p3 hp3=>⟨N4,fun l hl=>?_⟩⟩⟩⟩
   have k1 := A8 hp1 (.tup [.str (Str.ofString "any")])
   have k2 := A8 hp2 (.tup [.str (Str.ofString "nothing")])
   have k3 := A8 hp3 (.tup [.str (Str.ofString "sort"),.str (Str.ofString "none")])
   have k4 := A8 hl (.lst [.ref p1,.ref p2,.ref p3])
   have D2 := D1.same (k1.trans (k2.trans (k3.trans k4)))
   have e1 := k4 _ _ (k3 _ _ (k2 _ _ (A5 (a := p1) (o := .tup [.str (Str.ofString "any")]))))
   have e2 := k4 _ _ (k3 _ _ (A5 (a := p2) (o := .tup [.str (Str.ofString "nothing")])))
   have e3 := k4 _ _ (A5 (a := p3) (o := .tup [.str (Str.ofString "sort"),.str (Str.ofString "none")]))
   have hl2 : upd (upd (upd (upd (upd H st (.lst [.int y])) p1 (.tup [.str (Str.ofString "any")])) p2 (.tup [.str (Str.ofString "nothing")])) p3 (.tup [.str (Str.ofString "sort"),.str (Str.ofString "none")])) l (.lst [.ref p1,.ref p2,.ref p3]) l = some (.lst [.ref p1,.ref p2,.ref p3]) := A5
   generalize upd (upd (upd (upd (upd H st (.lst [.int y])) p1 (.tup [.str (Str.ofString "any")])) p2 (.tup [.str (Str.ofString "nothing")])) p3 (.tup [.str (Str.ofString "sort"),.str (Str.ofString "none")])) l (.lst [.ref p1,.ref p2,.ref p3]) = H6 at D2 e1 e2 e3 hl2
   obtain ⟨y6,hy6⟩ := D2.s
   refine ⟨_,rfl,st,y6,3,rfl,hy6,by decide,fun y7 r7 f0 f1=>?_⟩
   have kf : KF K H6 (upd H6 st (.lst [.int y7])) := KF.lst hy6
   have nl2 : l ≠ st := fun e=>by rw [e,hy6] at hl2; cases hl2
   have hL : SqL K (upd H6 st (.lst [.int y7])) l [.ref p1,.ref p2,.ref p3] := SqL.of (by rw [B7 nl2]; exact hl2)
   have : r7 = 0 ∨ r7 = 1 ∨ r7 = 2 := by omega
   rcases this with h | h | h
   ·subst h
    refine ⟨l,_,_,.ref p1,rfl,rfl,hL,rfl,q _ H .any _ (D2.next y7) .any ?_⟩
    simp only [TrV]
    exact ⟨p1,rfl,kf.t _ _ (SqT.of e1)⟩
   ·subst h
    refine ⟨l,_,_,.ref p2,rfl,rfl,hL,rfl,q _ H .nothing _ (D2.next y7) .nothing ?_⟩
    simp only [TrV]
    exact ⟨p2,rfl,kf.t _ _ (SqT.of e2)⟩
   ·subst h
    refine ⟨l,_,_,.ref p3,rfl,rfl,hL,rfl,q _ H (.sort 0) _ (D2.next y7) (.sort (by decide)) ?_⟩
    simp only [TrV]
    exact ⟨p3,_,rfl,rfl,kf.t _ _ (SqT.of e3)⟩
end
end Law
namespace Law
open PySem L2 L2.Sp
def Dom (H1 H : Hp) : Prop := ∀ a,H a = none → H1 a = none
section
variable {H0 H1 H H' : Hp} {st l : Addr} {o : HO}
theorem Dom.refl : Dom H H := fun _ h=>h
theorem Dom.ds (d : Dom H1 H) (g : DS st H H') : Dom H1 H' := fun a h=>d a (g.old h)
theorem Dom.upd (d : Dom H1 H) : Dom H1 (upd H l o) := fun a h=>d a (by
 unfold L2.upd at h
 split at h
 ·cases h
 ·exact h)
end
section
variable {P : Program} {w : World} {K : PySem.W.Frag} {mg : Str → Option Value} {base : Heap} {f : Addr} {fd : FuncData}
theorem AL2 {ns : List Str} : ∀ y ∈ ns.map V.str,∀ i : Int,y ≠ .int i := fun y hy i e=>by
 obtain ⟨s,_,rfl⟩ := List.mem_map.mp hy
 cases e
theorem eT {H : Hp} {st l : Addr} {x : Int} {ns : List Str} (hs : H st = some (.lst [.int x])) (h : H l = some (.lst (ns.map V.str))) : l ≠ st := fun e=>by
 rw [e,hs] at h
 have h := HO.lst.inj (Option.some.inj h)
 cases ns with
 | nil=>cases h
 | cons a r =>
  rw [List.map_cons] at h
  cases (List.cons.inj h).1
def dX (K : PySem.W.Frag) (n : Nat) : Sp := fun args H Q _=>∃ (st nl : Addr) (x : Int) (ns : List Str),args = [.ref st,.ref nl,.int (n : Int)] ∧ H st = some (.lst [.int x]) ∧ H nl = some (.lst (ns.map V.str)) ∧ jG ns ∧ ∀ (H' : Hp) (t : Tr) (v : V),DS st H H' → TrOk n t → TrV K H' H t v → Q v H'
abbrev bS : Stmt := N3 44
theorem jM : G0 ["_law_state_here","_law_names_here","_law_deep","_law_fields","_law_name"] ["_law_state_here","_law_names_here","_law_deep"] (B6 bS) := ⟨rfl,rfl,rfl,by decide +kernel,rfl,by decide +kernel,by decide +kernel⟩
theorem AN6 {k n : Nat} (F : Fun K "_law_record" "_law_record" bS f fd) (TR : Cal P w K mg base k "_law_tree" ["_law_state_here","_law_names_here","_law_deep"] (dX K n)) (N : Cal P w K mg base 1 "_law_next" ["_law_state_here","_law_many"] Q8) (hk : 1 ≤ k) (hn : n ≤ 1) : FnOk P w K mg base L9 (k + 1) f fd ["_law_state_here","_law_names_here","_law_deep"] (dX K (n + 1)) := by
 refine F.ok jM (fun vs H Q E h=>?_) (fun cdv A outer s H vs Q E hr h=>?_)
 ·obtain ⟨st,nl,x,ns,rfl,_⟩ := h
  rfl
 obtain ⟨st,nl,x,ns,rfl,hs,hnl,hns,q⟩ := h
 have hr1 := hr.mono hk
 refine ⟨_,B5 (G2 (i := 3) jM.nd rfl (Or.inl rfl) (P8 A6))
  (B5 (R9 PassesOwn.never rfl (U5 (bD sI (pv 1) dG (dF (D9 M7 (P8 (A0 A7 (A0 A7 (A0 A7 A6)))) (pv 2) (fun _ _=>rfl))))) (G5 (i := 4) jM.nd rfl (Or.inl rfl))
   (A9 (G4 (E2 bY (B8 N hr1 rfl (A0 (pv 0) (A0 A7 A6))) A7 (D7 _))
    (A9 (lI (jP PySem.F.plainAttrs_list PySem.F.slot_list_append PySem.F.type_list_append cB (pv 3) (A0 (G1 (A0 (pv 4) (A0 (B8 TR hr rfl (A0 (pv 0) (A0 (pv 1) (A0 (J0 bF (pv 2) A7) A6)))) (A0 (J5 bY (B8 N hr1 rfl (A0 (pv 0) (A0 A7 A6))) A7 (D7 _)) A6)))) A6)))) E7)))
  (A9 (D8 (G1 (A0 E1 (A0 (pv 3) (A0 (J5 J4 (B8 N hr1 rfl (A0 (pv 0) (A0 A7 A6))) A7 (D7 _)) A6))))))),?_⟩
 have D0 := DS.start hs
 refine ⟨X8,fun lf hlf=>?_⟩
 have k1 := A8 hlf (.lst [])
 have D1 := D0.put (o := .lst []) hlf
 refine ⟨_,rfl,N4,fun lc hlc=>?_⟩
 have k2 := A8 hlc (.lst [.int 0,.int 9,.int 2])
 have D2 := D1.same k2
 obtain ⟨e,he,e9⟩ : ∃ e : Nat,Y0 [V.int 0,.int 9,.int 2] ((n + 1 : Nat) : Int) = some (.int (e : Int)) ∧ e ≤ 9 := by
  have : n = 0 ∨ n = 1 := by omega
  rcases this with rfl | rfl
  ·exact ⟨9,rfl,by decide⟩
  ·exact ⟨2,rfl,by decide⟩
 refine ⟨_,rfl,lc,_,_,.int (e : Int),rfl,rfl,SqL.of A5,he,_,rfl,nl,_,rfl,SqL.of (k2 _ _ (k1 _ _ hnl)),fun lp hlp=>?_⟩
 rw [zR]
 have k3 := A8 hlp (.lst ((ns.take e).map V.str))
 have D3 := D2.same k3
 have hlf3 := k3 _ _ (k2 _ _ (A5 (H := H) (a := lf) (o := .lst [])))
 have hlp3 : upd (upd (upd H lf (.lst [])) lc (.lst [.int 0,.int 9,.int 2])) lp (.lst ((ns.take e).map V.str)) lp = some (.lst ((ns.take e).map V.str)) := A5
 have hnl3 := k3 _ _ (k2 _ _ (k1 _ _ hnl))
 have dom3 : Dom (upd H lf (.lst [])) (upd (upd (upd H lf (.lst [])) lc (.lst [.int 0,.int 9,.int 2])) lp (.lst ((ns.take e).map V.str))) := Dom.refl.upd.upd
 generalize upd (upd (upd H lf (.lst [])) lc (.lst [.int 0,.int 9,.int 2])) lp (.lst ((ns.take e).map V.str)) = H3 at D3 hlf3 hlp3 hnl3 dom3
 have nlf : lf ≠ st := D0.ne hlf
 have nlplf : lp ≠ lf := fun z=>by rw [z,k2 _ _ A5] at hlp; cases hlp
 have nnl : nl ≠ lf := fun z=>by rw [z,hlf] at hnl; cases hnl
 refine ⟨lp,rfl,⟨_,SqL.of hlp3⟩,?_⟩
 refine Y9 (xs := (ns.take e).map V.str) (fun i σ Hx=>∃ (b4 : Option V) (zs : List V) (fn : List Str) (ms : List Bool) (ts : List Tr),σ = [some (.ref st),some (.ref nl),some (.int ((n + 1 : Nat) : Int)),some (.ref lf),b4] ∧ DS st H Hx ∧ Dom (upd H lf (.lst [])) Hx ∧ Hx lf = some (.lst zs) ∧ Hx lp = some (.lst ((ns.take e).map V.str)) ∧ Hx nl = some (.lst (ns.map V.str)) ∧ TrFs K Hx (upd H lf (.lst [])) fn ms ts zs ∧ fn.Sublist ((ns.take e).take i) ∧ ∀ t ∈ ts,TrOk n t)
  ⟨none,[],[],[],[],rfl,D3,dom3,hlf3,hlp3,hnl3,by simp only [TrFs],List.Sublist.refl _,fun t ht=>(by cases ht)⟩ (fun i σ Hx _ ⟨_,_,_,_,_,_,_,_,_,h,_⟩=>SqL.of h) (fun i y σ Hx hy hinv=>?_) (fun σ Hx hinv=>?_)
 ·obtain ⟨b4,zs,fn,ms,ts,rfl,d,dom,hlfx,hlpx,hnlx,hF,hsub,hts⟩ := hinv
  obtain ⟨nm,hnm,rfl⟩ : ∃ nm,(ns.take e)[i]? = some nm ∧ y = .str nm := by
   rw [List.getElem?_map] at hy
   cases z : (ns.take e)[i]? with
   | none=>rw [z] at hy; cases hy
   | some nm=>rw [z] at hy; cases hy; exact ⟨nm,rfl,rfl⟩
  have ni : i < 9 := by have := (List.getElem?_eq_some_iff.mp hnm).1; rw [List.length_take] at this; omega
  obtain ⟨y1,hy1⟩ := d.s
  refine ⟨_,rfl,st,y1,3,rfl,hy1,by decide,fun y2 r a0 a1=>⟨_,_,rfl,rfl,_,rfl,M2 (fun _=>?_) (fun _=>?_)⟩⟩
  ·have d2 := d.next y2
   have ds2 : DS st Hx (upd Hx st (.lst [.int y2])) := (DS.start hy1).next y2
   have nlp : lp ≠ st := eT hy1 hlpx
   have nns : nl ≠ st := eT hs hnl
   refine ⟨_,rfl,.inl ⟨rfl,_,SqL.of (by rw [B7 nlf]; exact hlfx)⟩,_,rfl,_,rfl,_,rfl,_,rfl,_,_,rfl,rfl,?_⟩
   refine ⟨st,nl,y2,ns,by show [V.ref st,V.ref nl,V.int (((n + 1 : Nat) : Int) - 1)] = _; rw [show ((n + 1 : Nat) : Int) - 1 = (n : Int) by omega],A5,by rw [B7 nns]; exact hnlx,hns,fun H4 t v d4 ht hv=>?_⟩
   have d24 := d2.more d4
   have dx4 : DS st Hx H4 := ds2.more d4
   obtain ⟨y4,hy4⟩ := d24.s
   refine ⟨_,rfl,st,y4,3,rfl,hy4,by decide,fun y5 r2 b0 b1=>⟨_,_,rfl,rfl,N4,fun p hp=>?_⟩⟩
   have dx5 := dx4.next y5
   have kp := A8 hp (.tup [.str nm,v,.bl (decide (0 < r2))])
   have dx6 := dx5.same kp
   have d6 := d.more dx6
   have hlf6 := dx6.g _ _ nlf hlfx
   refine ⟨lf,zs,_,rfl,rfl,hlf6,P0 ?_,?_⟩
   ·have := hF.length.1
    have := hsub.length_le
    rw [List.length_take] at this
    omega
   have dom4 : Dom (upd H lf (.lst [])) (upd Hx st (.lst [.int y2])) := dom.upd
   have hn1 : (upd H lf (.lst [])) lf ≠ none := by rw [A5]; intro z; cases z
   have npl : p ≠ lf := fun z=>by rw [z] at hp; rw [dx5.g _ _ nlf hlfx] at hp; cases hp
   have hv5 : TrV K _ (upd H lf (.lst [])) t v := (TrV.kt ((DS.start hy4).next y5).kt hv).base dom4
   have hv6 := (TrV.kt (KT.same kp) hv5).put (o := .lst (zs ++ [.ref p])) hlf6 hn1
   refine ⟨_,zs ++ [.ref p],fn ++ [nm],ms ++ [decide (0 < r2)],ts ++ [t],rfl,d6.put hlf,(dom.ds dx6).upd,A5,?_,?_,?_,?_,fun t' ht'=>?_⟩
   ·rw [B7 nlplf]; exact dx6.g _ _ nlp hlpx
   ·rw [B7 nnl]; exact dx6.g _ _ nns hnlx
   ·exact ((hF.kt dx6.kt).put hlf6 hn1).snoc (SqT.of (by rw [B7 npl]; exact A5)) hv6
   ·rw [M5 hnm]; exact hsub.append (List.Sublist.refl _)
   ·rcases List.mem_append.mp ht' with z | z
    ·exact hts t' z
    ·rw [List.mem_singleton.mp z]; exact ht
  ·have dx : DS st Hx (upd Hx st (.lst [.int y2])) := (DS.start hy1).next y2
   have kl : ∀ {l : Addr} {xs : List Str},Hx l = some (.lst (xs.map V.str)) → upd Hx st (.lst [.int y2]) l = some (.lst (xs.map V.str)) := fun {l xs} h=>(dx.kt (K := K)).l _ _ AL2 h
   exact ⟨_,zs,fn,ms,ts,rfl,d.next y2,dom.upd,by rw [B7 nlf]; exact hlfx,kl hlpx,kl hnlx,hF.kt dx.kt,hsub.trans (by rw [M5 hnm]; exact List.sublist_append_left _ _),hts⟩
 ·obtain ⟨b4,zs,fn,ms,ts,rfl,d,dom,hlfx,hlpx,hnlx,hF,hsub,hts⟩ := hinv
  obtain ⟨y1,hy1⟩ := d.s
  refine ⟨_,rfl,_,rfl,st,y1,2,rfl,hy1,by decide,fun y2 r a0 a1=>⟨rfl,N4,fun p hp=>?_⟩⟩
  have dx : DS st Hx (upd Hx st (.lst [.int y2])) := (DS.start hy1).next y2
  have kp := A8 hp (.tup [.str (Str.ofString "record"),.ref lf,.bl (decide (V.int r = V.int 1))])
  have dx2 := dx.same kp
  have hsub2 : fn.Sublist ns := hsub.trans ((List.take_sublist _ _).trans (List.take_sublist _ _))
  have hle := hF.length
  refine q _ (.rc fn ms ts (decide (V.int r = V.int 1))) _ (d.more dx2) (.rc (by omega) (by omega) ?_ (hsub2.nodup hns.nd) (fun s hs=>hns.ok s (hsub2.subset hs)) hts) ?_
  ·have := hsub.length_le
   rw [List.length_take,List.length_take] at this
   omega
  ·simp only [TrV]
   exact ⟨p,lf,zs,rfl,SqT.of A5,dx2.g _ _ nlf hlfx,hlf,(hF.kt dx2.kt).base fun a h=>by
    unfold L2.upd at h
    split at h
    ·cases h
    ·exact h⟩
abbrev bR : Stmt := N3 45
theorem fT : G0 ["_law_state_here","_law_names_here","_law_deep","_law_way","_law_many","_law_items"] ["_law_state_here","_law_names_here","_law_deep"] (B6 bR) := ⟨rfl,rfl,rfl,by decide +kernel,rfl,by decide +kernel,by decide +kernel⟩
theorem tK : (["_law_k","_law_state_here","_law_names_here","_law_deep"] : List Str).Nodup := by decide +kernel
theorem tE {k n : Nat} {sp spr : Sp} (F : Fun K "_law_tree" "_law_tree" bR f fd) (TR : Cal P w K mg base k "_law_tree" ["_law_state_here","_law_names_here","_law_deep"] sp) (RC : Cal P w K mg base k "_law_record" ["_law_state_here","_law_names_here","_law_deep"] spr) (hsp : ∀ n',n = n' + 1 → sp = dX K n' ∧ spr = dX K n) (N : Cal P w K mg base 1 "_law_next" ["_law_state_here","_law_many"] Q8) (LF : Cal P w K mg base 3 "_law_leaf" ["_law_state_here"] (fP K)) (m1 : mg "range" = none) (m2 : mg "int" = none) (m3 : mg "len" = none) (hk : 3 ≤ k) :
  FnOk P w K mg base L9 (k + 1) f fd ["_law_state_here","_law_names_here","_law_deep"] (dX K n) := by
 refine F.ok fT (fun vs H Q E h=>?_) (fun cdv A outer s H vs Q E hr h=>?_)
 ·obtain ⟨st,nl,x,ns,rfl,_⟩ := h
  rfl
 obtain ⟨st,nl,x,ns,rfl,hs,hnl,hns,q⟩ := h
 have hr1 := hr.mono (show 1 ≤ k by omega)
 have hr3 := hr.mono hk
 refine ⟨_,B5 (G2 (i := 3) fT.nd rfl (Or.inl rfl) (B8 N hr1 rfl (A0 (pv 0) (A0 A7 A6))))
  (B5 (G4 (PW.pt (aN (E2 J4 (pv 2) A7 (D7 _)) (X6 (E2 Z3 (pv 3) A7 (D7 _))))) (A9 (D8 (B8 LF hr3 rfl (A0 (pv 0) A6)))) E7)
  (B5 (G4 (E2 Z3 (pv 3) A7 (D7 _))
   (B5 (G2 (i := 4) fT.nd rfl (Or.inl rfl) (J0 U3 A7 (J0 Z9 A7 (O8 aF rfl m2 gO (A0 (J5 bY (K6 M6 rfl m3 PySem.boot_len (A0 (pv 1) A6)) A7 (D7 _)) A6)))))
   (B5 (iI (i := 5) (N' := ["_law_k","_law_state_here","_law_names_here","_law_deep"]) (fr := [none,some 0,some 1,some 2]) (own := [0]) ⟨rfl,rfl,rfl,rfl,rfl,rfl,rfl⟩ rfl fT.nd rfl rfl (X4 rfl m1 (A0 (B8 N hr1 rfl (A0 (pv 0) (A0 (pv 4) A6))) A6))
    (fun _ _ _ _=>G5 (i := 0) tK rfl (Or.inl rfl)) (U1 0) (fun _ _ _ _=>R7) (fun _ _ _ _=>B8 TR hr rfl (A0 (pv 1) (A0 (pv 2) (A0 (J0 bF (pv 3) A7) A6)))))
   (A9 (D8 (G1 (A0 E1 (A0 (pv 5) (A0 (J5 J4 (B8 N hr1 rfl (A0 (pv 0) (A0 A7 A6))) A7 (D7 _)) A6)))))))) E7)
  (A9 (D8 (B8 RC hr rfl (A0 (pv 0) (A0 (pv 1) (A0 (pv 2) A6)))))))),?_⟩
 have D0 := DS.start hs
 have nns : nl ≠ st := eT hs hnl
 refine ⟨_,rfl,st,x,8,rfl,hs,by decide,fun y way a0 a1=>?_⟩
 have D1 := D0.next y
 have leaf : ∀ (H' N : Hp) (t : Tr) (v : V),DS st (upd H st (.lst [.int y])) H' → TrOk 0 t → TrV K H' N t v → Q v H' ∨ True := fun _ _ _ _ _ _ _=>.inr trivial
 clear leaf
 have lf : fP K [.ref st] (upd H st (.lst [.int y])) Q E0 := ⟨st,y,rfl,A5,fun H' N t v d ht hv=>q H' t v (D1.more d) ht.leaf (by
  cases ht <;> (simp only [TrV] at hv ⊢; exact hv))⟩
 refine ⟨_,rfl,rfl,_,rfl,M2 (fun _=>K8 ⟨_,rfl,lf⟩) (fun c=>?_)⟩
 refine ⟨_,rfl,_,_,rfl,rfl,_,rfl,M2 (fun _=>⟨_,rfl,lf⟩) (fun _=>?_)⟩
 obtain ⟨n',rfl⟩ : ∃ n',n = n' + 1 := by
  cases n with
  | zero=>exact absurd (decide_eq_true rfl) c
  | succ n'=>exact ⟨n',rfl⟩
 obtain ⟨es1,es2⟩ := hsp n' rfl
 subst es1 es2
 have hnl1 : upd H st (.lst [.int y]) nl = some (.lst (ns.map V.str)) := by rw [B7 nns]; exact hnl
 refine ⟨_,rfl,_,_,rfl,rfl,_,rfl,M2 (fun _=>?_) (fun _=>?_)⟩
 ·refine ⟨_,rfl,nl,_,rfl,.inl (SqL.of hnl1),_,_,rfl,rfl,_,rfl,_,_,rfl,rfl,.inl ⟨by decide,by decide⟩,_,_,rfl,rfl,?_⟩
  obtain ⟨mm,hmm,hm1,hm7⟩ : ∃ mm : Int,mm = 3 + 4 * (if decide (3 < (((ns.map V.str).length : Nat) : Int)) = true then 1 else 0) ∧ 0 < mm ∧ mm ≤ 7 := by
   refine ⟨_,rfl,?_,?_⟩ <;> split <;> omega
  refine ⟨_,rfl,_,rfl,st,y,mm,by rw [hmm]; rfl,A5,hm1,fun y2 r b0 b1=>?_⟩
  have D2 := D1.next y2
  obtain ⟨c,rfl⟩ := Int.eq_ofNat_of_zero_le b0
  refine ⟨(c : Int),rfl,by omega,by omega,fun l hl=>?_⟩
  have hl0 := D2.old hl
  have nls : l ≠ st := D2.ne hl0
  have nnl : nl ≠ l := fun z=>by rw [← z,B7 nns,hnl1] at hl; cases hl
  refine fC (fun i zs Hx=>DS st H Hx ∧ Dom (upd H l (.lst [])) Hx ∧ Hx l = some (.lst zs) ∧ Hx nl = some (.lst (ns.map V.str)) ∧ ∃ ts,TrAll K Hx (upd H l (.lst [])) ts zs ∧ ts.length = i ∧ ∀ t ∈ ts,TrOk n' t)
   ⟨D2.put hl0,fun a h=>?_,A5,by rw [B7 nnl,B7 nns]; exact hnl1,[],by simp only [TrAll],rfl,fun t ht=>(by cases ht)⟩ (fun i zs Hx hi hinv=>?_) (fun zs Hx hinv=>?_)
  ·have h2 : (upd H l (.lst [])) a = none ∨ (upd H l (.lst [])) a ≠ none := by cases (upd H l (.lst [])) a <;> simp
   rcases h2 with h2 | h2
   ·exact h2
   ·exfalso
    by_cases e1 : a = l
    ·rw [e1,A5] at h; cases h
    ·rw [B7 e1] at h h2
     exact h2 (D2.old h)
  ·obtain ⟨d,dom,hlx,hnlx,ts,hts,htl,hto⟩ := hinv
   obtain ⟨y3,hy3⟩ := d.s
   dsimp only [V0,P6]
   refine aG ⟨_,rfl,_,rfl,_,rfl,_,_,rfl,rfl,st,nl,y3,ns,by show [V.ref st,V.ref nl,V.int (((n' + 1 : Nat) : Int) - 1)] = _; rw [show ((n' + 1 : Nat) : Int) - 1 = (n' : Int) by omega],hy3,hnlx,hns,fun H4 t v d4 ht hv=>?_⟩
   have hl4 := d4.g _ _ nls hlx
   have hn1 : (upd H l (.lst [])) l ≠ none := by rw [A5]; intro z; cases z
   obtain ⟨cv,rfl⟩ := hv.ref
   refine ⟨hl4,P0 (by rw [hts.length]; omega),(d.more d4).put hl0,(dom.ds d4).upd,A5,by rw [B7 nnl]; exact d4.g _ _ nns hnlx,ts ++ [t],((hts.kt d4.kt).put hl4 hn1).snoc ((hv.base dom).put hl4 hn1),by simp [htl],fun t' ht'=>?_⟩
   rcases List.mem_append.mp ht' with z | z
   ·exact hto t' z
   ·rw [List.mem_singleton.mp z]; exact ht
  ·obtain ⟨d,dom,hlx,hnlx,ts,hts,htl,hto⟩ := hinv
   obtain ⟨y3,hy3⟩ := d.s
   refine ⟨_,rfl,_,rfl,st,y3,2,rfl,hy3,by decide,fun y4 r2 c0 c1=>⟨rfl,N4,fun p hp=>?_⟩⟩
   have dx : DS st Hx (upd Hx st (.lst [.int y4])) := (DS.start hy3).next y4
   have dx2 := dx.same (A8 hp (.tup [.str (Str.ofString "list"),.ref l,.bl (decide (V.int r2 = V.int 1))]))
   have htl' : ts.length = c := by simpa using htl
   refine q _ (.lst ts (decide (V.int r2 = V.int 1))) _ (d.more dx2) (.lst (by omega) hto) ?_
   simp only [TrV]
   exact ⟨p,l,zs,rfl,SqT.of A5,dx2.g _ _ nls hlx,hl0,(hts.kt dx2.kt).base fun a h=>by
    unfold L2.upd at h
    split at h
    ·cases h
    ·exact h⟩
 ·exact ⟨_,rfl,_,rfl,_,rfl,st,nl,y,ns,rfl,A5,hnl1,hns,fun H' t v d ht hv=>q H' t v (D1.more d) ht (hv.base fun a h=>by
   by_cases e : a = st
   ·rw [e,A5] at h; cases h
   ·rw [B7 e] at h; exact h)⟩
theorem oQ (nT : Nm K mg "_law_tree" bR ["_law_state_here","_law_names_here","_law_deep"]) (nR : Nm K mg "_law_record" bS ["_law_state_here","_law_names_here","_law_deep"]) (N : Cal P w K mg base 1 "_law_next" ["_law_state_here","_law_many"] Q8) (LF : Cal P w K mg base 3 "_law_leaf" ["_law_state_here"] (fP K)) (m1 : mg "range" = none) (m2 : mg "int" = none) (m3 : mg "len" = none) : ∀ n,n ≤ 2 → Cal P w K mg base (2 * n + 4) "_law_tree" ["_law_state_here","_law_names_here","_law_deep"] (dX K n)
 | 0,_=>nT.cal fun f fd F=>tE F (nT.no fT 2) (nR.no jM 2) (fun n' e=>by omega) N LF m1 m2 m3 (by decide)
 | n + 1,h=>by
  have T0 := oQ nT nR N LF m1 m2 m3 n (by omega)
  have R0 : Cal P w K mg base (2 * n + 4 + 1) "_law_record" ["_law_state_here","_law_names_here","_law_deep"] (dX K (n + 1)) := nR.cal fun f fd F=>AN6 F T0 N (by omega) (by omega)
  exact nT.cal fun f fd F=>tE F (T0.mono (Nat.le_succ _)) R0 (fun n' e=>⟨congrArg (dX K) (Nat.succ.inj e),rfl⟩) N LF m1 m2 m3 (by omega)
end
end Law
namespace Law
open PySem L2 L2.Sp
theorem mG {m : Bool} {e : F4} {es : List F4} {L : Lf} {x : Th} (hnd : ((e :: es).map (·.1)).Nodup) (h : O2 L e.1 = some x) : N9 m (e :: es) L = (E3 e.2.1 x && N9 m es (T1 L e.1)) := by
 rw [List.map_cons,List.nodup_cons] at hnd
 have hne : ∀ y ∈ es,y.1 ≠ e.1 := fun y hy z=>hnd.1 (by rw [← z]; exact List.mem_map_of_mem hy)
 unfold N9
 rw [List.all_cons,aA,h,List.map_cons,Bool.and_assoc]
 congr 1
 have e1 : es.all (aL L) = es.all (aL (T1 L e.1)) := by
  rw [Bool.eq_iff_iff,List.all_eq_true,List.all_eq_true]
  have : ∀ y ∈ es,aL L y = aL (T1 L e.1) y := fun y hy=>by rw [aA,aA,cC (hne y hy)]
  exact ⟨fun z y hy=>by rw [← this y hy]; exact z y hy,fun z y hy=>by rw [this y hy]; exact z y hy⟩
 rw [e1]
 rcases rG (n := e.1) (ns := es.map (·.1)) (L := L) with z | z
 ·rw [z]
 ·exact absurd z hnd.1
def X5 (ns : List Str) (ms : List Bool) (ts : List Tr) : List F4 := Q2 ns ts (ts.map fun _=>PyData.none) ms
theorem tV : ∀ {ns : List Str} {ms : List Bool} {ts : List Tr} {i : Nat} {n : Str} {b : Bool} {t : Tr},ns[i]? = some n → ms[i]? = some b → ts[i]? = some t → (X5 ns ms ts)[i]? = some (n,t,PyData.none,b)
 | n :: ns,b :: ms,t :: ts,0,_,_,_,h1,h2,h3=>by simp at h1 h2 h3; subst h1 h2 h3; rfl
 | n :: ns,b :: ms,t :: ts,i + 1,_,_,_,h1,h2,h3=>by
  show ((n,t,PyData.none,b) :: X5 ns ms ts)[i + 1]? = _
  rw [List.getElem?_cons_succ]
  exact tV (by simpa using h1) (by simpa using h2) (by simpa using h3)
 | [],_,_,_,_,_,_,h,_,_=>by simp at h
 | _ :: _,[],_,_,_,_,_,_,h,_=>by simp at h
 | _ :: _,_ :: _,[],_,_,_,_,_,_,h=>by simp at h
theorem zD {ns : List Str} {ms : List Bool} {ts : List Tr} {m : Bool} {fn : List Str} {fx : List Th} (l1 : ns.length = ts.length) (l2 : ms.length = ts.length) (hl : fn.length = fx.length) : E3 (.rc ns ms ts m) (.rc fn fx) = N9 m (X5 ns ms ts) (fn.zip fx) := by
 simp only [E3]
 obtain ⟨z1,z2⟩ := gW hl
 have l3 : (ts.map fun _=>PyData.none).length = ts.length := by rw [List.length_map]
 have hfst : (X5 ns ms ts).map (·.1) = ns := X0 l1 l2 l3
 unfold N9
 rw [hfst,dO (ds := ts.map fun _=>PyData.none) l1 l2 l3]
 have e1 : (X5 ns ms ts).all (aL (fn.zip fx)) = (Q2 ns ts (ts.map fun _=>PyData.none) ms).all (cG fn fx) := by
  unfold X5
  congr 1
  funext e
  unfold aL
  rw [z1,z2]
 have e2 : ((fn.zip fx).all fun p=>decide (p.1 ∈ ns)) = fn.all fun y=>decide (y ∈ ns) := by
  have : (fn.all fun y=>decide (y ∈ ns)) = ((fn.zip fx).map (·.1)).all fun y=>decide (y ∈ ns) := by rw [z1]
  rw [this,List.all_map]
  rfl
 rw [e1,e2]
theorem mS : ∀ (ts : List Tr) (xs : List Th),R6 ts xs = (List.zipWith E3 ts xs).all id
 | [],xs=>by simp [R6]
 | t :: ts,[]=>by simp [R6]
 | t :: ts,x :: xs=>by simp only [R6,List.zipWith_cons_cons,List.all_cons,id,mS ts xs]
mutual
theorem dU : ∀ {n : Nat} {x : Th},ThOk n x → G6 (K0 x)
 | _,.non,_=>W8 (K5 (by decide +kernel))
 | _,.tru b,_=>R4 (K5 (by decide +kernel)) T4
 | _,.num i,_=>R4 (K5 (by decide +kernel)) AM9
 | _,.txt s,h=>by cases h with | txt hs=>exact R4 (K5 (by decide +kernel)) (K5 hs.ok)
 | _,.lst xs,h=>by cases h with | lst _ hx=>simp only [K0]; exact R4 (K5 (by decide +kernel)) (R8 (wX fun x hm=>hx x hm))
 | _,.rc ns xs,h=>by cases h with | rc _ _ _ hs hx=>simp only [K0]; exact R4 (K5 (by decide +kernel)) (R8 (wY hs fun x hm=>hx x hm))
theorem wX : ∀ {n : Nat} {xs : List Th},(∀ x ∈ xs,ThOk n x) → ∀ d ∈ S5 xs,G6 d
 | _,[],_,d,hd=>by simp only [S5] at hd; cases hd
 | _,x :: xs,h,d,hd=>by
  simp only [S5] at hd
  rcases List.mem_cons.mp hd with rfl | hd
  ·exact dU (h x List.mem_cons_self)
  ·exact wX (fun y hy=>h y (List.mem_cons_of_mem _ hy)) d hd
theorem wY : ∀ {n : Nat} {ns : List Str} {xs : List Th},(∀ s ∈ ns,PyData.strOk s = true) → (∀ x ∈ xs,ThOk n x) → ∀ d ∈ Q3 ns xs,G6 d
 | _,n :: ns,x :: xs,hs,h,d,hd=>by
  simp only [Q3] at hd
  rcases List.mem_cons.mp hd with rfl | hd
  ·exact R4 (K5 (hs n List.mem_cons_self)) (dU (h x List.mem_cons_self))
  ·exact wY (fun s hs'=>hs s (List.mem_cons_of_mem _ hs')) (fun y hy=>h y (List.mem_cons_of_mem _ hy)) d hd
 | _,[],xs,hs,h,d,hd=>by simp only [Q3] at hd; cases hd
 | _,_ :: _,[],hs,h,d,hd=>by simp only [Q3] at hd; cases hd
end
def wdT (x : Th) : Str := P3.getD (J7 x) wN
section
variable {P : Program} {w : World} {K : PySem.W.Frag} {mg : Str → Option Value} {base : Heap} {f : Addr} {fd : FuncData}
theorem ThV.head {H : Hp} : ∀ {x : Th} {u : V},ThV K H x u → ∃ b r,u = .ref b ∧ SqT K H b (.str (wdT x) :: r)
 | .non,v,h=>by simp only [ThV] at h; obtain ⟨a,e,q⟩ := h; exact ⟨a,[],e,q⟩
 | .tru b,v,h=>by simp only [ThV] at h; obtain ⟨a,e,q⟩ := h; exact ⟨a,_,e,q⟩
 | .num i,v,h=>by simp only [ThV] at h; obtain ⟨a,e,q⟩ := h; exact ⟨a,_,e,q⟩
 | .txt s,v,h=>by simp only [ThV] at h; obtain ⟨a,e,q⟩ := h; exact ⟨a,_,e,q⟩
 | .lst xs,v,h=>by simp only [ThV] at h; obtain ⟨a,p,ys,e,q,_⟩ := h; exact ⟨a,_,e,q⟩
 | .rc ns xs,v,h=>by simp only [ThV] at h; obtain ⟨a,p,ys,e,q,_⟩ := h; exact ⟨a,_,e,q⟩
def hV (K : PySem.W.Frag) (n : Nat) : Sp := fun args H Q _=>∃ (t : Tr) (x : Th) (v u : V) (B : Hp) (N : Nat),args = [v,u] ∧ TrOk n t ∧ TrV K H B t v ∧ ThOk N x ∧ ThV K H x u ∧ ∀ H',Same H H' → Q (.bl (E3 t x)) H'
abbrev fX : Stmt := N3 46
theorem AI0 : G0 ["_law_tree_here","_law_items"] ["_law_tree_here","_law_items"] (B6 fX) := ⟨rfl,rfl,rfl,by decide +kernel,rfl,by decide +kernel,by decide +kernel⟩
theorem AJ1 : (["_law_inner","_law_item"] : List Str).Nodup := by decide +kernel
def oB (K : PySem.W.Frag) (n : Nat) : Sp := fun args H Q _=>∃ (ts : List Tr) (m : Bool) (xs : List Th) (a l p : Addr) (ys zs : List V) (B : Hp) (N : Nat),args = [.ref a,.ref p] ∧ SqT K H a [.str wL,.ref l,.bl m] ∧ H l = some (.lst ys) ∧ TrAll K H B ts ys ∧ (∀ t ∈ ts,TrOk n t) ∧ ts.length ≤ 6 ∧ SqT K H p zs ∧ ThAll K H xs zs ∧ (∀ x ∈ xs,ThOk N x) ∧ ∀ H',Same H H' → Q (.bl (M8 ts m xs)) H'
theorem AV0 {k n : Nat} (F : Fun K "_law_in_list" "_law_in_list" fX f fd) (IN : Cal P w K mg base k "_law_in" ["_law_tree_here","_law_thing"] (hV K n)) (m1 : mg "len" = none) (m2 : mg "all" = none) (m3 : mg "zip" = none) : FnOk P w K mg base L9 (k + 1) f fd ["_law_tree_here","_law_items"] (oB K n) := by
 refine F.ok AI0 (fun vs H Q E h=>?_) (fun cdv A outer s H vs Q E hr h=>?_)
 ·obtain ⟨ts,m,xs,a,l,p,ys,zs,B,N,rfl,_⟩ := h
  rfl
 obtain ⟨ts,m,xs,a,l,p,ys,zs,B,N,rfl,ha,hl,hts,hto,h6,hp,hxs,hxo,q⟩ := h
 refine ⟨_,B5 (G4 (PW.pt (aN (E2 Z3 (K6 M6 rfl m1 PySem.boot_len (A0 (pv 1) A6)) (K6 M6 rfl m1 PySem.boot_len (A0 (D9 E8 (pv 0) A7 (fun _ _=>rfl)) A6)) (D7 _))
   (X6 (PW.pt (Z7 (E2 bY (K6 M6 rfl m1 PySem.boot_len (A0 (pv 1) A6)) (K6 M6 rfl m1 PySem.boot_len (A0 (D9 E8 (pv 0) A7 (fun _ _=>rfl)) A6)) (D7 _)) (Y6 (Z8 (Q6 (D9 E8 (pv 0) A7 (fun _ _=>rfl))))))))))
   (A9 (D8 W7)) E7)
  (A9 (D8 (K6 (fL rfl) rfl m2 zY (A0 (U6 (N' := ["_law_inner","_law_item"]) (fr := [none,none]) (own := [0,1]) ⟨rfl,rfl,rfl,rfl,rfl,rfl,rfl⟩ rfl (AM2 rfl m3 (A0 (D9 E8 (pv 0) A7 (fun _ _=>rfl)) (A0 (pv 1) A6)))
   (fun _ _ _ _=>V2 (n := 2) rfl (K1 (G5 (i := 0) AJ1 rfl (Or.inl rfl)) (K1 (G5 (i := 1) AJ1 rfl (Or.inl rfl)) T2))) (dH (eO 0 1)) (fun _ _ _ _=>R7)
   (fun _ _ _ _=>B8 IN hr rfl (A0 (pv 0) (A0 (pv 1) A6)))) A6)))),?_⟩
 have ly := hts.length
 have lz := hxs.length
 have run : (ts.length ≤ xs.length) → (m = true ∨ xs.length ≤ ts.length) → M8 ts m xs = R6 ts xs := fun h1 h2=>by
  unfold M8
  rw [decide_eq_true h1]
  rcases h2 with h2 | h2
  ·rw [h2]; rfl
  ·rw [decide_eq_true h2,Bool.or_true]; rfl
 refine ⟨_,rfl,p,_,rfl,.inr hp,_,rfl,a,_,_,_,rfl,rfl,ha,rfl,l,_,rfl,.inl (SqL.of hl),_,_,rfl,rfl,_,rfl,M2 (fun c=>K8 ?_) (fun c=>?_)⟩
 ·have c' : zs.length < ys.length := by have := of_decide_eq_true c; omega
  have e : M8 ts m xs = false := by unfold M8; rw [decide_eq_false (by omega)]; rfl
  rw [e] at q
  exact q _ W6
 have c' : ys.length ≤ zs.length := Nat.le_of_not_lt fun z=>c (decide_eq_true (by omega))
 have rest : M8 ts m xs = R6 ts xs → dW (tCB (fun xs H Q=>∃ a bs,xs = [.ref a] ∧ SqL K H a (List.map V.bl bs) ∧ Q (.bl (bs.all id)) H) (N5 (uV (AJ4 K (N5 (U8 (eL K) (O4 0) (tC (.int 1))) (N5 (O4 1) Y3))) [none,none] (AF3 K 2 (cE (P6 0) (cE (P6 1) vW))) AB1 (gZ (hV K n) [] E0 (N5 (O4 0) (N5 (O4 1) Y3)))) Y3)) { nx := fun _ H'=>Q .non H',rt := Q } [some (.ref a),some (.ref p)] H := fun e=>by
  rw [e,mS] at q
  refine ⟨_,rfl,a,_,_,_,rfl,rfl,ha,rfl,_,rfl,l,p,rfl,⟨_,SqL.of hl⟩,⟨_,hp⟩,fun lr hlr=>?_⟩
  refine zS (xs := ys) (ys := zs) (fun i bs H'=>Same H H' ∧ H' lr = some (.lst bs) ∧ bs = ((List.zipWith E3 ts xs).take i).map V.bl) ⟨A8 hlr _,A5,rfl⟩ (fun i bs H' ⟨g,_⟩=>⟨SqL.of (g _ _ hl),g.seqT hp⟩) (fun i y z bs H' T hy hz ⟨g,hb,eb⟩ hT=>?_) (fun bs H' ⟨g,hb,eb⟩=>?_)
  ·obtain ⟨t,hti,htv⟩ := hts.get hy
   obtain ⟨x,hxi,hxv⟩ := hxs.get hz
   have kT := A8 hT (.tup [y,z])
   have g2 := g.trans kT
   refine ⟨T,_,rfl,SqT.of A5,rfl,_,_,rfl,_,_,rfl,rfl,aG ?_⟩
   refine ⟨_,rfl,_,rfl,t,x,y,z,B,N,rfl,hto t (List.mem_of_getElem? hti),TrV.kt (KT.same g2) htv,hxo x (List.mem_of_getElem? hxi),ThV.kt (KT.same g2).toKF hxv,fun H3 g3=>?_⟩
   have hzw : (List.zipWith E3 ts xs)[i]? = some (E3 t x) := by rw [List.getElem?_zipWith,hti,hxi]
   refine ⟨g3 _ _ (kT _ _ hb),P0 ?_,fun b o h=>by rw [B7 (E6 h hlr)]; exact g3 _ _ (g2 _ _ h),A5,?_⟩
   ·rw [eb,List.length_map,List.length_take,List.length_zipWith]; omega
   ·rw [M5 hzw,List.map_append,eb]; rfl
  ·refine ⟨lr,List.zipWith E3 ts xs,rfl,SqL.of ?_,q _ g⟩
   rw [hb,eb,List.take_of_length_le (by rw [List.length_zipWith]; omega)]
 refine ⟨_,rfl,p,_,rfl,.inr hp,_,rfl,a,_,_,_,rfl,rfl,ha,rfl,l,_,rfl,.inl (SqL.of hl),_,_,rfl,rfl,_,rfl,M2 (fun c2=>?_) (fun c2=>L5 (rest (run (by omega) (.inr ?_))))⟩
 ·refine ⟨_,rfl,a,_,_,_,rfl,rfl,ha,rfl,_,rfl,?_⟩
  have c2' : ys.length < zs.length := by have := of_decide_eq_true c2; omega
  cases m with
  | true=>exact L5 (rest (run (by omega) (.inl rfl)))
  | false =>
   refine K8 ?_
   have e : M8 ts false xs = false := by unfold M8; rw [decide_eq_false (show ¬ xs.length ≤ ts.length by omega)]; simp
   rw [e] at q
   exact q _ W6
 ·have : ¬ ((ys.length : Int) < zs.length) := fun z=>c2 (decide_eq_true z)
  omega
abbrev fW : Stmt := N3 47
theorem bQ : G0 ["_law_tree_here","_law_fields","_law_known","_law_name","_law_thing","_law_inner","_law_must"] ["_law_tree_here","_law_fields"] (B6 fW) := ⟨rfl,rfl,rfl,by decide +kernel,rfl,by decide +kernel,by decide +kernel⟩
def oA (K : PySem.W.Frag) (n : Nat) : Sp := fun args H Q _=>∃ (ns : List Str) (ms : List Bool) (ts : List Tr) (m : Bool) (fn : List Str) (fx : List Th) (a l p : Addr) (ys zs : List V) (B : Hp) (N : Nat),args = [.ref a,.ref p] ∧ SqT K H a [.str wR,.ref l,.bl m] ∧ H l = some (.lst ys) ∧ TrFs K H B ns ms ts ys ∧ ns.Nodup ∧ (∀ t ∈ ts,TrOk n t) ∧ FT H p zs ∧ ThFs K H fn fx zs ∧ fn.Nodup ∧ fn.length ≤ 40 ∧ (∀ x ∈ fx,ThOk N x) ∧ ∀ H',Same H H' → Q (.bl (E3 (.rc ns ms ts m) (.rc fn fx))) H'
theorem AU9 {k n : Nat} (F : Fun K "_law_in_record" "_law_in_record" fW f fd) (IN : Cal P w K mg base k "_law_in" ["_law_tree_here","_law_thing"] (hV K n)) (m1 : mg "len" = none) : FnOk P w K mg base L9 (k + 1) f fd ["_law_tree_here","_law_fields"] (oA K n) := by
 refine F.ok bQ (fun vs H Q E h=>?_) (fun cdv A outer s H vs Q E hr h=>?_)
 ·obtain ⟨ns,ms,ts,m,fn,fx,a,l,p,ys,zs,B,N,rfl,_⟩ := h
  rfl
 obtain ⟨ns,ms,ts,m,fn,fx,a,l,p,ys,zs,B,N,rfl,ha,hl,hF,hnd,hto,hp,hxs,hfd,h40,hxo,q⟩ := h
 refine ⟨_,B5 (G2 (i := 2) bQ.nd rfl (Or.inl rfl) iY)
  (B5 (R9 PassesOwn.never rfl (bC (pv 1)) (V2 (n := 2) rfl (K1 (G5 (i := 3) bQ.nd rfl (Or.inl rfl)) (K1 (G5 (i := 4) bQ.nd rfl (Or.inl rfl)) T2)))
   (A9 (iH (fA hr) (pv 2) (pv 3) (pv 4) rfl)))
  (B5 (R9 PassesOwn.never rfl (U5 (D9 E8 (pv 0) A7 (fun _ _=>rfl))) (V2 (n := 3) rfl (K1 (G5 (i := 3) bQ.nd rfl (Or.inl rfl)) (K1 (G5 (i := 5) bQ.nd rfl (Or.inl rfl)) (K1 (G5 (i := 6) bQ.nd rfl (Or.inl rfl)) T2))))
   (A9 (G4 (pO (xY (fA hr) (pv 3) (pv 2)))
    (A9 (G4 (Z8 (Q6 (B8 IN hr rfl (A0 (pv 5) (A0 (pR (pv 2) (pv 3) ⟨rfl,rfl,rfl,rfl⟩) A6))))) (A9 (D8 W7)) E7))
    (A9 (G4 (Q6 (pv 6)) (A9 (D8 W7)) E7)))))
  (A9 (D8 (bW (D9 E8 (pv 0) A7 (fun _ _=>rfl)) (T3 (J5 J4 (K6 mY rfl m1 PySem.boot_len (A0 (pv 2) A6)) A7 (D7 _)))))))),?_⟩
 obtain ⟨fs,hfs,hL0,hfst⟩ := jB hxs hxo
 have hzl := hxs.length
 have hfl := hfs.length
 have lF := hF.length
 rw [zD (by omega) (by omega) (by omega)] at q
 have hes : (X5 ns ms ts).map (·.1) = ns := X0 (by omega) (by omega) (by rw [List.length_map])
 have hel : (X5 ns ms ts).length = ns.length := by have := congrArg List.length hes; rwa [List.length_map] at this
 intro D hD
 have k1 := A8 hD (.dK [])
 have fsnd : (fs.map (·.1)).Nodup := by rw [hfst]; exact List.Pairwise.map _ (fun a b n z=>n (Sum.inr.inj z)) hfd
 refine ⟨_,rfl,p,rfl,⟨_,FT.sq ((KT.same (K := K) k1).f _ _ hp)⟩,?_⟩
 refine iM (xs := zs) (fun i σ H'=>∃ (b3 b4 : Option V),σ = [some (.ref a),some (.ref p),some (.ref D),b3,b4,none,none] ∧ Same H H' ∧ H' D = some (.dK (fs.take i))) ⟨none,none,rfl,k1,A5⟩ (fun i σ H' _ ⟨_,_,_,g,_⟩=>g.seqT (FT.sq hp)) (fun i y σ H' hy hinv=>?_) (fun σ H' hinv=>?_)
 ·obtain ⟨b3,b4,rfl,g,hD'⟩ := hinv
  obtain ⟨kv,hkv,c,rfl,hc⟩ := P5 hfs hy
  obtain ⟨nm,hnm⟩ : ∃ nm,kv.1 = Sum.inr nm := by
   have : (fs.map (·.1))[i]? = some kv.1 := by rw [List.getElem?_map,hkv]; rfl
   rw [hfst,List.getElem?_map] at this
   cases z : fn[i]? with
   | none=>rw [z] at this; cases this
   | some nm=>rw [z] at this; exact ⟨nm,(Option.some.inj this).symm⟩
  rw [hnm] at hc
  refine ⟨c,_,rfl,g.seqT hc,rfl,_,_,rfl,_,_,rfl,rfl,?_⟩
  have hno : P7 (fs.take i) (Sum.inr nm) = none := by
   cases z : P7 (fs.take i) (Sum.inr nm) with
   | none=>rfl
   | some v =>
    exfalso
    have hm := AK5 z
    rw [List.map_take] at hm
    obtain ⟨j,hj⟩ := List.mem_iff_getElem?.mp hm
    have hji : j < i := by have := (List.getElem?_eq_some_iff.mp hj).1; rw [List.length_take] at this; omega
    rw [List.getElem?_take_of_lt hji] at hj
    have hi : (fs.map (·.1))[i]? = some (Sum.inr nm) := by rw [List.getElem?_map,hkv,Option.map_some,hnm]
    obtain ⟨j1,j2⟩ := List.getElem?_eq_some_iff.mp hj
    obtain ⟨i1,i2⟩ := List.getElem?_eq_some_iff.mp hi
    exact absurd ((List.getElem_inj fsnd).mp (j2.trans i2.symm)) (by omega)
  refine ⟨_,rfl,_,rfl,_,rfl,D,_,rfl,DPut.k (k := Sum.inr nm) hD' (P0 (by rw [List.length_take]; omega)),?_⟩
  refine ⟨_,_,rfl,fun b o h=>by rw [B7 (E6 h hD)]; exact g _ _ h,?_⟩
  rw [A5,pN _ hno,M5 hkv]
  congr 2
  rw [← hnm]
 obtain ⟨b3,b4,rfl,g,hD'⟩ := hinv
 rw [show zs.length = fs.length by omega,List.take_length] at hD'
 refine ⟨_,rfl,a,_,_,_,rfl,rfl,g.seqT ha,rfl,l,rfl,⟨_,SqL.of (g _ _ hl)⟩,?_⟩
 refine Y9 (xs := ys) (fun i σ Hx=>∃ (b3 b4 b5 b6 : Option V) (kvs : List (G3 × V)) (L : Lf),σ = [some (.ref a),some (.ref p),some (.ref D),b3,b4,b5,b6] ∧ Same H Hx ∧ Hx D = some (.dK kvs) ∧ Paired (kL K H N) kvs L ∧ N9 m (X5 ns ms ts) (fn.zip fx) = N9 m ((X5 ns ms ts).drop i) L)
  ⟨b3,b4,none,none,fs,_,rfl,g,hD',hL0,rfl⟩ (fun i σ Hx _ ⟨_,_,_,_,_,_,_,g,_⟩=>SqL.of (g _ _ hl)) (fun i y σ Hx hy hinv=>?_) (fun σ Hx hinv=>?_)
 ·obtain ⟨c3,c4,c5,c6,kvs,L,rfl,gx,hDx,hP,hsem⟩ := hinv
  obtain ⟨nm,b,t,c,v,hni,hbi,hti,rfl,hc,htv⟩ := hF.get hy
  have hei := tV hni hbi hti
  have edr := gL hei
  rw [edr] at hsem
  have hdn : (((nm,t,PyData.none,b) : F4) :: (X5 ns ms ts).drop (i + 1)).map (·.1) = ns.drop i := by rw [← edr,List.map_drop,hes]
  refine ⟨c,_,rfl,gx.seqT hc,rfl,_,_,rfl,_,_,rfl,_,_,rfl,rfl,?_⟩
  refine ⟨_,rfl,_,rfl,D,_,rfl,DGet.k (k := Sum.inr nm) hDx,_,rfl,?_⟩
  rcases jY (n := nm) hP with ⟨z1,z2⟩ | ⟨x,vx,z1,z2,z3,z4⟩
  ·rw [z2]
   refine L5 ⟨_,rfl,_,rfl,?_⟩
   have hs := hsem.trans (U0 (e := (nm,t,PyData.none,b)) z1)
   cases b with
   | true =>
    refine K8 ?_
    rw [show N9 m (X5 ns ms ts) (fn.zip fx) = false from hs] at q
    exact q _ gx
   | false=>exact L5 ⟨_,_,_,_,kvs,L,rfl,gx,hDx,hP,hs⟩
  ·rw [z2]
   refine K8 ?_
   have hs := hsem.trans (mG (e := (nm,t,PyData.none,b)) (by rw [hdn]; exact hnd.sublist (List.drop_sublist _ _)) z1)
   refine ⟨_,rfl,_,rfl,D,rfl,.inl ⟨_,.inl hDx⟩,_,rfl,kvs,Sum.inr nm,vx,hDx,rfl,z2,?_⟩
   have gd : Same H (upd Hx D (.dK (U2 kvs (Sum.inr nm)))) := fun b o h=>by rw [B7 (E6 h hD)]; exact gx _ _ h
   refine ⟨t,x,v,vx,B,N,rfl,hto t (List.mem_of_getElem? hti),TrV.kt (KT.same gd) htv,z4,ThV.kt (KT.same gd).toKF z3,fun H5 g5=>⟨_,rfl,?_⟩⟩
   cases hc2 : E3 t x with
   | true =>
    refine L5 ⟨_,_,_,_,_,_,rfl,gd.trans g5,g5 _ _ A5,aV hP,?_⟩
    rw [hs]
    show (E3 t x && _) = _
    rw [hc2]; rfl
   | false =>
    refine K8 ?_
    have : N9 m (X5 ns ms ts) (fn.zip fx) = false := by
     rw [hs]
     show (E3 t x && _) = _
     rw [hc2]; rfl
    rw [this] at q
    exact q _ (gd.trans g5)
 ·obtain ⟨c3,c4,c5,c6,kvs,L,rfl,gx,hDx,hP,hsem⟩ := hinv
  rw [List.drop_eq_nil_of_le (by omega)] at hsem
  refine ⟨_,rfl,a,_,_,_,rfl,rfl,gx.seqT ha,rfl,_,rfl,?_⟩
  have hkl := hP.length
  have e0 : N9 m [] L = (m || L.isEmpty) := by unfold N9; cases L <;> simp
  rw [hsem,e0] at q
  cases m with
  | true=>exact K8 (q _ gx)
  | false =>
   refine L5 ⟨_,rfl,D,_,rfl,hDx,rfl,?_⟩
   have e1 : decide (V.int (kvs.length : Int) = V.int 0) = (false || L.isEmpty) := by
    cases L with
    | nil=>rw [show kvs.length = 0 from hkl]; rfl
    | cons p L=>exact decide_eq_false fun z=>by have := V.int.inj z; rw [List.length_cons] at hkl; omega
   rw [e1]
   exact q _ gx
end
end Law
namespace Law
open PySem L2 L2.Sp
theorem M9 {c : Bool} {A B : Prop} (h : c = false) (hb : B) : if c = true then A else B := by rw [h]; exact L5 hb
theorem cR {c : Bool} {A B : Prop} (h : c = true) (ha : A) : if c = true then A else B := by rw [h]; exact K8 ha
theorem nW {x : Th} {k : Nat} {w : Str} (h : P3[k]? = some w) : decide (V.str (wdT x) = V.str w) = (J7 x == k) := by
 have hk : k < 6 := (List.getElem?_eq_some_iff.mp h).1
 have hs : J7 x < 6 := by cases x <;> simp [J7]
 have hd : ∀ i j : Fin 6,decide (V.str (P3.getD i.1 wN) = V.str (P3.getD j.1 wN)) = (i.1 == j.1) := by decide +kernel
 have e : w = P3.getD k wN := by rw [List.getD_eq_getElem?_getD,h]; rfl
 rw [e]
 exact hd ⟨J7 x,hs⟩ ⟨k,hk⟩
theorem AQ0 {x : Th} {s : Str} : PyData.eqv (K0 x) (K0 (.txt s)) = E3 (.text s) x := by
 cases x <;> simp only [K0,E3] <;> simp [PyData.eqv,PyData.eqvAll] <;> first | done | (intro h; exact absurd h (by decide +kernel)) | skip
 rename_i u
 exact Bool.eq_iff_iff.mpr ⟨fun h=>by rw [beq_iff_eq] at h ⊢; exact h.symm,fun h=>by rw [beq_iff_eq] at h ⊢; exact h.symm⟩
theorem AY9 {x : Th} {k : Nat} {w : Str} (h : P3[k]? = some w) (hne : (J7 x == k) = false) : V.str (wdT x) ≠ V.str w := fun e=>by
 have := nW (x := x) h
 rw [decide_eq_true e,hne] at this
 cases this
theorem AQ1 {x : Th} {b : Bool} : PyData.eqv (K0 x) (K0 (.tru b)) = E3 (.truth b) x := by
 cases x <;> simp only [K0,E3] <;> simp [PyData.eqv,PyData.eqvAll] <;> first | done | (intro h; exact absurd h (by decide +kernel)) | skip
 rename_i c
 cases b <;> cases c <;> rfl
section
variable {P : Program} {w : World} {K : PySem.W.Frag} {mg : Str → Option Value} {base : Heap} {f : Addr} {fd : FuncData}
abbrev fV : Stmt := N3 48
theorem AH9 : G0 ["_law_tree_here","_law_thing","_law_word","_law_one","_law_other"] ["_law_tree_here","_law_thing"] (B6 fV) := ⟨rfl,rfl,rfl,by decide +kernel,rfl,by decide +kernel,by decide +kernel⟩
theorem yC {k n : Nat} {spl spr : Sp} (F : Fun K "_law_in" "_law_in" fV f fd) (IL : Cal P w K mg base k "_law_in_list" ["_law_tree_here","_law_items"] spl) (IR : Cal P w K mg base k "_law_in_record" ["_law_tree_here","_law_fields"] spr) (hsp : ∀ n',n = n' + 1 → spl = oB K n' ∧ spr = oA K n') : FnOk P w K mg base L9 (k + 1) f fd ["_law_tree_here","_law_thing"] (hV K n) := by
 refine F.ok AH9 (fun vs H Q E h=>?_) (fun cdv A outer s H vs Q E hr h=>?_)
 ·obtain ⟨t,x,v,u,B,N,rfl,_⟩ := h
  rfl
 obtain ⟨t,x,v,u,B,N,rfl,ht,hv,hx,hu,q⟩ := h
 refine ⟨_,B5 (G2 (i := 2) AH9.nd rfl (Or.inl rfl) (D9 E8 (pv 0) A7 (fun _ _=>rfl)))
  (B5 (G4 (E2 V3 (pv 2) (G1 (A0 E1 (A0 E1 A6))) rfl) (A9 (D8 (J5 J4 (pv 2) E1 (D7 _)))) E7)
  (B5 (G4 (E2 V3 (pv 2) (G1 (A0 E1 (A0 E1 (A0 E1 A6)))) rfl) mL E7)
  (B5 (G4 (E2 J4 (pv 2) E1 (D7 _)) (A9 (D8 (J5 J4 (D9 E8 (pv 1) A7 (fun _ _=>rfl)) (D9 E8 (pv 0) A7 (fun _ _=>rfl)) (D7 _)))) E7)
  (B5 (G4 (E2 J4 (pv 2) E1 (D7 _))
   (B5 (G4 (PW.pt (aN (E2 AI3 (D9 E8 (pv 1) A7 (fun _ _=>rfl)) E1 (D7 _)) (X6 (PW.pt (Z7 (E2 sY (D9 E8 (pv 0) A7 (fun _ _=>rfl)) fZ (D7 _)) (Y6 (E2 Z3 (D9 E8 (pv 1) A7 (fun _ _=>rfl)) (D9 E8 (pv 0) A7 (fun _ _=>rfl)) (D7 _)))))))) (A9 (D8 W7)) E7)
   (A9 (D8 (bW (J5 AU0 (D9 E8 (pv 0) A7 (fun _ _=>rfl)) fZ (D7 _)) (T3 (J5 jS (D9 E8 (pv 1) A7 (fun _ _=>rfl)) (D9 E8 (pv 0) A7 (fun _ _=>rfl)) (D7 _))))))) E7)
  (B5 (G4 (E2 J4 (pv 2) E1 (D7 _)) (A9 (D8 (bE (J5 J4 (D9 E8 (pv 1) A7 (fun _ _=>rfl)) E1 (D7 _)) (T3 (B8 IL hr rfl (A0 (pv 0) (A0 (D9 E8 (pv 1) A7 (fun _ _=>rfl)) A6))))))) E7)
  (B5 (G4 (E2 J4 (pv 2) E1 (D7 _)) (A9 (D8 (bE (J5 J4 (D9 E8 (pv 1) A7 (fun _ _=>rfl)) E1 (D7 _)) (T3 (B8 IR hr rfl (A0 (pv 0) (A0 (D9 E8 (pv 1) A7 (fun _ _=>rfl)) A6))))))) E7)
  (A9 (D8 (J5 (W1 hr.units) (pv 1) (pv 0) (D7 _)))))))))),?_⟩
 obtain ⟨b,rb,eu,hb⟩ := hu.head
 cases ht with
 | any =>
  have hv0 := hv
  simp only [TrV] at hv
  obtain ⟨a,rfl,hq⟩ := hv
  refine ⟨_,rfl,a,_,_,_,rfl,rfl,hq,rfl,?_⟩
  refine ⟨_,rfl,M0,fun p1 hp1=>⟨p1,_,rfl,.inr (SqT.of A5),rfl,rfl,_,rfl,cR (by decide +kernel) ?_⟩⟩
  have g2 := A8 hp1 (.tup [.str (Str.ofString "any"),.str (Str.ofString "nothing")])
  exact ⟨_,rfl,rfl,by
   have e : decide (V.str dP = V.str (Str.ofString "any")) = E3 .any x := by simp only [E3]; decide +kernel
   rw [e]; exact q _ g2⟩
 | nothing =>
  have hv0 := hv
  simp only [TrV] at hv
  obtain ⟨a,rfl,hq⟩ := hv
  refine ⟨_,rfl,a,_,_,_,rfl,rfl,hq,rfl,?_⟩
  refine ⟨_,rfl,M0,fun p1 hp1=>⟨p1,_,rfl,.inr (SqT.of A5),rfl,rfl,_,rfl,cR (by decide +kernel) ?_⟩⟩
  have g2 := A8 hp1 (.tup [.str (Str.ofString "any"),.str (Str.ofString "nothing")])
  exact ⟨_,rfl,rfl,by
   have e : decide (V.str jH = V.str (Str.ofString "any")) = E3 .nothing x := by simp only [E3]; decide +kernel
   rw [e]; exact q _ g2⟩
 | @sort _ kk hk6 =>
  have hv0 := hv
  simp only [TrV] at hv
  obtain ⟨a,wd,rfl,hwd,hq⟩ := hv
  refine ⟨_,rfl,a,_,_,_,rfl,rfl,hq,rfl,?_⟩
  refine ⟨_,rfl,M0,fun p1 hp1=>⟨p1,_,rfl,.inr (SqT.of A5),rfl,rfl,_,rfl,M9 (by decide +kernel) ?_⟩⟩
  refine ⟨_,rfl,N4,fun p2 hp2=>⟨p2,_,rfl,.inr (SqT.of A5),rfl,rfl,_,rfl,M9 (by decide +kernel) ?_⟩⟩
  have g2 := (A8 hp1 (.tup [.str (Str.ofString "any"),.str (Str.ofString "nothing")])).trans (A8 hp2 (.tup [.str (Str.ofString "and"),.str (Str.ofString "or"),.str (Str.ofString "less")]))
  generalize upd (upd H p1 _) p2 _ = H2 at g2
  refine ⟨_,rfl,rfl,_,rfl,T7 rfl ?_⟩
  subst eu
  refine ⟨_,rfl,b,_,_,_,rfl,rfl,g2.seqT hb,Q7 (j := 0) rfl,_,rfl,a,_,_,_,rfl,rfl,g2.seqT hq,rfl,rfl,?_⟩
  rw [nW hwd]
  have e : (J7 x == kk) = E3 (.sort kk) x := by simp only [E3]
  rw [e]
  exact q _ g2
 | @span _ lo hi =>
  have hv0 := hv
  simp only [TrV] at hv
  obtain ⟨a,rfl,hq,hne⟩ := hv
  refine ⟨_,rfl,a,_,_,_,rfl,rfl,hq,rfl,?_⟩
  refine ⟨_,rfl,M0,fun p1 hp1=>⟨p1,_,rfl,.inr (SqT.of A5),rfl,rfl,_,rfl,M9 (by decide +kernel) ?_⟩⟩
  refine ⟨_,rfl,N4,fun p2 hp2=>⟨p2,_,rfl,.inr (SqT.of A5),rfl,rfl,_,rfl,M9 (by decide +kernel) ?_⟩⟩
  have g2 := (A8 hp1 (.tup [.str (Str.ofString "any"),.str (Str.ofString "nothing")])).trans (A8 hp2 (.tup [.str (Str.ofString "and"),.str (Str.ofString "or"),.str (Str.ofString "less")]))
  generalize upd (upd H p1 _) p2 _ = H2 at g2
  refine ⟨_,rfl,rfl,_,rfl,J9 (by decide +kernel) ⟨_,rfl,rfl,_,rfl,T7 rfl ?_⟩⟩
  subst eu
  have ny : ∀ {a b : V} {A B : Prop},a ≠ b → A → if (!decide (a = b)) = true then A else B := fun {a b A B} e h=>by rw [decide_eq_false e]; exact K8 h
  have nn : ∀ {a b : V} {A B : Prop},a = b → B → if (!decide (a = b)) = true then A else B := fun {a b A B} e h=>by rw [decide_eq_true e]; exact L5 h
  have off : wdT x ≠ wI → E3 (.span lo hi) x = false → AR4 (tOr (gY (U8 rNe (U8 (eL K) (O4 1) (tC (.int 0))) (tC (.str (Str.ofString "number"))))) (AB3 (gY (U8 (fun x y H Q=>y = .non ∧ Q (.bl (!decide (x = .non))) H) (U8 (eL K) (O4 0) (tC (.int 1))) (tC .non))) (gY (U8 (iR fun i j=>.bl (decide (i < j))) (U8 (eL K) (O4 1) (tC (.int 1))) (U8 (eL K) (O4 0) (tC (.int 1))))))) (dW (tC (.bl false))) AH6 { nx := fun _ _=>True,rt := Q } [some (.ref a),some (.ref b),some (.str uQ),none,none] H2 → True := fun _ _ _=>trivial
  clear off
  cases x with
  | num i =>
   simp only [ThV] at hu
   obtain ⟨b',e,hb'⟩ := hu
   cases e
   have q' : Q (.bl (M4 i (lo,hi))) H2 := by have := q _ g2; simp only [E3] at this; exact this
   refine ⟨_,rfl,b,_,_,_,rfl,rfl,g2.seqT hb',rfl,rfl,_,rfl,nn (by decide +kernel) ?_⟩
   have fin : U7 lo i = true → dW (AR2 (U8 (fun x y H Q=>y = .non ∧ Q (.bl (decide (x = .non))) H) (U8 (eL K) (O4 0) (tC (.int 2))) (tC .non)) (U8 (iR fun i j=>.bl (decide (i ≤ j))) (U8 (eL K) (O4 1) (tC (.int 1))) (U8 (eL K) (O4 0) (tC (.int 2))))) { nx := fun _ H'=>Q .non H',rt := Q } [some (.ref a),some (.ref b),some (.str uQ),none,none] H2 := fun hlo=>by
    unfold M4 at q'
    rw [show U7 (lo,hi).1 i = true from hlo,Bool.true_and] at q'
    cases hi with
    | none=>exact ⟨_,rfl,a,_,_,_,rfl,rfl,g2.seqT hq,rfl,rfl,_,rfl,cR rfl q'⟩
    | some c=>exact ⟨_,rfl,a,_,_,_,rfl,rfl,g2.seqT hq,rfl,rfl,_,rfl,M9 rfl ⟨_,rfl,b,_,_,_,rfl,rfl,g2.seqT hb',rfl,_,rfl,a,_,_,_,rfl,rfl,g2.seqT hq,rfl,_,_,rfl,rfl,q'⟩⟩
   cases lo with
   | none=>exact ⟨_,rfl,a,_,_,_,rfl,rfl,g2.seqT hq,rfl,rfl,_,rfl,M9 rfl (L5 (fin rfl))⟩
   | some c =>
    refine ⟨_,rfl,a,_,_,_,rfl,rfl,g2.seqT hq,rfl,rfl,_,rfl,cR rfl ⟨_,rfl,b,_,_,_,rfl,rfl,g2.seqT hb',rfl,_,rfl,a,_,_,_,rfl,rfl,g2.seqT hq,rfl,_,_,rfl,rfl,_,rfl,M2 (fun cc=>?_) (fun cc=>fin ?_)⟩⟩
    ·have : U7 (some c) i = false := by have := of_decide_eq_true cc; simp [U7]; omega
     unfold M4 at q'
     rw [show U7 ((some c,hi) : Pr).1 i = false from this,Bool.false_and] at q'
     exact q'
    ·have : ¬ i < c := fun z=>cc (decide_eq_true z)
     simp [U7]; omega
  | _ =>
   have q' : Q (.bl false) H2 := by have := q _ g2; simp only [E3] at this; exact this
   exact ⟨_,rfl,b,_,_,_,rfl,rfl,g2.seqT hb,Q7 (j := 0) rfl,rfl,_,rfl,ny (AY9 (k := 2) rfl rfl) (K8 q')⟩
 | @lst n' ts m h6 hto =>
  have hv0 := hv
  simp only [TrV] at hv
  obtain ⟨a,l,ys,rfl,hq,hl,hBl,hts⟩ := hv
  refine ⟨_,rfl,a,_,_,_,rfl,rfl,hq,rfl,?_⟩
  refine ⟨_,rfl,M0,fun p1 hp1=>⟨p1,_,rfl,.inr (SqT.of A5),rfl,rfl,_,rfl,M9 (by decide +kernel) ?_⟩⟩
  refine ⟨_,rfl,N4,fun p2 hp2=>⟨p2,_,rfl,.inr (SqT.of A5),rfl,rfl,_,rfl,M9 (by decide +kernel) ?_⟩⟩
  have g2 := (A8 hp1 (.tup [.str (Str.ofString "any"),.str (Str.ofString "nothing")])).trans (A8 hp2 (.tup [.str (Str.ofString "and"),.str (Str.ofString "or"),.str (Str.ofString "less")]))
  generalize upd (upd H p1 _) p2 _ = H2 at g2
  refine ⟨_,rfl,rfl,_,rfl,J9 (by decide +kernel) ⟨_,rfl,rfl,_,rfl,J9 (by decide +kernel) ⟨_,rfl,rfl,_,rfl,T7 rfl ?_⟩⟩⟩
  subst eu
  obtain ⟨e1,e2⟩ := hsp n' rfl
  subst e1 e2
  cases x with
  | lst xs =>
   simp only [ThV] at hu
   obtain ⟨b',p,zs,e,hb',hp,hxs⟩ := hu
   cases e
   cases hx with
   | lst h40 hxo =>
    refine ⟨_,rfl,b,_,_,_,rfl,rfl,g2.seqT hb',rfl,rfl,true,by decide +kernel,K8 ?_⟩
    refine ⟨_,rfl,_,rfl,b,_,_,_,rfl,rfl,g2.seqT hb',rfl,ts,m,xs,a,l,p,ys,zs,B,_,rfl,g2.seqT hq,g2 _ _ hl,hts.kt (KT.same g2),hto,h6,g2.seqT hp,hxs.kt (KT.same g2).toKF,hxo,fun H3 g3=>?_⟩
    have := q _ (g2.trans g3)
    simp only [E3] at this
    exact this
  | _ =>
   have q' : Q (.bl false) H2 := by have := q _ g2; simp only [E3] at this; exact this
   exact ⟨_,rfl,b,_,_,_,rfl,rfl,g2.seqT hb,Q7 (j := 0) rfl,rfl,false,congrArg V.bl (nW (k := 4) rfl),L5 q'⟩
 | @rc n' ns ms ts m l1 l2 l9 hnd hnm hto =>
  have hv0 := hv
  simp only [TrV] at hv
  obtain ⟨a,l,ys,rfl,hq,hl,hBl,hts⟩ := hv
  refine ⟨_,rfl,a,_,_,_,rfl,rfl,hq,rfl,?_⟩
  refine ⟨_,rfl,M0,fun p1 hp1=>⟨p1,_,rfl,.inr (SqT.of A5),rfl,rfl,_,rfl,M9 (by decide +kernel) ?_⟩⟩
  refine ⟨_,rfl,N4,fun p2 hp2=>⟨p2,_,rfl,.inr (SqT.of A5),rfl,rfl,_,rfl,M9 (by decide +kernel) ?_⟩⟩
  have g2 := (A8 hp1 (.tup [.str (Str.ofString "any"),.str (Str.ofString "nothing")])).trans (A8 hp2 (.tup [.str (Str.ofString "and"),.str (Str.ofString "or"),.str (Str.ofString "less")]))
  generalize upd (upd H p1 _) p2 _ = H2 at g2
  refine ⟨_,rfl,rfl,_,rfl,J9 (by decide +kernel) ⟨_,rfl,rfl,_,rfl,J9 (by decide +kernel) ⟨_,rfl,rfl,_,rfl,J9 (by decide +kernel) ⟨_,rfl,rfl,_,rfl,T7 rfl ?_⟩⟩⟩⟩
  subst eu
  obtain ⟨e1,e2⟩ := hsp n' rfl
  subst e1 e2
  cases x with
  | rc fn fx =>
   simp only [ThV] at hu
   obtain ⟨b',p,zs,e,hb',hp,hxs⟩ := hu
   cases e
   cases hx with
   | rc hlx h40 hpw hst hxo =>
    refine ⟨_,rfl,b,_,_,_,rfl,rfl,g2.seqT hb',rfl,rfl,true,by decide +kernel,K8 ?_⟩
    refine ⟨_,rfl,_,rfl,b,_,_,_,rfl,rfl,g2.seqT hb',rfl,ns,ms,ts,m,fn,fx,a,l,p,ys,zs,B,_,rfl,g2.seqT hq,g2 _ _ hl,hts.kt (KT.same g2),hnd,hto,(KT.same (K := K) g2).f _ _ hp,hxs.kt (KT.same g2).toKF,hpw.imp (fun {a b} z e=>by subst e; rw [Y8] at z; cases z),h40,hxo,fun H3 g3=>q _ (g2.trans g3)⟩
  | _ =>
   have q' : Q (.bl false) H2 := by have := q _ g2; simp only [E3] at this; exact this
   exact ⟨_,rfl,b,_,_,_,rfl,rfl,g2.seqT hb,Q7 (j := 0) rfl,rfl,false,congrArg V.bl (nW (k := 5) rfl),L5 q'⟩
 | @text _ s0 hs =>
  have hv0 := hv
  simp only [TrV] at hv
  obtain ⟨a,rfl,hq⟩ := hv
  refine ⟨_,rfl,a,_,_,_,rfl,rfl,hq,rfl,?_⟩
  refine ⟨_,rfl,M0,fun p1 hp1=>⟨p1,_,rfl,.inr (SqT.of A5),rfl,rfl,_,rfl,M9 (by decide +kernel) ?_⟩⟩
  refine ⟨_,rfl,N4,fun p2 hp2=>⟨p2,_,rfl,.inr (SqT.of A5),rfl,rfl,_,rfl,M9 (by decide +kernel) ?_⟩⟩
  have g2 := (A8 hp1 (.tup [.str (Str.ofString "any"),.str (Str.ofString "nothing")])).trans (A8 hp2 (.tup [.str (Str.ofString "and"),.str (Str.ofString "or"),.str (Str.ofString "less")]))
  generalize upd (upd H p1 _) p2 _ = H2 at g2
  refine ⟨_,rfl,rfl,_,rfl,J9 (by decide +kernel) ⟨_,rfl,rfl,_,rfl,J9 (by decide +kernel) ⟨_,rfl,rfl,_,rfl,J9 (by decide +kernel) ⟨_,rfl,rfl,_,rfl,J9 (by decide +kernel) ?_⟩⟩⟩⟩
  have dv : DatV K H2 (K0 (.txt s0)) (.ref a) := ThV.dat (by simp only [ThV]; exact ⟨a,rfl,g2.seqT hq⟩)
  refine ⟨_,rfl,_,rfl,K0 x,K0 (.txt s0),ThV.dat (ThV.kt (KT.same g2).toKF hu),dv,(dU hx).lay,by simp only [K0]; exact (R4 (K5 (by decide +kernel)) (K5 hs.ok)).lay,aP (by simp [K0,PyData.depth,PyData.depthAll]),?_⟩
  rw [AQ0]
  exact q _ g2
 | @truth _ bb =>
  have hv0 := hv
  simp only [TrV] at hv
  obtain ⟨a,rfl,hq⟩ := hv
  refine ⟨_,rfl,a,_,_,_,rfl,rfl,hq,rfl,?_⟩
  refine ⟨_,rfl,M0,fun p1 hp1=>⟨p1,_,rfl,.inr (SqT.of A5),rfl,rfl,_,rfl,M9 (by decide +kernel) ?_⟩⟩
  refine ⟨_,rfl,N4,fun p2 hp2=>⟨p2,_,rfl,.inr (SqT.of A5),rfl,rfl,_,rfl,M9 (by decide +kernel) ?_⟩⟩
  have g2 := (A8 hp1 (.tup [.str (Str.ofString "any"),.str (Str.ofString "nothing")])).trans (A8 hp2 (.tup [.str (Str.ofString "and"),.str (Str.ofString "or"),.str (Str.ofString "less")]))
  generalize upd (upd H p1 _) p2 _ = H2 at g2
  refine ⟨_,rfl,rfl,_,rfl,J9 (by decide +kernel) ⟨_,rfl,rfl,_,rfl,J9 (by decide +kernel) ⟨_,rfl,rfl,_,rfl,J9 (by decide +kernel) ⟨_,rfl,rfl,_,rfl,J9 (by decide +kernel) ?_⟩⟩⟩⟩
  have dv : DatV K H2 (K0 (.tru bb)) (.ref a) := ThV.dat (by simp only [ThV]; exact ⟨a,rfl,g2.seqT hq⟩)
  refine ⟨_,rfl,_,rfl,K0 x,K0 (.tru bb),ThV.dat (ThV.kt (KT.same g2).toKF hu),dv,(dU hx).lay,by simp only [K0]; exact (R4 (K5 (by decide +kernel)) T4).lay,aP (by simp [K0,PyData.depth,PyData.depthAll]),?_⟩
  rw [AQ1]
  exact q _ g2
theorem zC (nI : Nm K mg "_law_in" fV ["_law_tree_here","_law_thing"]) (nL : Nm K mg "_law_in_list" fX ["_law_tree_here","_law_items"]) (nR : Nm K mg "_law_in_record" fW ["_law_tree_here","_law_fields"]) (m1 : mg "len" = none) (m2 : mg "all" = none) (m3 : mg "zip" = none) : ∀ n,Cal P w K mg base (2 * n + 2) "_law_in" ["_law_tree_here","_law_thing"] (hV K n)
 | 0=>nI.cal fun f fd F=>yC F (nL.no AI0 0) (nR.no bQ 0) (fun n' e=>by omega)
 | n + 1=>by
  have I0 := zC nI nL nR m1 m2 m3 n
  have L0 : Cal P w K mg base (2 * n + 2 + 1) "_law_in_list" ["_law_tree_here","_law_items"] (oB K n) := nL.cal fun f fd F=>AV0 F I0 m1 m2 m3
  have R0 : Cal P w K mg base (2 * n + 2 + 1) "_law_in_record" ["_law_tree_here","_law_fields"] (oA K n) := nR.cal fun f fd F=>AU9 F I0 m1
  exact nI.cal fun f fd F=>yC F L0 R0 (fun n' e=>⟨congrArg (oB K) (Nat.succ.inj e),congrArg (oA K) (Nat.succ.inj e)⟩)
end
end Law
namespace Law
open PySem L2 L2.Sp
mutual
theorem nX : ∀ {n : Nat} {x : Th},ThOk n x → (K0 x).depth ≤ 3 * n + 2
 | _,.non,_=>by simp [K0,PyData.depth,PyData.depthAll]
 | _,.tru b,_=>by simp [K0,PyData.depth,PyData.depthAll]
 | _,.num i,_=>by simp [K0,PyData.depth,PyData.depthAll]
 | _,.txt s,_=>by simp [K0,PyData.depth,PyData.depthAll]
 | _,.lst xs,h=>by
  cases h with
  | lst _ hx =>
   have := wZ fun x hm=>hx x hm
   simp only [K0,PyData.depth,PyData.depthAll]
   omega
 | _,.rc ns xs,h=>by
  cases h with
  | rc _ _ _ hs hx =>
   have := xA (ns := ns) fun x hm=>hx x hm
   simp only [K0,PyData.depth,PyData.depthAll]
   omega
theorem wZ : ∀ {n : Nat} {xs : List Th},(∀ x ∈ xs,ThOk n x) → PyData.depthAll (S5 xs) ≤ 3 * n + 2
 | _,[],_=>by simp [S5,PyData.depthAll]
 | _,x :: xs,h=>by
  have h1 := nX (h x List.mem_cons_self)
  have h2 := wZ (xs := xs) fun y hy=>h y (List.mem_cons_of_mem _ hy)
  simp only [S5,PyData.depthAll]
  omega
theorem xA : ∀ {n : Nat} {ns : List Str} {xs : List Th},(∀ x ∈ xs,ThOk n x) → PyData.depthAll (Q3 ns xs) ≤ 3 * n + 3
 | _,n :: ns,x :: xs,h=>by
  have h1 := nX (h x List.mem_cons_self)
  have h2 := xA (ns := ns) (xs := xs) fun y hy=>h y (List.mem_cons_of_mem _ hy)
  simp only [Q3,PyData.depthAll,PyData.depth]
  omega
 | _,[],xs,h=>by simp [Q3,PyData.depthAll]
 | _,_ :: _,[],h=>by simp [Q3,PyData.depthAll]
end
def uL (K : PySem.W.Frag) (H : Hp) (n : Nat) (kv : G3 × V) (p : Str × Th) : Prop := kv.1 = Sum.inr p.1 ∧ ThV K H p.2 kv.2 ∧ ThOk n p.2 ∧ PyData.strOk p.1 = true
structure LfD (K : PySem.W.Frag) (H : Hp) (n m : Nat) (kvs : List (G3 × V)) (L : Lf) : Prop where
 pr : Paired (uL K H n) kvs L
 nd : (L.map (·.1)).Nodup
 ln : L.length ≤ m
section
variable {P : Program} {w : World} {K : PySem.W.Frag} {mg : Str → Option Value} {base : Heap} {f : Addr} {fd : FuncData}
theorem LfD.nil {H : Hp} {n m : Nat} : LfD K H n m [] [] := ⟨.nil,List.nodup_nil,Nat.zero_le _⟩
theorem LfD.kf {H H' : Hp} {n m : Nat} {kvs : List (G3 × V)} {L : Lf} (k : KF K H H') (h : LfD K H n m kvs L) : LfD K H' n m kvs L := ⟨L2.Paired.mapP h.pr fun _ _ z=>⟨z.1,ThV.kt k z.2.1,z.2.2⟩,h.nd,h.ln⟩
theorem LfD.mono {H : Hp} {n m m' : Nat} {kvs : List (G3 × V)} {L : Lf} (h : LfD K H n m kvs L) (hm : m ≤ m') : LfD K H n m' kvs L := ⟨h.pr,h.nd,Nat.le_trans h.ln hm⟩
theorem jA {H : Hp} {n : Nat} : ∀ {kvs : List (G3 × V)} {L : Lf},Paired (uL K H n) kvs L → kvs.map (·.1) = L.map fun p=>(Sum.inr p.1 : G3)
 | _,_,.nil=>rfl
 | _,_,.cons r t=>by rw [List.map_cons,List.map_cons,r.1,jA t]
theorem tM {H : Hp} {n : Nat} {s : Str} {x : Th} {v : V} (hx : ThV K H x v) (ho : ThOk n x) (hs : PyData.strOk s = true) : ∀ {kvs : List (G3 × V)} {L : Lf},Paired (uL K H n) kvs L → Paired (uL K H n) (kvs.map fun kv=>if kv.1 = Sum.inr s then (kv.1,v) else kv) (L.map fun p=>if p.1 = s then (p.1,x) else p)
 | _,_,.nil=>.nil
 | _,_,.cons (a := kv) (b := p) r t=>by
  rw [List.map_cons,List.map_cons]
  refine .cons ?_ (tM hx ho hs t)
  by_cases e : p.1 = s
  ·rw [if_pos e,if_pos (by rw [r.1,e])]
   exact ⟨r.1,hx,ho,by rw [e]; exact hs⟩
  ·rw [if_neg e,if_neg (fun z=>e (Sum.inr.inj (r.1.symm.trans z)))]
   exact r
theorem LfD.put {H : Hp} {n m : Nat} {kvs : List (G3 × V)} {L : Lf} {s : Str} {x : Th} {v : V} (h : LfD K H n m kvs L) (hx : ThV K H x v) (ho : ThOk n x) (hs : PyData.strOk s = true) : ∃ L',LfD K H n (m + 1) (Q9 kvs (Sum.inr s) v) L' := by
 unfold Q9
 split
 ·refine ⟨L.map fun p=>if p.1 = s then (p.1,x) else p,tM hx ho hs h.pr,?_,by rw [List.length_map]; exact Nat.le_succ_of_le h.ln⟩
  rw [List.map_map]
  have : ((fun p : Str × Th=>p.1) ∘ fun p=>if p.1 = s then (p.1,x) else p) = fun p=>p.1 := by funext p; show (if p.1 = s then (p.1,x) else p).1 = p.1; split <;> rfl
  rw [this]
  exact h.nd
 ·rename_i hn
  refine ⟨L ++ [(s,x)],PySem.Paired.snoc h.pr ⟨rfl,hx,ho,hs⟩,?_,by rw [List.length_append,List.length_singleton]; exact Nat.succ_le_succ h.ln⟩
  rw [List.map_append,List.nodup_append]
  refine ⟨h.nd,by simp,fun a ha b hb e=>?_⟩
  rw [List.map_cons,List.map_nil,List.mem_singleton] at hb
  subst hb e
  refine hn ?_
  have hk := jA h.pr
  obtain ⟨p,hp,ep⟩ := List.mem_map.mp ha
  have hm : (Sum.inr p.1 : G3) ∈ kvs.map (·.1) := by rw [hk]; exact List.mem_map_of_mem (f := fun p=>(Sum.inr p.1 : G3)) hp
  obtain ⟨kv,hkv,ek⟩ := List.mem_map.mp hm
  rw [List.any_eq_true]
  exact ⟨kv,hkv,decide_eq_true (by rw [ek,ep])⟩
theorem AJ3 {H : Hp} {n : Nat} (hn : n ≤ 12) : ∀ {kvs : List (G3 × V)} {L : Lf},Paired (uL K H n) kvs L → Paired (uM K H) kvs (L.map fun p=>(p.1,K0 p.2))
 | _,_,.nil=>.nil
 | _,_,.cons r t=>.cons ⟨r.1,ThV.dat r.2.1,(dU r.2.2.1).lay,by have := nX r.2.2.1; show (K0 _).depth ≤ 40; omega⟩ (AJ3 hn t)
theorem cM {α β : Type} {R : α → β → Prop} : ∀ {xs : List α} {ys : List β},Paired R xs ys → Paired (fun b a=>R a b) ys xs
 | _,_,.nil=>.nil
 | _,_,.cons r t=>.cons r (cM t)
theorem AH4 {H H' : Hp} {n : Nat} (g : KF K H H') : ∀ {out : List V} {ks : List (G3 × V)} {L : Lf},Paired (PrK H') out ks → Paired (uL K H n) ks L → ThFs K H' (L.map (·.1)) (L.map (·.2)) out
 | _,_,_,.nil,.nil=>by simp only [List.map_nil,ThFs]
 | _,_,_,.cons a r,.cons b t=>by
  obtain ⟨c,e,hc⟩ := a
  simp only [List.map_cons,ThFs]
  refine ⟨c,_,_,by rw [e],?_,ThV.kt g b.2.1,AH4 g r t⟩
  rw [b.1] at hc
  exact SqT.of hc
theorem qL {H : Hp} : ∀ {ks : List (G3 × V)} {qs : List Kd},Paired (uM K H) ks qs → ks.map (·.1) = qs.map fun q=>(Sum.inr q.1 : G3)
 | _,_,.nil=>rfl
 | _,_,.cons r t=>by rw [List.map_cons,List.map_cons,r.k,qL t]
theorem AK7 {A : Around} {k : Nat} (hr : Room k A) : A.units + 66 < cLine := by have := hr.un; omega
abbrev sR : Stmt := N3 49
theorem BE1 : G0 ["_law_known"] ["_law_known"] (B6 sR) := ⟨rfl,rfl,rfl,by decide +kernel,rfl,by decide +kernel,by decide +kernel⟩
def kW (K : PySem.W.Frag) : Sp := fun args H Q _=>∃ (D : Addr) (kvs : List (G3 × V)) (L : Lf) (n : Nat),args = [.ref D] ∧ H D = some (.dK kvs) ∧ LfD K H n 40 kvs L ∧ n ≤ 12 ∧ ∀ H' v x,Same H H' → ThOk (n + 1) x → ThV K H' x v → Q v H'
theorem BB3 (F : Fun K "_law_as_record" "_law_as_record" sR f fd) (m1 : mg "tuple" = none) (m2 : mg "sorted" = none) : FnOk P w K mg base L9 1 f fd ["_law_known"] (kW K) := by
 refine F.ok BE1 (fun vs H Q E h=>?_) (fun cdv A outer s H vs Q E hr h=>?_)
 ·obtain ⟨D,kvs,L,n,rfl,_⟩ := h
  rfl
 obtain ⟨D,kvs,L,n,rfl,hD,hL,hn,q⟩ := h
 refine ⟨_,A9 (D8 (G1 (A0 E1 (A0 (O8 sC rfl m1 fD (A0 (K6 (nU (AK7 hr) rfl) rfl m2 mZ (A0 (xW (pv 0)) A6)) A6)) A6)))),?_⟩
 refine ⟨_,rfl,D,kvs,rfl,hD,fun iv hiv=>?_⟩
 have k1 := A8 hiv (bO D iv)
 have hL1 := hL.kf (KT.same (K := K) k1).toKF
 have e1 : (L.map fun p=>(p.1,K0 p.2)).map (·.1) = L.map (·.1) := by rw [List.map_map]; rfl
 refine ⟨iv,D,kvs,_,rfl,A5,k1 _ _ hD,AJ3 hn hL1.pr,by rw [List.length_map]; have := hL.ln; omega,by rw [e1]; exact hL.nd,fun Dl H2 out qs ks g2 hDl hDl2 hout hkd hperm hpw=>?_⟩
 obtain ⟨L',hLp,hpr⟩ := Z2 hperm.symm (cM hL1.pr)
 have hpr := cM hpr
 refine ⟨Dl,out,rfl,SqL.of hDl2,fun tp o hto hod=>⟨M0,fun p hp=>?_⟩⟩
 have k3 : Same H2 (upd H2 tp (.frz o (.tup out))) := A8 hto _
 have k4 := A8 hp (.tup [.str (Str.ofString "record"),.ref tp])
 have kk := g2.trans (k3.trans k4)
 have hfs : ThFs K _ (L'.map (·.1)) (L'.map (·.2)) out := ThFs.kt (KT.same (k3.trans k4)).toKF (AH4 (KT.same g2).toKF hout hpr)
 have hkeys := jA hpr
 have hqk : ks.map (·.1) = qs.map fun q=>(Sum.inr q.1 : G3) := qL hkd
 have hqf : qs.map (·.1) = L'.map (·.1) := by
  have := hqk.symm.trans hkeys
  have h2 := congrArg (List.map fun k : G3=>match k with | .inr s=>s | .inl _=>Str.empty) this
  rw [List.map_map,List.map_map] at h2
  exact h2
 have hnd' : (L'.map (·.1)).Nodup := (hLp.map _).nodup_iff.mpr hL.nd
 have hsrt : (L'.map (·.1)).Pairwise (fun a b=>T5 a b = true) := by
  have h1 : (L'.map (·.1)).Pairwise (fun a b=>T5 b a = false) := by rw [← hqf,List.pairwise_map]; exact hpw
  exact (h1.and hnd').imp fun {a b} z=>yN z.1 (Ne.symm z.2)
 have hall : ∀ p ∈ L',ThOk n p.2 ∧ PyData.strOk p.1 = true := fun p hp=>by
  obtain ⟨i,hi⟩ := List.mem_iff_getElem?.mp hp
  have hi2 : i < ks.length := by rw [hpr.length]; exact (List.getElem?_eq_some_iff.mp hi).1
  obtain ⟨p2,hp2,r⟩ := P5 hpr (List.getElem?_eq_getElem hi2)
  rw [hi] at hp2
  cases hp2
  exact ⟨r.2.2.1,r.2.2.2⟩
 refine q _ _ (.rc (L'.map (·.1)) (L'.map (·.2))) (k1.trans kk) (.rc (by simp) ?_ hsrt (fun s hs=>?_) (fun x hx=>?_)) ?_
 ·rw [List.length_map,hLp.length_eq]; exact hL.ln
 ·obtain ⟨p,hp,rfl⟩ := List.mem_map.mp hs; exact (hall p hp).2
 ·obtain ⟨p,hp,rfl⟩ := List.mem_map.mp hx; exact (hall p hp).1
 ·simp only [ThV]
  exact ⟨p,tp,out,rfl,SqT.of A5,⟨o,k4 _ _ A5,hod⟩,hfs⟩
end
end Law
namespace Law
open PySem L2 L2.Sp
def qS : Str := Str.ofString "q"
theorem BF2 : qS = S [113] := by decide +kernel
theorem BF1 {s : Str} (h : NmOk 8 s) : NmOk 9 (s ++ qS) ∧ s.length + qS.length ≤ sizeLine := by
 obtain ⟨l,rfl,a,b⟩ := h
 rw [BF2]
 refine ⟨⟨l ++ [113],wB _ _,fun c hc=>?_,by simp; omega⟩,rH (b := [113]) (by simp; omega)⟩
 rcases List.mem_append.mp hc with z | z
 ·exact a c z
 ·rw [List.mem_singleton.mp z]; decide
def cA (ns : List Str) : List Str := ns ++ [ns.headD Str.empty ++ qS]
theorem yG {ns : List Str} (h : jG ns) : (∀ s ∈ cA ns,PyData.strOk s = true) ∧ (cA ns).length = ns.length + 1 ∧ ∃ n0 r,ns = n0 :: r ∧ n0.length + qS.length ≤ sizeLine := by
 obtain ⟨n0,r,e⟩ : ∃ n0 r,ns = n0 :: r := by
  cases ns with
  | nil=>have := h.len; simp at this
  | cons a r=>exact ⟨a,r,rfl⟩
 have h0 := BF1 (h.ok n0 (by rw [e]; exact List.mem_cons_self))
 refine ⟨fun s hs=>?_,by simp [cA],n0,r,e,h0.2⟩
 rcases List.mem_append.mp hs with z | z
 ·exact (h.ok s z).str
 ·rw [List.mem_singleton.mp z,e]; exact h0.1.str
section
variable {P : Program} {w : World} {K : PySem.W.Frag} {mg : Str → Option Value} {base : Heap} {f : Addr} {fd : FuncData}
def Z1 (K : PySem.W.Frag) (n : Nat) : Sp := fun args H Q _=>∃ (st nl : Addr) (x : Int) (ns : List Str),args = [.ref st,.ref nl,.int (n : Int)] ∧ H st = some (.lst [.int x]) ∧ H nl = some (.lst (ns.map V.str)) ∧ jG ns ∧ ∀ (H' : Hp) (t : Th) (v : V),DS st H H' → ThOk n t → ThV K H' t v → Q v H'
abbrev fY : Stmt := N3 50
theorem jO : G0 ["_law_state_here","_law_names_here","_law_deep","_law_way","_law_known","_law_name"] ["_law_state_here","_law_names_here","_law_deep"] (B6 fY) := ⟨rfl,rfl,rfl,by decide +kernel,rfl,by decide +kernel,by decide +kernel⟩
theorem yE {k n : Nat} {sp : Sp} (F : Fun K "_law_any" "_law_any" fY f fd) (AN : Cal P w K mg base k "_law_any" ["_law_state_here","_law_names_here","_law_deep"] sp) (hsp : ∀ n',n = n' + 1 → sp = Z1 K n') (N : Cal P w K mg base 1 "_law_next" ["_law_state_here","_law_many"] Q8) (NO : Cal P w K mg base 2 "_law_number" ["_law_state_here"] fO) (TX : Cal P w K mg base 2 "_law_text" ["_law_state_here"] cW) (AR : Cal P w K mg base 1 "_law_as_record" ["_law_known"] (kW K)) (m1 : mg "range" = none) (m2 : mg "tuple" = none) (hk : 2 ≤ k) (hn : n ≤ 3) :
  FnOk P w K mg base L9 (k + 1) f fd ["_law_state_here","_law_names_here","_law_deep"] (Z1 K n) := by
 refine F.ok jO (fun vs H Q E h=>?_) (fun cdv A outer s H vs Q E hr h=>?_)
 ·obtain ⟨st,nl,x,ns,rfl,_⟩ := h
  rfl
 obtain ⟨st,nl,x,ns,rfl,hs,hnl,hns,q⟩ := h
 have hr1 := hr.mono (show 1 ≤ k by omega)
 have hr2 := hr.mono hk
 refine ⟨_,B5 (G2 (i := 3) jO.nd rfl (Or.inl rfl) (B8 N hr1 rfl (A0 (pv 0) (A0 A7 A6))))
  (B5 (G4 (E2 Z3 (pv 3) A7 (D7 _)) (A9 (D8 (D9 M7 (P8 (A0 (G1 (A0 E1 A6)) (A0 (G1 (A0 E1 (A0 (J5 J4 (B8 N hr1 rfl (A0 (pv 0) (A0 A7 A6))) A7 (D7 _)) A6))) A6))) (pv 3) (fun _ _=>rfl)))) E7)
  (B5 (G4 (E2 Z3 (pv 3) A7 (D7 _)) (A9 (D8 (G1 (A0 E1 (A0 (B8 NO hr2 rfl (A0 (pv 0) A6)) A6))))) E7)
  (B5 (G4 (PW.pt (aN (E2 Z3 (pv 3) A7 (D7 _)) (X6 (E2 J4 (pv 2) A7 (D7 _))))) (A9 (D8 (G1 (A0 E1 (A0 (B8 TX hr2 rfl (A0 (pv 0) A6)) A6))))) E7)
  (B5 (G4 (E2 Z3 (pv 3) A7 (D7 _)) (A9 (D8 (G1 (A0 E1 (A0 (O8 aJ rfl m2 fD (A0 (U6 (N' := ["_law_k","_law_state_here","_law_names_here","_law_deep"]) (fr := [none,some 0,some 1,some 2]) (own := [0]) ⟨rfl,rfl,rfl,rfl,rfl,rfl,rfl⟩ rfl (X4 rfl m1 (A0 (B8 N hr1 rfl (A0 (pv 0) (A0 A7 A6))) A6))
    (fun _ _ _ _=>G5 (i := 0) tK rfl (Or.inl rfl)) (U1 0) (fun _ _ _ _=>R7) (fun _ _ _ _=>B8 AN hr rfl (A0 (pv 1) (A0 (pv 2) (A0 (J0 bF (pv 3) A7) A6))))) A6)) A6))))) E7)
  (B5 (G2 (i := 4) jO.nd rfl (Or.inl rfl) iY)
  (B5 (R9 PassesOwn.never rfl (U5 (J0 jT (pv 1) (P8 (A0 (J0 aO (D9 M7 (pv 1) A7 (fun _ _=>rfl)) E1) A6)))) (G5 (i := 5) jO.nd rfl (Or.inl rfl))
   (A9 (G4 (E2 J4 (B8 N hr1 rfl (A0 (pv 0) (A0 A7 A6))) A7 (D7 _)) (A9 (iH (fA hr) (pv 4) (pv 5) (B8 AN hr rfl (A0 (pv 0) (A0 (pv 1) (A0 (J0 bF (pv 2) A7) A6)))) rfl)) E7)))
  (A9 (D8 (B8 AR hr1 rfl (A0 (pv 4) A6)))))))))),?_⟩
 have D0 := DS.start hs
 have nns : nl ≠ st := eT hs hnl
 refine ⟨_,rfl,st,x,8,rfl,hs,by decide,fun y way a0 a1=>?_⟩
 have D1 := D0.next y
 have hnl1 : upd H st (.lst [.int y]) nl = some (.lst (ns.map V.str)) := by rw [B7 nns]; exact hnl
 refine ⟨_,rfl,_,_,rfl,rfl,_,rfl,M2 (fun c=>?_) (fun c1=>?_)⟩
 ·have c' : way < 2 := of_decide_eq_true c
  refine ⟨X2,fun p1 hp1=>?_⟩
  have k1 := A8 hp1 (.tup [.str (Str.ofString "none")])
  refine ⟨_,rfl,st,y,2,rfl,k1 _ _ A5,by decide,fun y2 r b0 b1=>⟨rfl,M0,fun p2 hp2=>⟨M0,fun l hl=>?_⟩⟩⟩
  have D2 := (D1.same k1).next y2
  have k2 := A8 hp2 (.tup [.str (Str.ofString "truth"),.bl (decide (V.int r = V.int 1))])
  have k3 := A8 hl (.lst [.ref p1,.ref p2])
  have D3 := D2.same (k2.trans k3)
  have np1 : p1 ≠ st := D1.ne (D1.old hp1)
  have : way = 0 ∨ way = 1 := by omega
  rcases this with rfl | rfl
  ·refine ⟨_,rfl,l,_,_,.ref p1,rfl,rfl,SqL.of A5,rfl,q _ .non _ D3 .non ?_⟩
   simp only [ThV]
   exact ⟨p1,rfl,SqT.of (k3 _ _ (k2 _ _ (by rw [B7 np1]; exact A5)))⟩
  ·refine ⟨_,rfl,l,_,_,.ref p2,rfl,rfl,SqL.of A5,rfl,q _ (.tru (decide (V.int r = V.int 1))) _ D3 .tru ?_⟩
   simp only [ThV]
   exact ⟨p2,rfl,SqT.of (k3 _ _ A5)⟩
 refine ⟨_,rfl,_,_,rfl,rfl,_,rfl,M2 (fun c=>?_) (fun c2=>?_)⟩
 ·refine ⟨_,rfl,st,y,rfl,A5,fun H2 i d2=>⟨M0,fun p hp=>q _ (.num i) _ ((D1.more d2).same (A8 hp _)) .num ?_⟩⟩
  simp only [ThV]
  exact ⟨p,rfl,SqT.of A5⟩
 have tx : dW (fM (N5 (tC (.str (Str.ofString "text"))) (N5 (gZ cW [] E0 (N5 (O4 0) Y3)) Y3))) { nx := fun _ H'=>Q .non H',rt := Q } [some (.ref st),some (.ref nl),some (.int (n : Int)),some (.int way),none,none] (upd H st (.lst [.int y])) := by
  refine ⟨_,rfl,st,y,rfl,A5,fun H2 t d2 ht=>⟨M0,fun p hp=>q _ (.txt t) _ ((D1.more d2).same (A8 hp _)) (.txt ht) ?_⟩⟩
  simp only [ThV]
  exact ⟨p,rfl,SqT.of A5⟩
 refine ⟨_,rfl,_,_,rfl,rfl,_,rfl,M2 (fun _=>K8 tx) (fun _=>⟨_,rfl,rfl,_,rfl,M2 (fun _=>tx) (fun cz=>?_)⟩)⟩
 clear tx
 obtain ⟨n',rfl⟩ : ∃ n',n = n' + 1 := by
  cases n with
  | zero=>exact absurd (decide_eq_true rfl) cz
  | succ n'=>exact ⟨n',rfl⟩
 have esp := hsp n' rfl
 subst esp
 have em : ((n' + 1 : Nat) : Int) - 1 = (n' : Int) := by omega
 refine ⟨_,rfl,_,_,rfl,rfl,_,rfl,M2 (fun _=>?_) (fun _=>?_)⟩
 ·refine ⟨_,rfl,st,y,3,rfl,A5,by decide,fun y2 r b0 b1=>?_⟩
  have D2 := D1.next y2
  obtain ⟨c,rfl⟩ := Int.eq_ofNat_of_zero_le b0
  refine ⟨(c : Int),rfl,by omega,by omega,fun l hl=>?_⟩
  have hl0 := D2.old hl
  have nls : l ≠ st := D2.ne hl0
  have nnl : nl ≠ l := fun z=>by rw [← z,B7 nns,hnl1] at hl; cases hl
  refine fC (fun i zs Hx=>DS st H Hx ∧ Hx l = some (.lst zs) ∧ Hx nl = some (.lst (ns.map V.str)) ∧ ∃ ts,ThAll K Hx ts zs ∧ ts.length = i ∧ ∀ t ∈ ts,ThOk n' t)
   ⟨D2.put hl0,A5,by rw [B7 nnl,B7 nns]; exact hnl1,[],by simp only [ThAll],rfl,fun t ht=>(by cases ht)⟩ (fun i zs Hx hi hinv=>?_) (fun zs Hx hinv=>?_)
  ·obtain ⟨d,hlx,hnlx,ts,hts,htl,hto⟩ := hinv
   obtain ⟨y3,hy3⟩ := d.s
   dsimp only [V0,P6]
   refine aG ⟨_,rfl,_,rfl,_,rfl,_,_,rfl,rfl,st,nl,y3,ns,by show [V.ref st,V.ref nl,V.int (((n' + 1 : Nat) : Int) - 1)] = _; rw [em],hy3,hnlx,hns,fun H4 t v d4 ht hv=>?_⟩
   have hl4 := d4.g _ _ nls hlx
   have kf := KF.lst (K := K) (o := .lst (zs ++ [v])) hl4
   refine ⟨hl4,P0 (by rw [hts.length]; omega),(d.more d4).put hl0,A5,by rw [B7 nnl]; exact d4.g _ _ nns hnlx,ts ++ [t],(hts.kt (d4.kt.toKF.trans kf)).snoc (hv.kt kf),by simp [htl],fun t' ht'=>?_⟩
   rcases List.mem_append.mp ht' with z | z
   ·exact hto t' z
   ·rw [List.mem_singleton.mp z]; exact ht
  ·obtain ⟨d,hlx,hnlx,ts,hts,htl,hto⟩ := hinv
   refine ⟨l,_,rfl,.inl ⟨SqL.of hlx,fun p hp=>⟨M0,fun p2 hp2=>?_⟩⟩⟩
   have k1 := A8 hp (.tup zs)
   have k2 := A8 hp2 (.tup [.str (Str.ofString "list"),.ref p])
   have htl' : ts.length = c := by simpa using htl
   refine q _ (.lst ts) _ (d.same (k1.trans k2)) (.lst (by omega) hto) ?_
   simp only [ThV]
   exact ⟨p2,p,zs,rfl,SqT.of A5,SqT.of (k2 _ _ A5),hts.kt (KT.same (k1.trans k2)).toKF⟩
 ·intro D hD
  have hD0 := D1.old hD
  have D2 := D1.put (o := .dK []) hD0
  have nDs : D ≠ st := D1.ne hD0
  have k1 := A8 hD (.dK [])
  obtain ⟨hq1,hq2,n0,r0,en,hfit⟩ := yG hns
  have hat : Y0 (ns.map V.str) 0 = some (.str n0) := by rw [en]; exact Q7 (j := 0) rfl
  refine ⟨_,rfl,_,rfl,nl,_,_,.str n0,rfl,rfl,SqL.of (k1 _ _ hnl1),hat,_,_,rfl,rfl,hfit,X2,fun l1 hl1=>?_⟩
  have k2 := A8 hl1 (.lst [.str (n0 ++ Str.ofString "q")])
  refine ⟨nl,l1,_,_,rfl,rfl,k2 _ _ (k1 _ _ hnl1),A5,T9 (by rw [List.length_map]; show ns.length + 1 ≤ 1000; have := hns.len; omega),fun l2 hl2=>?_⟩
  have eq2 : ns.map V.str ++ [.str (n0 ++ Str.ofString "q")] = (cA ns).map V.str := by unfold cA; rw [List.map_append,en]; rfl
  rw [eq2]
  have k3 := A8 hl2 (.lst ((cA ns).map V.str))
  have D3 := D2.same (k2.trans k3)
  have hD3 := k3 _ _ (k2 _ _ (A5 (H := upd H st (.lst [.int y])) (a := D) (o := .dK [])))
  have hnl3 := k3 _ _ (k2 _ _ (k1 _ _ hnl1))
  have nDl2 : l2 ≠ D := fun z=>by rw [z,k2 _ _ A5] at hl2; cases hl2
  have nDnl : nl ≠ D := fun z=>by rw [← z,hnl1] at hD; cases hD
  refine ⟨l2,rfl,⟨_,SqL.of A5⟩,?_⟩
  refine Y9 (xs := (cA ns).map V.str) (fun i σ Hx=>∃ (b5 : Option V) (kvs : List (G3 × V)) (L : Lf),σ = [some (.ref st),some (.ref nl),some (.int ((n' + 1 : Nat) : Int)),some (.int way),some (.ref D),b5] ∧ DS st H Hx ∧ Hx D = some (.dK kvs) ∧ Hx l2 = some (.lst ((cA ns).map V.str)) ∧ Hx nl = some (.lst (ns.map V.str)) ∧ LfD K Hx n' i kvs L)
   ⟨none,[],[],rfl,D3,hD3,A5,hnl3,LfD.nil⟩ (fun i σ Hx _ ⟨_,_,_,_,_,_,h,_⟩=>SqL.of h) (fun i v σ Hx hv hinv=>?_) (fun σ Hx hinv=>?_)
  ·obtain ⟨b5,kvs,L,rfl,d,hDx,hl2x,hnlx,hL⟩ := hinv
   obtain ⟨nm,hnm,rfl⟩ : ∃ nm,(cA ns)[i]? = some nm ∧ v = .str nm := by
    rw [List.getElem?_map] at hv
    cases z : (cA ns)[i]? with
    | none=>rw [z] at hv; cases hv
    | some nm=>rw [z] at hv; cases hv; exact ⟨nm,rfl,rfl⟩
   have hil : i < 10 := by have := (List.getElem?_eq_some_iff.mp hnm).1; have := hns.len; omega
   obtain ⟨y1,hy1⟩ := d.s
   have nl2s := eT hy1 hl2x
   refine ⟨_,rfl,st,y1,3,rfl,hy1,by decide,fun y2 r b0 b1=>⟨rfl,_,rfl,M2 (fun _=>?_) (fun _=>?_)⟩⟩
   ·have dx : DS st Hx (upd Hx st (.lst [.int y2])) := (DS.start hy1).next y2
    refine ⟨_,rfl,_,rfl,_,rfl,_,_,rfl,rfl,st,nl,y2,ns,by show [V.ref st,V.ref nl,V.int (((n' + 1 : Nat) : Int) - 1)] = _; rw [em],A5,by rw [B7 nns]; exact hnlx,hns,fun H4 t v d4 ht hv=>?_⟩
    have dx4 := dx.more d4
    have hD4 := dx4.g _ _ nDs hDx
    have kf := KF.dct (K := K) (o := .dK (Q9 kvs (Sum.inr nm) v)) hD4
    obtain ⟨L',hL'⟩ := (hL.kf dx4.kt.toKF).put hv ht (hq1 nm (List.mem_of_getElem? hnm))
    have hkl : kvs.length ≤ i := by rw [hL.pr.length]; exact hL.ln
    refine ⟨_,rfl,_,rfl,D,_,rfl,DPut.k (k := Sum.inr nm) hD4 (P0 (by omega)),?_⟩
    exact ⟨_,_,L',rfl,(d.more dx4).put hD0,A5,by rw [B7 nDl2]; exact dx4.g _ _ nl2s hl2x,by rw [B7 nDnl]; exact dx4.g _ _ nns hnlx,hL'.kf kf⟩
   ·have dx : DS st Hx (upd Hx st (.lst [.int y2])) := (DS.start hy1).next y2
    exact ⟨_,kvs,L,rfl,d.next y2,by rw [B7 nDs]; exact hDx,by rw [B7 nl2s]; exact hl2x,by rw [B7 nns]; exact hnlx,(hL.kf dx.kt.toKF).mono (Nat.le_succ _)⟩
  ·obtain ⟨b5,kvs,L,rfl,d,hDx,hl2x,hnlx,hL⟩ := hinv
   refine ⟨_,rfl,D,kvs,L,n',rfl,hDx,hL.mono (by rw [List.length_map]; have := hns.len; omega),by omega,fun H2 v t g2 ht hv=>q H2 t v (d.same g2) ht hv⟩
theorem uI (nA : Nm K mg "_law_any" fY ["_law_state_here","_law_names_here","_law_deep"]) (N : Cal P w K mg base 1 "_law_next" ["_law_state_here","_law_many"] Q8) (NO : Cal P w K mg base 2 "_law_number" ["_law_state_here"] fO) (TX : Cal P w K mg base 2 "_law_text" ["_law_state_here"] cW) (AR : Cal P w K mg base 1 "_law_as_record" ["_law_known"] (kW K)) (m1 : mg "range" = none) (m2 : mg "tuple" = none) : ∀ n,n ≤ 3 → Cal P w K mg base (n + 3) "_law_any" ["_law_state_here","_law_names_here","_law_deep"] (Z1 K n)
 | 0,h=>nA.cal fun f fd F=>yE F (nA.no jO 1) (fun n' e=>by omega) N NO TX AR m1 m2 (by decide) h
 | n + 1,h=>nA.cal fun f fd F=>yE F (uI nA N NO TX AR m1 m2 n (by omega)) (fun n' e=>congrArg (Z1 K) (Nat.succ.inj e)) N NO TX AR m1 m2 (by omega) h
end
end Law
namespace Law
open PySem L2 L2.Sp
section
variable {P : Program} {w : World} {K : PySem.W.Frag} {mg : Str → Option Value} {base : Heap} {f : Addr} {fd : FuncData}
theorem ThAll.append {H : Hp} : ∀ {xs ys : List Th} {vs us : List V},ThAll K H xs vs → ThAll K H ys us → ThAll K H (xs ++ ys) (vs ++ us)
 | [],ys,vs,us,h,h'=>by simp only [ThAll] at h; subst h; exact h'
 | x :: xs,ys,vs,us,h,h'=>by simp only [ThAll] at h; obtain ⟨v,r,rfl,h1,h2⟩ := h; simp only [List.cons_append,ThAll]; exact ⟨v,_,rfl,h1,ThAll.append h2 h'⟩
theorem ThAll.tail {H : Hp} {xs : List Th} {vs : List V} (h : ThAll K H xs vs) : ThAll K H xs.tail vs.tail := by
 cases xs with
 | nil=>simp only [ThAll] at h; subst h; simp only [List.tail_nil,ThAll]
 | cons x xs=>simp only [ThAll] at h; obtain ⟨v,r,rfl,_,h2⟩ := h; exact h2
theorem ThAll.rep {H : Hp} {x : Th} {v : V} (h : ThV K H x v) : ∀ k : Nat,ThAll K H (List.replicate k x) (List.replicate k v)
 | 0=>by simp only [List.replicate_zero,ThAll]
 | k + 1=>by simp only [List.replicate_succ,ThAll]; exact ⟨v,_,rfl,h,ThAll.rep h k⟩
def cY (K : PySem.W.Frag) (n d : Nat) : Sp := fun args H Q _=>∃ (st nl : Addr) (x : Int) (ns : List Str) (t : Tr) (v : V) (B : Hp),args = [.ref st,v,.ref nl,.int (d : Int)] ∧ H st = some (.lst [.int x]) ∧ H nl = some (.lst (ns.map V.str)) ∧ jG ns ∧ TrOk n t ∧ TrV K H B t v ∧ ∀ (H' : Hp) (th : Th) (u : V),DS st H H' → ThOk (n + d) th → ThV K H' th u → Q u H'
def uZ (K : PySem.W.Frag) (n d : Nat) : Sp := fun args H Q _=>∃ (st nl a l : Addr) (x : Int) (ns fn : List Str) (ms : List Bool) (ts : List Tr) (m : Bool) (ys : List V) (B : Hp),args = [.ref st,.ref a,.ref nl,.int (d : Int)] ∧ H st = some (.lst [.int x]) ∧ H nl = some (.lst (ns.map V.str)) ∧ jG ns ∧ SqT K H a [.str wR,.ref l,.bl m] ∧ H l = some (.lst ys) ∧ TrFs K H B fn ms ts ys ∧ fn.length ≤ 9 ∧ (∀ s ∈ fn,PyData.strOk s = true) ∧ (∀ t ∈ ts,TrOk n t) ∧ ∀ (H' : Hp) (th : Th) (u : V),DS st H H' → ThOk (n + d + 1) th → ThV K H' th u → Q u H'
abbrev mH : Stmt := N3 51
theorem kX : G0 ["_law_state_here","_law_tree_here","_law_names_here","_law_deep","_law_known","_law_name","_law_inner","_law_must"] ["_law_state_here","_law_tree_here","_law_names_here","_law_deep"] (B6 mH) := ⟨rfl,rfl,rfl,by decide +kernel,rfl,by decide +kernel,by decide +kernel⟩
theorem BB0 {k n d : Nat} (F : Fun K "_law_near_record" "_law_near_record" mH f fd) (NE : Cal P w K mg base k "_law_near" ["_law_state_here","_law_tree_here","_law_names_here","_law_deep"] (cY K n d)) (AN1 : Cal P w K mg base 4 "_law_any" ["_law_state_here","_law_names_here","_law_deep"] (Z1 K 1)) (N : Cal P w K mg base 1 "_law_next" ["_law_state_here","_law_many"] Q8) (AR : Cal P w K mg base 1 "_law_as_record" ["_law_known"] (kW K)) (m1 : mg "len" = none) (hk : 4 ≤ k) (hd : 1 ≤ d) (hnd : n + d ≤ 12) : FnOk P w K mg base L9 (k + 1) f fd ["_law_state_here","_law_tree_here","_law_names_here","_law_deep"] (uZ K n d) := by
 refine F.ok kX (fun vs H Q E h=>?_) (fun cdv A outer s H vs Q E hr h=>?_)
 ·obtain ⟨st,nl,a,l,x,ns,fn,ms,ts,m,ys,B,rfl,_⟩ := h
  rfl
 obtain ⟨st,nl,a,l,x,ns,fn,ms,ts,m,ys,B,rfl,hs,hnl,hns,ha,hl,hF,hf9,hfs,hto,q⟩ := h
 have hr1 := hr.mono (show 1 ≤ k by omega)
 have hr4 := hr.mono hk
 refine ⟨_,B5 (G2 (i := 4) kX.nd rfl (Or.inl rfl) iY)
  (B5 (R9 PassesOwn.never rfl (U5 (D9 E8 (pv 1) A7 (fun _ _=>rfl))) (V2 (n := 3) rfl (K1 (G5 (i := 5) kX.nd rfl (Or.inl rfl)) (K1 (G5 (i := 6) kX.nd rfl (Or.inl rfl)) (K1 (G5 (i := 7) kX.nd rfl (Or.inl rfl)) T2))))
   (A9 (G4 (E2 bY (B8 N hr1 rfl (A0 (pv 0) (A0 A7 A6))) A7 (D7 _)) (A9 (iH (fA hr) (pv 4) (pv 5) (B8 NE hr rfl (A0 (pv 0) (A0 (pv 6) (A0 (pv 2) (A0 (pv 3) A6))))) rfl)) E7)))
  (X3 (G4 (E2 J4 (B8 N hr1 rfl (A0 (pv 0) (A0 A7 A6))) A7 (D7 _))
   (A9 (iH (fA hr) (pv 4) (D9 M7 (J0 jT (pv 2) (P8 (A0 (J0 aO (D9 M7 (pv 2) A7 (fun _ _=>rfl)) E1) A6))) (B8 N hr1 rfl (A0 (pv 0) (A0 (J0 U3 (K6 M6 rfl m1 PySem.boot_len (A0 (pv 2) A6)) A7) A6))) (fun _ _=>rfl)) (B8 AN1 hr4 rfl (A0 (pv 0) (A0 (pv 2) (A0 A7 A6)))) rfl)) E7)
  (A9 (D8 (B8 AR hr1 rfl (A0 (pv 4) A6)))))),?_⟩
 have D0 := DS.start hs
 have nns : nl ≠ st := eT hs hnl
 have lF := hF.length
 intro D hD
 have k1 := A8 hD (.dK [])
 have D1 := D0.put (o := .dK []) hD
 have nDs : D ≠ st := D0.ne hD
 have nDnl : nl ≠ D := fun z=>by rw [← z,hnl] at hD; cases hD
 refine ⟨_,rfl,a,_,_,_,rfl,rfl,k1.seqT ha,rfl,l,rfl,⟨_,SqL.of (k1 _ _ hl)⟩,?_⟩
 refine Y9 (xs := ys) (fun i σ Hx=>∃ (b5 b6 b7 : Option V) (kvs : List (G3 × V)) (L : Lf),σ = [some (.ref st),some (.ref a),some (.ref nl),some (.int (d : Int)),some (.ref D),b5,b6,b7] ∧ DS st H Hx ∧ Hx D = some (.dK kvs) ∧ Hx nl = some (.lst (ns.map V.str)) ∧ LfD K Hx (n + d) i kvs L)
  ⟨none,none,none,[],[],rfl,D1,A5,k1 _ _ hnl,LfD.nil⟩ (fun i σ Hx _ ⟨_,_,_,_,_,_,dx,_⟩=>SqL.of (dx.kt (K := K) |>.l _ _ hF.noI hl)) (fun i y σ Hx hy hinv=>?_) (fun σ Hx hinv=>?_)
 ·obtain ⟨b5,b6,b7,kvs,L,rfl,dd,hDx,hnlx,hL⟩ := hinv
  obtain ⟨nm,b,t,c,v,hni,hbi,hti,rfl,hc,htv⟩ := hF.get hy
  have hi9 : i < 9 := by have := (List.getElem?_eq_some_iff.mp hni).1; omega
  refine ⟨c,_,rfl,dd.kt.t _ _ hc,rfl,_,_,rfl,_,_,rfl,_,_,rfl,rfl,?_⟩
  obtain ⟨y1,hy1⟩ := dd.s
  have dx : ∀ y2,DS st Hx (upd Hx st (.lst [.int y2])) := fun y2=>(DS.start hy1).next y2
  refine ⟨_,rfl,st,y1,5,rfl,hy1,by decide,fun y2 r b0 b1=>⟨_,_,rfl,rfl,_,rfl,M2 (fun _=>?_) (fun _=>?_)⟩⟩
  ·refine ⟨_,rfl,_,rfl,_,rfl,_,rfl,st,nl,y2,ns,t,v,B,rfl,A5,by rw [B7 nns]; exact hnlx,hns,hto t (List.mem_of_getElem? hti),TrV.kt (dd.next y2).kt htv,fun H4 th u d4 ht hu=>?_⟩
   have dx4 := (dx y2).more d4
   have hD4 := dx4.g _ _ nDs hDx
   have kf := KF.dct (K := K) (o := .dK (Q9 kvs (Sum.inr nm) u)) hD4
   obtain ⟨L',hL'⟩ := (hL.kf dx4.kt.toKF).put hu ht (hfs nm (List.mem_of_getElem? hni))
   have hkl : kvs.length ≤ i := by rw [hL.pr.length]; exact hL.ln
   refine ⟨_,rfl,_,rfl,D,_,rfl,DPut.k (k := Sum.inr nm) hD4 (P0 (by omega)),?_⟩
   exact ⟨_,_,_,_,L',rfl,(dd.more dx4).put hD,A5,by rw [B7 nDnl]; exact dx4.g _ _ nns hnlx,hL'.kf kf⟩
  ·exact ⟨_,_,_,kvs,L,rfl,dd.next y2,by rw [B7 nDs]; exact hDx,by rw [B7 nns]; exact hnlx,(hL.kf (dx y2).kt.toKF).mono (Nat.le_succ _)⟩
 obtain ⟨b5,b6,b7,kvs,L,rfl,dd,hDx,hnlx,hL⟩ := hinv
 have hL9 : LfD K Hx (n + d) 9 kvs L := hL.mono (by omega)
 refine ⟨fun σ' H'=>∃ (kvs : List (G3 × V)) (L : Lf),σ' = [some (.ref st),some (.ref a),some (.ref nl),some (.int (d : Int)),some (.ref D),b5,b6,b7] ∧ DS st H H' ∧ H' D = some (.dK kvs) ∧ LfD K H' (n + d) 10 kvs L,?_,?_⟩
 ·obtain ⟨y1,hy1⟩ := dd.s
  have dx : ∀ y2,DS st Hx (upd Hx st (.lst [.int y2])) := fun y2=>(DS.start hy1).next y2
  refine ⟨_,rfl,st,y1,3,rfl,hy1,by decide,fun y2 r b0 b1=>⟨rfl,_,rfl,M2 (fun _=>?_) (fun _=>?_)⟩⟩
  ·refine ⟨_,rfl,_,rfl,st,nl,y2,ns,rfl,A5,by rw [B7 nns]; exact hnlx,hns,fun H4 th u d4 ht hu=>?_⟩
   have dx4 := (dx y2).more d4
   have hD4 := dx4.g _ _ nDs hDx
   have hnl4 := dx4.g _ _ nns hnlx
   obtain ⟨y4,hy4⟩ := dx4.s
   obtain ⟨hq1,hq2,n0,r0,en,hfit⟩ := yG hns
   have hat : Y0 (ns.map V.str) 0 = some (.str n0) := by rw [en]; exact Q7 (j := 0) rfl
   refine ⟨_,rfl,_,rfl,_,rfl,nl,_,_,.str n0,rfl,rfl,SqL.of hnl4,hat,_,_,rfl,rfl,hfit,X2,fun l1 hl1=>?_⟩
   have k2 := A8 hl1 (.lst [.str (n0 ++ Str.ofString "q")])
   refine ⟨nl,l1,_,_,rfl,rfl,k2 _ _ hnl4,A5,T9 (by rw [List.length_map]; show ns.length + 1 ≤ 1000; have := hns.len; omega),fun l2 hl2=>?_⟩
   have eq2 : ns.map V.str ++ [.str (n0 ++ Str.ofString "q")] = (cA ns).map V.str := by unfold cA; rw [List.map_append,en]; rfl
   rw [eq2]
   have k3 := A8 hl2 (.lst ((cA ns).map V.str))
   have k23 := k2.trans k3
   have nl2s : l2 ≠ st := fun z=>by rw [z,k2 _ _ hy4] at hl2; cases hl2
   refine ⟨_,rfl,_,rfl,nl,_,rfl,.inl (SqL.of (k23 _ _ hnl4)),_,_,rfl,rfl,st,y4,_,rfl,k23 _ _ hy4,by omega,fun y5 r5 c0 c1=>?_⟩
   obtain ⟨nm,hnm,hatn⟩ := uG (cA ns) c0 (by rw [hq2]; rw [List.length_map] at c1; omega)
   refine ⟨l2,_,_,.str nm,rfl,rfl,SqL.of (by rw [B7 nl2s]; exact A5),hatn,?_⟩
   have dx6 : DS st Hx _ := (dx4.same k23).next y5
   have hD6 := dx6.g _ _ nDs hDx
   have d46 := ((DS.start hy4).same k23).next y5
   have kf := KF.dct (K := K) (o := .dK (Q9 kvs (Sum.inr nm) u)) hD6
   obtain ⟨L',hL'⟩ := (hL9.kf dx6.kt.toKF).put (ThV.kt d46.kt.toKF hu) (ht.mono (show 1 ≤ n + d by omega)) (hq1 nm hnm)
   have hkl : kvs.length ≤ 9 := by rw [hL9.pr.length]; exact hL9.ln
   refine ⟨D,_,rfl,DPut.k (k := Sum.inr nm) hD6 (P0 (by omega)),?_⟩
   exact ⟨_,L',rfl,(dd.more dx6).put hD,A5,hL'.kf kf⟩
  ·exact ⟨kvs,L,rfl,dd.next y2,by rw [B7 nDs]; exact hDx,(hL9.kf (dx y2).kt.toKF).mono (by decide)⟩
 ·rintro σ' H' ⟨kvs,L,rfl,dd,hDx,hL⟩
  exact ⟨_,rfl,D,kvs,L,n + d,rfl,hDx,hL.mono (by decide),hnd,fun H2 u th g2 ht hu=>q H2 th u (dd.same g2) ht hu⟩
abbrev bT : Stmt := N3 52
theorem dA : G0 ["_law_state_here","_law_tree_here","_law_names_here","_law_deep","_law_word","_law_ends","_law_items"] ["_law_state_here","_law_tree_here","_law_names_here","_law_deep"] (B6 bT) := ⟨rfl,rfl,rfl,by decide +kernel,rfl,by decide +kernel,by decide +kernel⟩
theorem AO8 : (["_law_inner","_law_state_here","_law_names_here","_law_deep"] : List Str).Nodup := by decide +kernel
theorem AV4 : (["_law_end"] : List Str).Nodup := by decide +kernel
def gK (lo hi : En) : List Int := [lo,hi].filterMap id
theorem tF {k n d : Nat} {sp spr : Sp} (F : Fun K "_law_near" "_law_near" bT f fd) (NE : Cal P w K mg base k "_law_near" ["_law_state_here","_law_tree_here","_law_names_here","_law_deep"] sp) (NR : Cal P w K mg base k "_law_near_record" ["_law_state_here","_law_tree_here","_law_names_here","_law_deep"] spr) (hsp : ∀ n',n = n' + 1 → sp = cY K n' d ∧ spr = uZ K n' d) (AN : Cal P w K mg base 5 "_law_any" ["_law_state_here","_law_names_here","_law_deep"] (Z1 K d)) (AN1 : Cal P w K mg base 4 "_law_any" ["_law_state_here","_law_names_here","_law_deep"] (Z1 K 1)) (N : Cal P w K mg base 1 "_law_next" ["_law_state_here","_law_many"] Q8)
  (m1 : mg "len" = none) (m2 : mg "tuple" = none) (hk : 5 ≤ k) (hd : 1 ≤ d) : FnOk P w K mg base L9 (k + 1) f fd ["_law_state_here","_law_tree_here","_law_names_here","_law_deep"] (cY K n d) := by
 refine F.ok dA (fun vs H Q E h=>?_) (fun cdv A outer s H vs Q E hr h=>?_)
 ·obtain ⟨st,nl,x,ns,t,v,B,rfl,_⟩ := h
  rfl
 obtain ⟨st,nl,x,ns,t,v,B,rfl,hs,hnl,hns,ht,hv,q⟩ := h
 have hr1 := hr.mono (show 1 ≤ k by omega)
 have hr4 := hr.mono (show 4 ≤ k by omega)
 have hr5 := hr.mono hk
 refine ⟨_,B5 (G2 (i := 4) dA.nd rfl (Or.inl rfl) (D9 E8 (pv 1) A7 (fun _ _=>rfl)))
  (B5 (G4 (E2 V3 (pv 4) (G1 (A0 E1 (A0 E1 (A0 E1 A6)))) rfl) mL E7)
  (B5 (G4 (PW.pt (aN (E2 V3 (pv 4) (G1 (A0 E1 (A0 E1 (A0 E1 A6)))) rfl) (X6 (E2 J4 (B8 N hr1 rfl (A0 (pv 0) (A0 A7 A6))) A7 (D7 _))))) (A9 (D8 (B8 AN hr5 rfl (A0 (pv 0) (A0 (pv 2) (A0 (pv 3) A6)))))) E7)
  (B5 (G4 (E2 J4 (pv 4) E1 (D7 _))
   (B5 (iI (i := 5) (N' := ["_law_end"]) (fr := [none]) (own := [0]) ⟨rfl,rfl,rfl,rfl,rfl,rfl,rfl⟩ rfl dA.nd rfl rfl (bC (bD AL5 (pv 1) (dF A7) dG))
    (fun _ _ _ _=>G5 (i := 0) AV4 rfl (Or.inl rfl)) (U1 0) (fun _ _ _ _=>sU (E2 sY (pv 0) fZ (D7 _))) (fun _ _ _ _=>pv 0))
   (A9 (D8 (G1 (A0 E1 (A0 (J0 bF (J0 U3 (D9 M7 (pv 5) (B8 N hr1 rfl (A0 (pv 0) (A0 (K6 M6 rfl m1 PySem.boot_len (A0 (pv 5) A6)) A6))) (fun _ _=>rfl)) (B8 N hr1 rfl (A0 (pv 0) (A0 A7 A6)))) A7) A6)))))) E7)
  (B5 (G4 (E2 J4 (pv 4) E1 (D7 _))
   (B5 (iI (i := 6) (N' := ["_law_inner","_law_state_here","_law_names_here","_law_deep"]) (fr := [none,some 0,some 2,some 3]) (own := [0]) ⟨rfl,rfl,rfl,rfl,rfl,rfl,rfl⟩ rfl dA.nd rfl rfl (U5 (D9 E8 (pv 1) A7 (fun _ _=>rfl)))
    (fun _ _ _ _=>G5 (i := 0) AO8 rfl (Or.inl rfl)) (U1 0) (fun _ _ _ _=>R7) (fun _ _ _ _=>B8 NE hr rfl (A0 (pv 1) (A0 (pv 0) (A0 (pv 2) (A0 (pv 3) A6))))))
   (X3 (G4 (E2 J4 (B8 N hr1 rfl (A0 (pv 0) (A0 A7 A6))) A7 (D7 _))
    (A9 (G2 (i := 6) dA.nd rfl (Or.inl rfl) (J0 jT (bD sI (pv 6) (dF A7) dG) (J0 AT9 (P8 (A0 (B8 AN1 hr4 rfl (A0 (pv 0) (A0 (pv 2) (A0 A7 A6)))) A6)) (B8 N hr1 rfl (A0 (pv 0) (A0 A7 A6))))))) E7)
   (A9 (D8 (G1 (A0 E1 (A0 (O8 aJ rfl m2 fD (A0 (pv 6) A6)) A6))))))) E7)
  (B5 (G4 (E2 J4 (pv 4) E1 (D7 _)) (A9 (D8 (B8 NR hr rfl (A0 (pv 0) (A0 (pv 1) (A0 (pv 2) (A0 (pv 3) A6))))))) E7)
  (A9 (D8 (pv 1)))))))),?_⟩
 have D0 := DS.start hs
 have nns : nl ≠ st := eT hs hnl
 have anyT : ∀ {H1 : Hp} {W : St},DS st H H1 → H1 nl = some (.lst (ns.map V.str)) → W[0]? = some (some (.ref st)) → W[2]? = some (some (.ref nl)) → W[3]? = some (some (.int (d : Int))) → dW (gZ (Z1 K d) [] E0 (N5 (O4 0) (N5 (O4 2) (N5 (O4 3) Y3)))) { nx := fun _ H'=>Q .non H',rt := Q } W H1 := fun {H1 W} d1 hn1 e0 e2 e3=>by
  obtain ⟨y1,hy1⟩ := d1.s
  exact ⟨_,e0,_,e2,_,e3,st,nl,y1,ns,rfl,hy1,hn1,hns,fun H' th u d' ht' hu'=>q H' th u (d1.more d') (ht'.mono (by omega)) hu'⟩
 cases ht with
 | any =>
  have hv0 := hv
  simp only [TrV] at hv
  obtain ⟨a,rfl,hq⟩ := hv
  refine ⟨_,rfl,a,_,_,_,rfl,rfl,hq,rfl,?_⟩
  refine ⟨_,rfl,N4,fun p1 hp1=>⟨p1,_,rfl,.inr (SqT.of A5),rfl,rfl,_,rfl,M9 (by decide +kernel) ?_⟩⟩
  have k1 := A8 hp1 (.tup [.str (Str.ofString "and"),.str (Str.ofString "or"),.str (Str.ofString "less")])
  refine ⟨_,rfl,N4,fun p2 hp2=>⟨p2,_,rfl,.inr (SqT.of A5),rfl,rfl,_,rfl,cR (by decide +kernel) (K8 ?_)⟩⟩
  have k2 := k1.trans (A8 hp2 (.tup [.str (Str.ofString "any"),.str (Str.ofString "nothing"),.str (Str.ofString "sort")]))
  exact anyT (D0.same k2) (k2 _ _ hnl) rfl rfl rfl
 | nothing =>
  have hv0 := hv
  simp only [TrV] at hv
  obtain ⟨a,rfl,hq⟩ := hv
  refine ⟨_,rfl,a,_,_,_,rfl,rfl,hq,rfl,?_⟩
  refine ⟨_,rfl,N4,fun p1 hp1=>⟨p1,_,rfl,.inr (SqT.of A5),rfl,rfl,_,rfl,M9 (by decide +kernel) ?_⟩⟩
  have k1 := A8 hp1 (.tup [.str (Str.ofString "and"),.str (Str.ofString "or"),.str (Str.ofString "less")])
  refine ⟨_,rfl,N4,fun p2 hp2=>⟨p2,_,rfl,.inr (SqT.of A5),rfl,rfl,_,rfl,cR (by decide +kernel) (K8 ?_)⟩⟩
  have k2 := k1.trans (A8 hp2 (.tup [.str (Str.ofString "any"),.str (Str.ofString "nothing"),.str (Str.ofString "sort")]))
  exact anyT (D0.same k2) (k2 _ _ hnl) rfl rfl rfl
 | @sort _ kk hk6 =>
  have hv0 := hv
  simp only [TrV] at hv
  obtain ⟨a,wd,rfl,hwd,hq⟩ := hv
  refine ⟨_,rfl,a,_,_,_,rfl,rfl,hq,rfl,?_⟩
  refine ⟨_,rfl,N4,fun p1 hp1=>⟨p1,_,rfl,.inr (SqT.of A5),rfl,rfl,_,rfl,M9 (by decide +kernel) ?_⟩⟩
  have k1 := A8 hp1 (.tup [.str (Str.ofString "and"),.str (Str.ofString "or"),.str (Str.ofString "less")])
  refine ⟨_,rfl,N4,fun p2 hp2=>⟨p2,_,rfl,.inr (SqT.of A5),rfl,rfl,_,rfl,cR (by decide +kernel) (K8 ?_)⟩⟩
  have k2 := k1.trans (A8 hp2 (.tup [.str (Str.ofString "any"),.str (Str.ofString "nothing"),.str (Str.ofString "sort")]))
  exact anyT (D0.same k2) (k2 _ _ hnl) rfl rfl rfl
 | @span _ lo hi =>
  have hv0 := hv
  simp only [TrV] at hv
  obtain ⟨a,rfl,hq,hne⟩ := hv
  refine ⟨_,rfl,a,_,_,_,rfl,rfl,hq,rfl,?_⟩
  refine ⟨_,rfl,N4,fun p1 hp1=>⟨p1,_,rfl,.inr (SqT.of A5),rfl,rfl,_,rfl,M9 (by decide +kernel) ?_⟩⟩
  have k1 := A8 hp1 (.tup [.str (Str.ofString "and"),.str (Str.ofString "or"),.str (Str.ofString "less")])
  refine ⟨_,rfl,N4,fun p2 hp2=>⟨p2,_,rfl,.inr (SqT.of A5),rfl,rfl,_,rfl,M9 (by decide +kernel) ?_⟩⟩
  have k2 := k1.trans (A8 hp2 (.tup [.str (Str.ofString "any"),.str (Str.ofString "nothing"),.str (Str.ofString "sort")]))
  have D2 := D0.same k2
  have hnl2 := k2 _ _ hnl
  have hs2 := k2 _ _ hs
  clear k1
  generalize upd (upd H p1 _) p2 _ = H2 at k2 D2 hnl2 hs2
  refine ⟨_,rfl,st,x,8,rfl,hs2,by decide,fun y r b0 b1=>⟨rfl,_,rfl,M2 (fun _=>anyT (D2.next y) (by rw [B7 nns]; exact hnl2) rfl rfl rfl) (fun _=>?_)⟩⟩
  have D3 := D2.next y
  have hnl3 : upd H2 st (.lst [.int y]) nl = some (.lst (ns.map V.str)) := by rw [B7 nns]; exact hnl2
  have hs3 : upd H2 st (.lst [.int y]) st = some (.lst [.int y]) := A5
  clear hs2 hnl2
  generalize upd H2 st (.lst [.int y]) = H3 at D3 hnl3 hs3
  have kt := D3.kt (K := K)
  refine ⟨_,rfl,rfl,_,rfl,T7 rfl ?_⟩
  refine ⟨_,rfl,_,rfl,a,_,rfl,rfl,rfl,kt.t _ _ hq,fun p4 H4 g4 hp4=>?_⟩
  have D4 := D3.same g4
  refine ⟨p4,rfl,⟨_,hp4⟩,fun l hl=>?_⟩
  have hl0 := D4.old hl
  have nls : l ≠ st := D4.ne hl0
  have k5 := A8 hl (.lst [])
  refine fB (xs := [oV lo,oV hi]) (fun i zs Hx=>Same H4 Hx ∧ Hx l = some (.lst zs) ∧ zs = (([lo,hi].take i).filterMap id).map V.int) ⟨k5,A5,rfl⟩ (fun i zs Hx _ ⟨g,_⟩=>g.seqT hp4) (fun i e zs Hx he hinv=>?_) (fun zs Hx hinv=>?_)
  ·obtain ⟨g,hlx,ez⟩ := hinv
   dsimp only [V0,P6]
   have hi2 : i < 2 := by have := (List.getElem?_eq_some_iff.mp he).1; simpa using this
   obtain ⟨en,hen,rfl⟩ : ∃ en,[lo,hi][i]? = some en ∧ e = oV en := by
    have : i = 0 ∨ i = 1 := by omega
    rcases this with rfl | rfl
    ·cases he; exact ⟨lo,rfl,rfl⟩
    ·cases he; exact ⟨hi,rfl,rfl⟩
   refine ⟨_,rfl,rfl,_,rfl,?_⟩
   rw [M5 hen,List.filterMap_append]
   cases en with
   | none=>exact M9 rfl ⟨g,hlx,by rw [ez]; simp⟩
   | some c =>
    refine cR rfl ⟨_,rfl,hlx,P0 ?_,fun b o h=>by rw [B7 (E6 h hl)]; exact g _ _ h,A5,by rw [ez]; simp [oV]⟩
    rw [ez,List.length_map]
    have := List.length_filterMap_le id ([lo,hi].take i)
    rw [List.length_take] at this
    omega
  ·obtain ⟨g,hlx,ez⟩ := hinv
   have ez : zs = (gK lo hi).map V.int := ez
   subst ez
   have hpos : 0 < (gK lo hi).length := by
    cases lo with
    | some c=>simp [gK]
    | none =>
     cases hi with
     | some c=>simp [gK]
     | none=>exact absurd ⟨rfl,rfl⟩ hne
   have D5 := D4.same g
   obtain ⟨y5,hy5⟩ := D5.s
   refine ⟨_,rfl,_,rfl,_,rfl,l,_,rfl,.inl (SqL.of hlx),st,y5,_,rfl,hy5,by rw [List.length_map]; omega,fun y6 r6 c0 c1=>?_⟩
   obtain ⟨c,hc⟩ := AQ6 (gK lo hi) c0 (by rw [List.length_map] at c1; omega)
   have D6 := D5.next y6
   refine ⟨l,_,_,.int c,rfl,rfl,SqL.of (by rw [B7 nls]; exact hlx),hc,_,rfl,st,y6,3,rfl,A5,by decide,fun y7 r7 e0 e1=>⟨_,_,rfl,rfl,_,_,rfl,rfl,M0,fun p hp=>?_⟩⟩
   refine q _ (.num (c + r7 - 1)) _ ((D6.next y7).same (A8 hp _)) .num ?_
   simp only [ThV]
   exact ⟨p,rfl,SqT.of A5⟩
 | @lst n' ts m h6 hto =>
  have hv0 := hv
  simp only [TrV] at hv
  obtain ⟨a,ll,ys,rfl,hq,hll,hBl,hts⟩ := hv
  refine ⟨_,rfl,a,_,_,_,rfl,rfl,hq,rfl,?_⟩
  refine ⟨_,rfl,N4,fun p1 hp1=>⟨p1,_,rfl,.inr (SqT.of A5),rfl,rfl,_,rfl,M9 (by decide +kernel) ?_⟩⟩
  have k1 := A8 hp1 (.tup [.str (Str.ofString "and"),.str (Str.ofString "or"),.str (Str.ofString "less")])
  refine ⟨_,rfl,N4,fun p2 hp2=>⟨p2,_,rfl,.inr (SqT.of A5),rfl,rfl,_,rfl,M9 (by decide +kernel) ?_⟩⟩
  have k2 := k1.trans (A8 hp2 (.tup [.str (Str.ofString "any"),.str (Str.ofString "nothing"),.str (Str.ofString "sort")]))
  have D2 := D0.same k2
  have hnl2 := k2 _ _ hnl
  have hs2 := k2 _ _ hs
  clear k1
  generalize upd (upd H p1 _) p2 _ = H2 at k2 D2 hnl2 hs2
  refine ⟨_,rfl,st,x,8,rfl,hs2,by decide,fun y r b0 b1=>⟨rfl,_,rfl,M2 (fun _=>anyT (D2.next y) (by rw [B7 nns]; exact hnl2) rfl rfl rfl) (fun _=>?_)⟩⟩
  have D3 := D2.next y
  have hnl3 : upd H2 st (.lst [.int y]) nl = some (.lst (ns.map V.str)) := by rw [B7 nns]; exact hnl2
  have hs3 : upd H2 st (.lst [.int y]) st = some (.lst [.int y]) := A5
  clear hs2 hnl2
  generalize upd H2 st (.lst [.int y]) = H3 at D3 hnl3 hs3
  have kt := D3.kt (K := K)
  obtain ⟨e1,e2⟩ := hsp n' rfl
  subst e1 e2
  refine ⟨_,rfl,rfl,_,rfl,J9 (by decide +kernel) ⟨_,rfl,rfl,_,rfl,T7 rfl ?_⟩⟩
  have hll3 := kt.l _ _ hts.noI hll
  refine ⟨_,rfl,a,_,_,_,rfl,rfl,kt.t _ _ hq,rfl,ll,rfl,⟨_,SqL.of hll3⟩,fun l hl=>?_⟩
  have hl0 := D3.old hl
  have nls : l ≠ st := D3.ne hl0
  have nnl : nl ≠ l := fun z=>by rw [← z,hnl3] at hl; cases hl
  have hyl := hts.length
  refine cI (xs := ys) (fun i zs Hx=>DS st H Hx ∧ Hx l = some (.lst zs) ∧ Hx nl = some (.lst (ns.map V.str)) ∧ ∃ xs,ThAll K Hx xs zs ∧ xs.length = i ∧ ∀ t ∈ xs,ThOk (n' + d) t)
   ⟨D3.put hl0,A5,by rw [B7 nnl]; exact hnl3,[],by simp only [ThAll],rfl,fun t ht=>(by cases ht)⟩ (fun i zs Hx _ ⟨dd,_⟩=>SqL.of (dd.kt (K := K) |>.l _ _ hts.noI hll)) (fun i e zs Hx he hinv=>?_) (fun zs Hx hinv=>?_)
  ·obtain ⟨dd,hlx,hnlx,xs,hxs,hxl,hxo⟩ := hinv
   obtain ⟨t,hti,htv⟩ := hts.get he
   have hi6 : i < 6 := by have := (List.getElem?_eq_some_iff.mp hti).1; omega
   obtain ⟨y3,hy3⟩ := dd.s
   dsimp only [V0,P6]
   refine aG ⟨_,rfl,_,rfl,_,rfl,_,rfl,st,nl,y3,ns,t,e,B,rfl,hy3,hnlx,hns,hto t (List.mem_of_getElem? hti),TrV.kt dd.kt htv,fun H4 th u d4 ht hu=>?_⟩
   have hl4 := d4.g _ _ nls hlx
   have kf := KF.lst (K := K) (o := .lst (zs ++ [u])) hl4
   refine ⟨hl4,P0 (by rw [hxs.length]; omega),(dd.more d4).put hl0,A5,by rw [B7 nnl]; exact d4.g _ _ nns hnlx,xs ++ [th],(hxs.kt (d4.kt.toKF.trans kf)).snoc (hu.kt kf),by simp [hxl],fun t' ht'=>?_⟩
   rcases List.mem_append.mp ht' with z | z
   ·exact hxo t' z
   ·rw [List.mem_singleton.mp z]; exact ht
  ·obtain ⟨dd,hlx,hnlx,xs,hxs,hxl,hxo⟩ := hinv
   obtain ⟨y3,hy3⟩ := dd.s
   have dx : ∀ y2,DS st Hx (upd Hx st (.lst [.int y2])) := fun y2=>(DS.start hy3).next y2
   refine ⟨fun σ' H'=>∃ (li : Addr) (zs : List V) (xs : List Th),σ' = [some (.ref st),some (.ref a),some (.ref nl),some (.int (d : Int)),some (.str wL),none,some (.ref li)] ∧ DS st H H' ∧ H' li = some (.lst zs) ∧ ThAll K H' xs zs ∧ xs.length ≤ 10 ∧ ∀ t ∈ xs,ThOk (n' + d) t,?_,?_⟩
   ·refine ⟨_,rfl,st,y3,3,rfl,hy3,by decide,fun y4 r4 c0 c1=>⟨rfl,_,rfl,M2 (fun _=>?_) (fun _=>?_)⟩⟩
    ·have hlx4 := (dx y4).g _ _ nls hlx
     refine ⟨_,rfl,_,rfl,l,_,rfl,SqL.of hlx4,fun ls hls=>?_⟩
     have ec : V4 zs (some 1) none = zs.tail := by have := qY zs 1; rw [List.drop_one] at this; exact this
     rw [ec]
     have k5 := A8 hls (.lst zs.tail)
     have d5 := (dx y4).same k5
     have hls0 := dd.old ((dx y4).old hls)
     have nlss : ls ≠ st := dd.ne hls0
     obtain ⟨y5,hy5⟩ := d5.s
     refine ⟨_,rfl,_,rfl,st,nl,y5,ns,rfl,hy5,d5.g _ _ nns hnlx,hns,fun H6 th u d6 ht hu=>⟨X2,fun lo hlo=>?_⟩⟩
     have d56 := d5.more d6
     have hls6 := d6.g _ _ nlss (A5 (H := upd Hx st (.lst [.int y4])) (a := ls) (o := .lst zs.tail))
     have k7 := A8 hlo (.lst [u])
     have d7 := d56.same k7
     have nlo : lo ≠ st := d56.ne (d56.old hlo)
     obtain ⟨y7,hy7⟩ := d7.s
     refine ⟨_,rfl,st,y7,3,rfl,hy7,by decide,fun y8 r8 e0 e1=>?_⟩
     obtain ⟨rk,rfl⟩ := Int.eq_ofNat_of_zero_le e0
     refine ⟨lo,_,_,rfl,rfl,by rw [B7 nlo]; exact A5,by omega,by omega,T9 (by rw [Int.toNat_natCast]; show 1 * rk ≤ 1000; omega),fun lr hlr=>?_⟩
     rw [Int.toNat_natCast]
     have er : (List.replicate rk [u]).flatten = List.replicate rk u := by
      clear e0 e1 hlr
      induction rk with
      | zero=>rfl
      | succ m ih=>rw [List.replicate_succ,List.flatten_cons,ih,List.replicate_succ]; rfl
     rw [er]
     have d8 := d7.next y8
     have k9 := A8 hlr (.lst (List.replicate rk u))
     have d9 := d8.same k9
     have hls9 := k9 _ _ (show upd (upd H6 lo (.lst [u])) st (.lst [.int y8]) ls = some (.lst zs.tail) by rw [B7 nlss]; exact k7 _ _ hls6)
     have hzl := hxs.length
     refine ⟨ls,lr,_,_,rfl,rfl,hls9,A5,T9 (by rw [List.length_replicate,List.length_tail]; omega),fun lc hlc=>?_⟩
     have k10 := A8 hlc (.lst (zs.tail ++ List.replicate rk u))
     have d10 := d9.same k10
     have du : DS st H6 _ := ((((DS.start (d56.s.choose_spec)).same k7).next y8).same k9).same k10
     refine ⟨lc,_,xs.tail ++ List.replicate rk th,rfl,dd.more d10,A5,(hxs.kt d10.kt.toKF).tail.append (ThAll.rep (hu.kt du.kt.toKF) rk),?_,fun t' ht'=>?_⟩
     ·rw [List.length_append,List.length_tail,List.length_replicate]; omega
     ·rcases List.mem_append.mp ht' with z | z
      ·exact hxo t' (List.mem_of_mem_tail z)
      ·rw [(List.mem_replicate.mp z).2]; exact ht.mono (by omega)
    ·exact ⟨l,zs,xs,rfl,dd.next y4,by rw [B7 nls]; exact hlx,hxs.kt (dx y4).kt.toKF,by omega,hxo⟩
   ·rintro σ' H' ⟨li,zs',xs',rfl,dd',hli,hxs',hxl',hxo'⟩
    refine ⟨_,rfl,li,_,rfl,.inl ⟨SqL.of hli,fun p hp=>⟨M0,fun p2 hp2=>?_⟩⟩⟩
    have k5 := A8 hp (.tup zs')
    have k6 := A8 hp2 (.tup [.str (Str.ofString "list"),.ref p])
    have e : n' + 1 + d = n' + d + 1 := by omega
    refine q _ (.lst xs') _ (dd'.same (k5.trans k6)) (by rw [e]; exact .lst (by omega) hxo') ?_
    simp only [ThV]
    exact ⟨p2,p,zs',rfl,SqT.of A5,SqT.of (k6 _ _ A5),hxs'.kt (KT.same (k5.trans k6)).toKF⟩
 | @rc n' fn ms ts m l1 l2 l9 hnd hnm hto =>
  have hv0 := hv
  simp only [TrV] at hv
  obtain ⟨a,ll,ys,rfl,hq,hll,hBl,hts⟩ := hv
  refine ⟨_,rfl,a,_,_,_,rfl,rfl,hq,rfl,?_⟩
  refine ⟨_,rfl,N4,fun p1 hp1=>⟨p1,_,rfl,.inr (SqT.of A5),rfl,rfl,_,rfl,M9 (by decide +kernel) ?_⟩⟩
  have k1 := A8 hp1 (.tup [.str (Str.ofString "and"),.str (Str.ofString "or"),.str (Str.ofString "less")])
  refine ⟨_,rfl,N4,fun p2 hp2=>⟨p2,_,rfl,.inr (SqT.of A5),rfl,rfl,_,rfl,M9 (by decide +kernel) ?_⟩⟩
  have k2 := k1.trans (A8 hp2 (.tup [.str (Str.ofString "any"),.str (Str.ofString "nothing"),.str (Str.ofString "sort")]))
  have D2 := D0.same k2
  have hnl2 := k2 _ _ hnl
  have hs2 := k2 _ _ hs
  clear k1
  generalize upd (upd H p1 _) p2 _ = H2 at k2 D2 hnl2 hs2
  refine ⟨_,rfl,st,x,8,rfl,hs2,by decide,fun y r b0 b1=>⟨rfl,_,rfl,M2 (fun _=>anyT (D2.next y) (by rw [B7 nns]; exact hnl2) rfl rfl rfl) (fun _=>?_)⟩⟩
  have D3 := D2.next y
  have hnl3 : upd H2 st (.lst [.int y]) nl = some (.lst (ns.map V.str)) := by rw [B7 nns]; exact hnl2
  have hs3 : upd H2 st (.lst [.int y]) st = some (.lst [.int y]) := A5
  clear hs2 hnl2
  generalize upd H2 st (.lst [.int y]) = H3 at D3 hnl3 hs3
  have kt := D3.kt (K := K)
  obtain ⟨e1,e2⟩ := hsp n' rfl
  subst e1 e2
  refine ⟨_,rfl,rfl,_,rfl,J9 (by decide +kernel) ⟨_,rfl,rfl,_,rfl,J9 (by decide +kernel) ⟨_,rfl,rfl,_,rfl,T7 rfl ?_⟩⟩⟩
  have e : n' + 1 + d = n' + d + 1 := by omega
  rw [e] at q
  exact ⟨_,rfl,_,rfl,_,rfl,_,rfl,st,nl,a,ll,y,ns,fn,ms,ts,m,ys,B,rfl,hs3,hnl3,hns,kt.t _ _ hq,kt.l _ _ hts.noI hll,hts.kt kt,l9,fun s hs=>(hnm s hs).str,hto,fun H' th u d' ht' hu'=>q H' th u (D3.more d') ht' hu'⟩
 | @text _ s0 hss =>
  have hv0 := hv
  simp only [TrV] at hv
  obtain ⟨a,rfl,hq⟩ := hv
  refine ⟨_,rfl,a,_,_,_,rfl,rfl,hq,rfl,?_⟩
  refine ⟨_,rfl,N4,fun p1 hp1=>⟨p1,_,rfl,.inr (SqT.of A5),rfl,rfl,_,rfl,M9 (by decide +kernel) ?_⟩⟩
  have k1 := A8 hp1 (.tup [.str (Str.ofString "and"),.str (Str.ofString "or"),.str (Str.ofString "less")])
  refine ⟨_,rfl,N4,fun p2 hp2=>⟨p2,_,rfl,.inr (SqT.of A5),rfl,rfl,_,rfl,M9 (by decide +kernel) ?_⟩⟩
  have k2 := k1.trans (A8 hp2 (.tup [.str (Str.ofString "any"),.str (Str.ofString "nothing"),.str (Str.ofString "sort")]))
  have D2 := D0.same k2
  have hnl2 := k2 _ _ hnl
  have hs2 := k2 _ _ hs
  clear k1
  generalize upd (upd H p1 _) p2 _ = H2 at k2 D2 hnl2 hs2
  refine ⟨_,rfl,st,x,8,rfl,hs2,by decide,fun y r b0 b1=>⟨rfl,_,rfl,M2 (fun _=>anyT (D2.next y) (by rw [B7 nns]; exact hnl2) rfl rfl rfl) (fun _=>?_)⟩⟩
  have D3 := D2.next y
  have hnl3 : upd H2 st (.lst [.int y]) nl = some (.lst (ns.map V.str)) := by rw [B7 nns]; exact hnl2
  have hs3 : upd H2 st (.lst [.int y]) st = some (.lst [.int y]) := A5
  clear hs2 hnl2
  generalize upd H2 st (.lst [.int y]) = H3 at D3 hnl3 hs3
  have kt := D3.kt (K := K)
  refine ⟨_,rfl,rfl,_,rfl,J9 (by decide +kernel) ⟨_,rfl,rfl,_,rfl,J9 (by decide +kernel) ⟨_,rfl,rfl,_,rfl,J9 (by decide +kernel) ?_⟩⟩⟩
  refine ⟨_,rfl,q _ (.txt s0) _ D3 (.txt hss) ?_⟩
  simp only [ThV]
  exact ⟨a,rfl,kt.t _ _ hq⟩
 | @truth _ bb =>
  have hv0 := hv
  simp only [TrV] at hv
  obtain ⟨a,rfl,hq⟩ := hv
  refine ⟨_,rfl,a,_,_,_,rfl,rfl,hq,rfl,?_⟩
  refine ⟨_,rfl,N4,fun p1 hp1=>⟨p1,_,rfl,.inr (SqT.of A5),rfl,rfl,_,rfl,M9 (by decide +kernel) ?_⟩⟩
  have k1 := A8 hp1 (.tup [.str (Str.ofString "and"),.str (Str.ofString "or"),.str (Str.ofString "less")])
  refine ⟨_,rfl,N4,fun p2 hp2=>⟨p2,_,rfl,.inr (SqT.of A5),rfl,rfl,_,rfl,M9 (by decide +kernel) ?_⟩⟩
  have k2 := k1.trans (A8 hp2 (.tup [.str (Str.ofString "any"),.str (Str.ofString "nothing"),.str (Str.ofString "sort")]))
  have D2 := D0.same k2
  have hnl2 := k2 _ _ hnl
  have hs2 := k2 _ _ hs
  clear k1
  generalize upd (upd H p1 _) p2 _ = H2 at k2 D2 hnl2 hs2
  refine ⟨_,rfl,st,x,8,rfl,hs2,by decide,fun y r b0 b1=>⟨rfl,_,rfl,M2 (fun _=>anyT (D2.next y) (by rw [B7 nns]; exact hnl2) rfl rfl rfl) (fun _=>?_)⟩⟩
  have D3 := D2.next y
  have hnl3 : upd H2 st (.lst [.int y]) nl = some (.lst (ns.map V.str)) := by rw [B7 nns]; exact hnl2
  have hs3 : upd H2 st (.lst [.int y]) st = some (.lst [.int y]) := A5
  clear hs2 hnl2
  generalize upd H2 st (.lst [.int y]) = H3 at D3 hnl3 hs3
  have kt := D3.kt (K := K)
  refine ⟨_,rfl,rfl,_,rfl,J9 (by decide +kernel) ⟨_,rfl,rfl,_,rfl,J9 (by decide +kernel) ⟨_,rfl,rfl,_,rfl,J9 (by decide +kernel) ?_⟩⟩⟩
  refine ⟨_,rfl,q _ (.tru bb) _ D3 .tru ?_⟩
  simp only [ThV]
  exact ⟨a,rfl,kt.t _ _ hq⟩
theorem qB {d : Nat} (nN : Nm K mg "_law_near" bT ["_law_state_here","_law_tree_here","_law_names_here","_law_deep"]) (nR : Nm K mg "_law_near_record" mH ["_law_state_here","_law_tree_here","_law_names_here","_law_deep"]) (AN : Cal P w K mg base 5 "_law_any" ["_law_state_here","_law_names_here","_law_deep"] (Z1 K d)) (AN1 : Cal P w K mg base 4 "_law_any" ["_law_state_here","_law_names_here","_law_deep"] (Z1 K 1)) (N : Cal P w K mg base 1 "_law_next" ["_law_state_here","_law_many"] Q8) (AR : Cal P w K mg base 1 "_law_as_record" ["_law_known"] (kW K)) (m1 : mg "len" = none) (m2 : mg "tuple" = none) (hd : 1 ≤ d) (hd2 : d ≤ 2) : ∀ n,n ≤ 2 → Cal P w K mg base (2 * n + 6) "_law_near" ["_law_state_here","_law_tree_here","_law_names_here","_law_deep"] (cY K n d)
 | 0,_=>nN.cal fun f fd F=>tF F (nN.no dA 4) (nR.no kX 4) (fun n' e=>by omega) AN AN1 N m1 m2 (by decide) hd
 | n + 1,h=>by
  have N0 := qB nN nR AN AN1 N AR m1 m2 hd hd2 n (by omega)
  have R0 : Cal P w K mg base (2 * n + 6 + 1) "_law_near_record" ["_law_state_here","_law_tree_here","_law_names_here","_law_deep"] (uZ K n d) := nR.cal fun f fd F=>BB0 F N0 AN1 N AR m1 (by omega) hd (by omega)
  exact nN.cal fun f fd F=>tF F (N0.mono (Nat.le_succ _)) R0 (fun n' e=>⟨congrArg (fun n=>cY K n d) (Nat.succ.inj e),congrArg (fun n=>uZ K n d) (Nat.succ.inj e)⟩) AN AN1 N m1 m2 (by omega) hd
end
end Law
namespace Law
open PySem L2 L2.Sp
theorem AW3 : ∀ {t : Tr} {d : PyData},G8 t d → ∃ ds,d = .tuple ds
 | .any,d,h=>by simp only [G8] at h; exact ⟨_,h⟩
 | .nothing,d,h=>by simp only [G8] at h; exact ⟨_,h⟩
 | .sort k,d,h=>by simp only [G8] at h; exact ⟨_,h.2⟩
 | .span lo hi,d,h=>by simp only [G8] at h; exact ⟨_,h⟩
 | .text s,d,h=>by simp only [G8] at h; exact ⟨_,h⟩
 | .truth b,d,h=>by simp only [G8] at h; exact ⟨_,h⟩
 | .lst ts m,d,h=>by simp only [G8] at h; obtain ⟨ds,_,h⟩ := h; exact ⟨_,h⟩
 | .rc ns ms ts m,d,h=>by simp only [G8] at h; obtain ⟨_,_,_,ds,_,es,_,_,h⟩ := h; exact ⟨_,h⟩
section
variable {P : Program} {w : World} {K : PySem.W.Frag} {mg : Str → Option Value} {base : Heap} {f : Addr} {fd : FuncData} {T : Addr}
theorem tO {H : Hp} : ∀ {ts : List Tr} {ds : List PyData} {zs : List V},KdAll ts ds → DatAll K H ds zs → ∀ x ∈ zs,∃ a,x = .ref a
 | [],ds,zs,h,h',x,hx=>by simp only [KdAll] at h; subst h; simp only [DatAll] at h'; subst h'; cases hx
 | t :: ts,ds,zs,h,h',x,hx=>by
  simp only [KdAll] at h
  obtain ⟨d,r,rfl,h1,h2⟩ := h
  simp only [DatAll] at h'
  obtain ⟨y,r',rfl,e1,e2⟩ := h'
  rcases List.mem_cons.mp hx with rfl | hx
  ·obtain ⟨ds,rfl⟩ := AW3 h1
   obtain ⟨a,_,e,_⟩ := N6.mp e1
   exact ⟨a,e⟩
  ·exact tO h2 e2 x hx
theorem tU {H : Hp} : ∀ {zs : List V} {fl : List Fl},Paired (FldV K H) zs fl → ∀ x ∈ zs,∃ a,x = .ref a
 | _,_,.nil,x,hx=>by cases hx
 | _,_,.cons r t,x,hx=>by
  rcases List.mem_cons.mp hx with rfl | hx
  ·obtain ⟨c,_,e,_⟩ := r; exact ⟨c,e⟩
  ·exact tU t x hx
theorem AM5 (i j k : Nat) : wD [i,j,k] (cE (P6 i) (cE (P6 j) (cE (P6 k) vW))) := fun vs σ H Q h=>by
 obtain ⟨v,r,e1,v2,r2,e2,v3,r3,e3,e4,q⟩ := h
 refine ⟨v,r,e1,v2,r2,e2,v3,r3,e3,e4,q,by simp,fun m hm=>?_⟩
 have h1 : i ≠ m := fun e=>hm (by simp [e])
 have h2 : j ≠ m := fun e=>hm (by simp [e])
 have h3 : k ≠ m := fun e=>hm (by simp [e])
 rw [List.getElem?_set_ne h3,List.getElem?_set_ne h2,List.getElem?_set_ne h1]
abbrev sP : Stmt := N3 53
theorem vI : G0 ["_law_kinds","_law_more","_law_handed","_law_found"] ["_law_kinds","_law_more"] (B6 sP) := ⟨rfl,rfl,rfl,by decide +kernel,rfl,by decide +kernel,by decide +kernel⟩
def vC (K : PySem.W.Frag) (T : Addr) : Sp := fun args H Q _=>∃ (l : Addr) (H0 : Hp) (zs : List V) (ts : List Tr) (m : Bool),args = [.ref l,.bl m] ∧ KsI K T H0 H l zs ts ∧ ∀ H2 u d,TB T Q5 Q4 H0 H2 → G8 (.lst ts m) d → G6 d → DatV K H2 d u → Q u H2
theorem AD8 (F : Fun K "_law_list_kind" "_law_list_kind" sP f fd) (G : Gk K mg) (OL : CalD P w K mg base 2 "of_list" ["kinds","more"] (aX K)) (m1 : mg "list" = none) (m2 : mg "len" = none) (m3 : mg "int" = none) : FnOk P w K mg base L9 3 f fd ["_law_kinds","_law_more"] (vC K T) := by
 refine F.ok vI (fun vs H Q E h=>?_) (fun cdv A outer s H vs Q E hr h=>?_)
 ·obtain ⟨l,H0,zs,ts,m,rfl,_⟩ := h
  rfl
 obtain ⟨l,H0,zs,ts,m,rfl,hI,q⟩ := h
 obtain ⟨gn,ys,mn,hn⟩ := G.nt
 refine ⟨_,B5 (G2 (i := 2) vI.nd rfl (Or.inl rfl) (O8 gM rfl m1 uE (A0 (pv 0) A6)))
  (X3 (G4 (PW.pt (Z7 (Z8 (Q6 (pv 1))) (Y6 (E2 J4 (J0 X7 (K6 M6 rfl m2 PySem.boot_len (A0 (pv 0) A6)) A7) A7 (D7 _)))))
   (A9 (G2 (i := 3) vI.nd rfl (Or.inl rfl) (iJ OL hr rfl (A0 (pv 2) A6))))
   (A9 (G2 (i := 3) vI.nd rfl (Or.inl rfl) (B8 OL.cal hr rfl (A0 (pv 2) (A0 (pv 1) A6))))))
  (A9 (D8 (D9 M7 (P8 (A0 (pv 3) (A0 (M3 (v := .ref gn) rfl mn rfl) A6))) (O8 aF rfl m3 gO (A0 (J5 (xZ hr.units) (pv 2) (pv 0) (D7 _)) A6)) (fun _ _=>rfl))))),?_⟩
 refine ⟨_,rfl,l,zs,rfl,.inl (SqL.of hI.at'),fun lh hlh=>?_⟩
 have k1 := A8 hlh (.lst zs)
 obtain ⟨ds,h1,h2,hok⟩ := hI.ex
 have h1' := qX (KT.same (K := K) k1).toKF hok h1
 have hrefs := tO h2 h1
 have call : ∀ {R : VK},(∀ u H2 d,Same (upd H lh (.lst zs)) H2 → G8 (.lst ts m) d → G6 d → DatV K H2 d u → R u H2) → aX K [.ref lh,.bl m] (upd H lh (.lst zs)) R E0 := fun {R} hR =>
  ⟨lh,zs,ds,m,rfl,SqL.of A5,h1',hok,fun H2 u g hu=>hR u H2 _ g (by simp only [G8]; exact ⟨ds,h2,rfl⟩) (R1 (bG hok)) hu⟩
 refine ⟨fun σ' H'=>∃ u d,σ' = [some (.ref l),some (.bl m),some (.ref lh),some u] ∧ Same (upd H lh (.lst zs)) H' ∧ G8 (.lst ts m) d ∧ G6 d ∧ DatV K H' d u,?_,?_⟩
 ·refine ⟨_,rfl,_,rfl,?_⟩
  cases m with
  | true=>exact L5 (L5 ⟨_,rfl,_,rfl,call fun u H2 d g hk ho hd=>⟨u,d,rfl,g,hk,ho,hd⟩⟩)
  | false=>exact K8 ⟨_,rfl,l,_,rfl,.inl (SqL.of (k1 _ _ hI.at')),_,_,rfl,rfl,(by show (0 : Int) < 2; decide),rfl,_,rfl,M2 (fun _=>⟨_,rfl,call fun u H2 d g hk ho hd=>⟨u,d,rfl,g,hk,ho,hd⟩⟩) (fun _=>⟨_,rfl,_,rfl,call fun u H2 d g hk ho hd=>⟨u,d,rfl,g,hk,ho,hd⟩⟩)⟩
 ·rintro σ' H2 ⟨u,d,rfl,g,hk,ho,hd⟩
  refine ⟨_,rfl,M0,fun lr hlr=>?_⟩
  have k3 := A8 hlr (.lst [u,.ref gn])
  refine ⟨_,rfl,_,rfl,lh,l,zs,rfl,rfl,k3 _ _ (g _ _ A5),k3 _ _ (g _ _ (k1 _ _ hI.at')),hrefs,_,rfl,lr,_,_,u,rfl,rfl,SqL.of A5,rfl,?_⟩
  exact q _ u d (hI.tb.same (k1.trans (g.trans k3))) hk ho (O7 k3 ho hd)
abbrev sM : Stmt := N3 54
theorem vG : G0 ["_law_fields","_law_more","_law_handed","_law_found"] ["_law_fields","_law_more"] (B6 sM) := ⟨rfl,rfl,rfl,by decide +kernel,rfl,by decide +kernel,by decide +kernel⟩
def uX (K : PySem.W.Frag) (T : Addr) : Sp := fun args H Q _=>∃ (l : Addr) (H0 : Hp) (zs : List V) (fn : List Str) (ms : List Bool) (ts : List Tr) (m : Bool),args = [.ref l,.bl m] ∧ FsI K T H0 H l zs fn ms ts ∧ fn.Nodup ∧ ts.length < 64 ∧ ∀ H2 u d,TB T Q5 Q4 H0 H2 → G8 (.rc fn ms ts m) d → G6 d → DatV K H2 d u → Q u H2
theorem vM (F : Fun K "_law_record_kind" "_law_record_kind" sM f fd) (G : Gk K mg) (OR : CalD P w K mg base 2 "of_record" ["fields","more"] (dY K T)) (m1 : mg "list" = none) (m2 : mg "len" = none) (m3 : mg "int" = none) : FnOk P w K mg base L9 3 f fd ["_law_fields","_law_more"] (uX K T) := by
 refine F.ok vG (fun vs H Q E h=>?_) (fun cdv A outer s H vs Q E hr h=>?_)
 ·obtain ⟨l,H0,zs,fn,ms,ts,m,rfl,_⟩ := h
  rfl
 obtain ⟨l,H0,zs,fn,ms,ts,m,rfl,hI,hnd,h64,q⟩ := h
 obtain ⟨gn,ys,mn,hn⟩ := G.nt
 refine ⟨_,B5 (G2 (i := 2) vG.nd rfl (Or.inl rfl) (O8 gM rfl m1 uE (A0 (pv 0) A6)))
  (X3 (G4 (PW.pt (Z7 (Z8 (Q6 (pv 1))) (Y6 (E2 J4 (J0 X7 (K6 M6 rfl m2 PySem.boot_len (A0 (pv 0) A6)) A7) A7 (D7 _)))))
   (A9 (G2 (i := 3) vG.nd rfl (Or.inl rfl) (iJ OR hr rfl (A0 (pv 2) A6))))
   (A9 (G2 (i := 3) vG.nd rfl (Or.inl rfl) (B8 OR.cal hr rfl (A0 (pv 2) (A0 (pv 1) A6))))))
  (A9 (D8 (D9 M7 (P8 (A0 (pv 3) (A0 (M3 (v := .ref gn) rfl mn rfl) A6))) (O8 aF rfl m3 gO (A0 (J5 (xZ hr.units) (pv 2) (pv 0) (D7 _)) A6)) (fun _ _=>rfl))))),?_⟩
 refine ⟨_,rfl,l,zs,rfl,.inl (SqL.of hI.at'),fun lh hlh=>?_⟩
 have k1 := A8 hlh (.lst zs)
 have I1 : FsI K T H0 (upd H lh (.lst zs)) lh zs fn ms ts := by
  obtain ⟨ds,h1,h2⟩ := hI.ex
  exact ⟨hI.tb.same k1,A5,hI.ln,hI.lm,ds,h1,L2.Paired.mapP h2 fun _ _ z=>FldV.kt (KT.same k1).toKF z⟩
 obtain ⟨ds,h1,h2⟩ := hI.ex
 have hrefs := tU h2
 have call : ∀ {R : VK},(∀ u H2 d,TB T Q5 Q4 (upd H lh (.lst zs)) H2 → G8 (.rc fn ms ts m) d → G6 d → DatV K H2 d u → R u H2) → dY K T [.ref lh,.bl m] (upd H lh (.lst zs)) R E0 := fun {R} hR=>by
  have I2 : FsI K T (upd H lh (.lst zs)) (upd H lh (.lst zs)) lh zs fn ms ts := ⟨TB.start I1.tb.t,I1.at',I1.ln,I1.lm,I1.ex⟩
  exact I2.kd hnd h64 fun H2 u d B hk ho hd=>hR u H2 d B hk ho hd
 refine ⟨fun σ' H'=>∃ u d,σ' = [some (.ref l),some (.bl m),some (.ref lh),some u] ∧ TB T Q5 Q4 (upd H lh (.lst zs)) H' ∧ G8 (.rc fn ms ts m) d ∧ G6 d ∧ DatV K H' d u,?_,?_⟩
 ·refine ⟨_,rfl,_,rfl,?_⟩
  cases m with
  | true=>exact L5 (L5 ⟨_,rfl,_,rfl,call fun u H2 d g hk ho hd=>⟨u,d,rfl,g,hk,ho,hd⟩⟩)
  | false=>exact K8 ⟨_,rfl,l,_,rfl,.inl (SqL.of (k1 _ _ hI.at')),_,_,rfl,rfl,(by show (0 : Int) < 2; decide),rfl,_,rfl,M2 (fun _=>⟨_,rfl,call fun u H2 d g hk ho hd=>⟨u,d,rfl,g,hk,ho,hd⟩⟩) (fun _=>⟨_,rfl,_,rfl,call fun u H2 d g hk ho hd=>⟨u,d,rfl,g,hk,ho,hd⟩⟩)⟩
 ·rintro σ' H2 ⟨u,d,rfl,g,hk,ho,hd⟩
  refine ⟨_,rfl,M0,fun lr hlr=>?_⟩
  have k3 := A8 hlr (.lst [u,.ref gn])
  refine ⟨_,rfl,_,rfl,lh,l,zs,rfl,rfl,k3 _ _ (g.lst A5),k3 _ _ (g.lst (k1 _ _ hI.at')),hrefs,_,rfl,lr,_,_,u,rfl,rfl,SqL.of A5,rfl,?_⟩
  exact q _ u d ((I1.tb.more g).same k3) hk ho (O7 k3 ho hd)
theorem AJ6 {a b : Str} (h : a ≠ b) {v u : V} : P7 (S1 [] [(Sum.inr a,v),(Sum.inr b,u)]) (Sum.inr a) = some v ∧ P7 (S1 [] [(Sum.inr a,v),(Sum.inr b,u)]) (Sum.inr b) = some u := by
 rw [cO _ _ (fun _ _=>oK) (by simp [h]),List.nil_append]
 refine ⟨S4 rfl,?_⟩
 rw [T8 (fun z=>h (Sum.inr.inj z))]
 exact S4 rfl
abbrev bU : Stmt := N3 55
theorem pJ : G0 ["_law_tree_here","_law_word"] ["_law_tree_here"] (B6 bU) := ⟨rfl,rfl,rfl,by decide +kernel,rfl,by decide +kernel,by decide +kernel⟩
theorem AE1 : (["_law_inner"] : List Str).Nodup := by decide +kernel
theorem qC : (["_law_name","_law_inner","_law_must"] : List Str).Nodup := by decide +kernel
def fQ (K : PySem.W.Frag) (T : Addr) (n : Nat) : Sp := fun args H Q _=>∃ (t : Tr) (v : V) (B : Hp),args = [v] ∧ TrOk n t ∧ TrV K H B t v ∧ TabH H T Q5 Q4 ∧ ∀ H' u d,TB T Q5 Q4 H H' → G8 t d → G6 d → DatV K H' d u → Q u H'
theorem tG {k n : Nat} {sp : Sp} (F : Fun K "_law_kind" "_law_kind" bU f fd) (KI : Cal P w K mg base k "_law_kind" ["_law_tree_here"] sp) (hsp : ∀ n',n = n' + 1 → sp = fQ K T n') (G : Gk K mg) (SO : Cal P w K mg base 2 "of_sort" ["word"] (cX K)) (TU : Cal P w K mg base 2 "of_truth" ["truth"] (hU K)) (NO : Cal P w K mg base 4 "of_numbers" ["low","high"] (kR K)) (TX : Cal P w K mg base 2 "of_text" ["text"] (hJ K)) (LK : Cal P w K mg base 3 "_law_list_kind" ["_law_kinds","_law_more"] (vC K T)) (RK : Cal P w K mg base 3 "_law_record_kind" ["_law_fields","_law_more"] (uX K T)) (hk : 4 ≤ k) : FnOk P w K mg base L9 (k + 1) f fd ["_law_tree_here"] (fQ K T n) := by
 refine F.ok pJ (fun vs H Q E h=>?_) (fun cdv A outer s H vs Q E hr h=>?_)
 ·obtain ⟨t,v,B,rfl,_⟩ := h
  rfl
 obtain ⟨t,v,B,rfl,ht,hv,hT,q⟩ := h
 obtain ⟨gn,yn,mn,hn⟩ := G.nt
 obtain ⟨ga,ya,ma,ha⟩ := G.an
 have hr2 := hr.mono (show 2 ≤ k by omega)
 have hr3 := hr.mono (show 3 ≤ k by omega)
 have hr4 := hr.mono hk
 refine ⟨_,B5 (G2 (i := 1) pJ.nd rfl (Or.inl rfl) (D9 E8 (pv 0) A7 (fun _ _=>rfl)))
  (B5 (G4 (E2 V3 (pv 1) (G1 (A0 E1 (A0 E1 A6))) rfl) (A9 (D8 (AM4 (fA hr) (AM3 (pQ E1 (M3 (v := .ref ga) rfl ma rfl) (pQ E1 (M3 (v := .ref gn) rfl mn rfl) AM1)) rfl rfl (by simp) (by decide)) (pv 1) (fun _ _=>rfl)))) E7)
  (B5 (G4 (E2 J4 (pv 1) E1 (D7 _)) (A9 (D8 (B8 SO hr2 rfl (A0 (D9 E8 (pv 0) A7 (fun _ _=>rfl)) A6)))) E7)
  (B5 (G4 (E2 J4 (pv 1) E1 (D7 _)) (A9 (D8 (B8 NO hr4 rfl (A0 (D9 E8 (pv 0) A7 (fun _ _=>rfl)) (A0 (D9 E8 (pv 0) A7 (fun _ _=>rfl)) A6))))) E7)
  (B5 (G4 (E2 J4 (pv 1) E1 (D7 _)) (A9 (D8 (B8 LK hr3 rfl (A0 (U6 (N' := ["_law_inner"]) (fr := [none]) (own := [0]) ⟨rfl,rfl,rfl,rfl,rfl,rfl,rfl⟩ rfl (U5 (D9 E8 (pv 0) A7 (fun _ _=>rfl)))
    (fun _ _ _ _=>G5 (i := 0) AE1 rfl (Or.inl rfl)) (U1 0) (fun _ _ _ _=>R7) (fun _ _ _ _=>B8 KI hr rfl (A0 (pv 0) A6))) (A0 (D9 E8 (pv 0) A7 (fun _ _=>rfl)) A6))))) E7)
  (B5 (G4 (E2 J4 (pv 1) E1 (D7 _)) (A9 (D8 (B8 RK hr3 rfl (A0 (U6 (N' := ["_law_name","_law_inner","_law_must"]) (fr := [none,none,none]) (own := [0,1,2]) ⟨rfl,rfl,rfl,rfl,rfl,rfl,rfl⟩ rfl (U5 (D9 E8 (pv 0) A7 (fun _ _=>rfl)))
    (fun _ _ _ _=>V2 (n := 3) rfl (K1 (G5 (i := 0) qC rfl (Or.inl rfl)) (K1 (G5 (i := 1) qC rfl (Or.inl rfl)) (K1 (G5 (i := 2) qC rfl (Or.inl rfl)) T2)))) (dH (AM5 0 1 2)) (fun _ _ _ _=>R7)
    (fun _ _ _ _=>G1 (A0 (pv 0) (A0 (B8 KI hr rfl (A0 (pv 1) A6)) (A0 (pv 2) A6))))) (A0 (D9 E8 (pv 0) A7 (fun _ _=>rfl)) A6))))) E7)
  (B5 (G4 (E2 J4 (pv 1) E1 (D7 _)) (A9 (D8 (B8 TU hr2 rfl (A0 (D9 E8 (pv 0) A7 (fun _ _=>rfl)) A6)))) E7)
  (A9 (D8 (B8 TX hr2 rfl (A0 (D9 E8 (pv 0) A7 (fun _ _=>rfl)) A6)))))))))),?_⟩
 have B0 := TB.start hT
 cases ht with
 | any =>
  simp only [TrV] at hv
  obtain ⟨a,rfl,hq⟩ := hv
  refine ⟨_,rfl,a,_,_,_,rfl,rfl,hq,rfl,?_⟩
  refine ⟨_,rfl,M0,fun p1 hp1=>⟨p1,_,rfl,.inr (SqT.of A5),rfl,rfl,_,rfl,cR (by decide +kernel) ?_⟩⟩
  have k1 := A8 hp1 (.tup [.str (Str.ofString "any"),.str (Str.ofString "nothing")])
  intro p hp
  refine ⟨A5,[(Sum.inr dP,.ref ga),(Sum.inr jH,.ref gn)],rfl,(by show 2 ≤ 15; decide),_,rfl,p,.ref ga,rfl,?_,?_⟩
  ·have := DGet.k (H := upd (upd (upd H p1 (.tup [.str (Str.ofString "any"),.str (Str.ofString "nothing")])) p (.dK [])) p (.dK (S1 [] [(Sum.inr dP,.ref ga),(Sum.inr jH,.ref gn)]))) (a := p) (k := Sum.inr dP) A5
   rw [(AJ6 (a := dP) (b := jH) (by decide +kernel)).1] at this
   exact this
  ·rw [gX]
   exact q _ _ S7 (B0.same (k1.trans (A8 hp _))) (by simp only [G8]) lJ (K2 (ha _).1 (ha _).2)
 | nothing =>
  simp only [TrV] at hv
  obtain ⟨a,rfl,hq⟩ := hv
  refine ⟨_,rfl,a,_,_,_,rfl,rfl,hq,rfl,?_⟩
  refine ⟨_,rfl,M0,fun p1 hp1=>⟨p1,_,rfl,.inr (SqT.of A5),rfl,rfl,_,rfl,cR (by decide +kernel) ?_⟩⟩
  have k1 := A8 hp1 (.tup [.str (Str.ofString "any"),.str (Str.ofString "nothing")])
  intro p hp
  refine ⟨A5,[(Sum.inr dP,.ref ga),(Sum.inr jH,.ref gn)],rfl,(by show 2 ≤ 15; decide),_,rfl,p,.ref gn,rfl,?_,?_⟩
  ·have := DGet.k (H := upd (upd (upd H p1 (.tup [.str (Str.ofString "any"),.str (Str.ofString "nothing")])) p (.dK [])) p (.dK (S1 [] [(Sum.inr dP,.ref ga),(Sum.inr jH,.ref gn)]))) (a := p) (k := Sum.inr jH) A5
   rw [(AJ6 (a := dP) (b := jH) (by decide +kernel)).2] at this
   exact this
  ·rw [gX]
   exact q _ _ J8 (B0.same (k1.trans (A8 hp _))) (by simp only [G8]) cN (K2 (hn _).1 (hn _).2)
 | @sort _ kk hk6 =>
  simp only [TrV] at hv
  obtain ⟨a,wd,rfl,hwd,hq⟩ := hv
  refine ⟨_,rfl,a,_,_,_,rfl,rfl,hq,rfl,?_⟩
  refine ⟨_,rfl,M0,fun p1 hp1=>⟨p1,_,rfl,.inr (SqT.of A5),rfl,rfl,_,rfl,M9 (by decide +kernel) ?_⟩⟩
  have k1 := A8 hp1 (.tup [.str (Str.ofString "any"),.str (Str.ofString "nothing")])
  have B1 := B0.same k1
  generalize upd H p1 _ = H1 at k1 B1
  refine ⟨_,rfl,rfl,_,rfl,T7 rfl ?_⟩
  exact ⟨_,rfl,a,_,_,_,rfl,rfl,k1.seqT hq,rfl,kk,wd,rfl,hwd,fun H2 u g hu=>q H2 u _ (B1.same g) (by simp only [G8]; exact ⟨hk6,trivial⟩) (R1 (jU _ (by rw [List.getD_eq_getElem?_getD,List.getElem?_eq_getElem (show kk < Y2.length from hk6)]; exact List.getElem_mem _))) hu⟩
 | @span _ lo hi =>
  simp only [TrV] at hv
  obtain ⟨a,rfl,hq,hne⟩ := hv
  refine ⟨_,rfl,a,_,_,_,rfl,rfl,hq,rfl,?_⟩
  refine ⟨_,rfl,M0,fun p1 hp1=>⟨p1,_,rfl,.inr (SqT.of A5),rfl,rfl,_,rfl,M9 (by decide +kernel) ?_⟩⟩
  have k1 := A8 hp1 (.tup [.str (Str.ofString "any"),.str (Str.ofString "nothing")])
  have B1 := B0.same k1
  generalize upd H p1 _ = H1 at k1 B1
  refine ⟨_,rfl,rfl,_,rfl,J9 (by decide +kernel) ⟨_,rfl,rfl,_,rfl,T7 rfl ?_⟩⟩
  exact ⟨_,rfl,a,_,_,_,rfl,rfl,k1.seqT hq,rfl,_,rfl,a,_,_,_,rfl,rfl,k1.seqT hq,rfl,lo,hi,rfl,fun H2 u g hu=>q H2 u _ (B1.same g) (by simp only [G8]; rfl) (R1 (pU _)) hu⟩
 | @lst n' ts m h6 hto =>
  simp only [TrV] at hv
  obtain ⟨a,ll,ys,rfl,hq,hll,hBl,hts⟩ := hv
  refine ⟨_,rfl,a,_,_,_,rfl,rfl,hq,rfl,?_⟩
  refine ⟨_,rfl,M0,fun p1 hp1=>⟨p1,_,rfl,.inr (SqT.of A5),rfl,rfl,_,rfl,M9 (by decide +kernel) ?_⟩⟩
  have k1 := A8 hp1 (.tup [.str (Str.ofString "any"),.str (Str.ofString "nothing")])
  have B1 := B0.same k1
  generalize upd H p1 _ = H1 at k1 B1
  have esp := hsp n' rfl
  subst esp
  refine ⟨_,rfl,rfl,_,rfl,J9 (by decide +kernel) ⟨_,rfl,rfl,_,rfl,J9 (by decide +kernel) ⟨_,rfl,rfl,_,rfl,T7 rfl ?_⟩⟩⟩
  refine ⟨_,rfl,a,_,_,_,rfl,rfl,k1.seqT hq,rfl,ll,rfl,⟨_,SqL.of (k1 _ _ hll)⟩,fun l hl=>?_⟩
  have hyl := hts.length
  refine cI (xs := ys) (fun i zs H'=>KsI K T H1 H' l zs (ts.take i)) (KsI.start B1.t hl) (fun i zs H' _ I=>SqL.of (I.tb.lst (k1 _ _ hll))) (fun i y zs H' hy I=>?_) (fun zs H' I=>?_)
  ·obtain ⟨t,hti,htv⟩ := hts.get hy
   have hi6 : i < 6 := by have := (List.getElem?_eq_some_iff.mp hti).1; omega
   dsimp only [V0,P6]
   refine aG ⟨_,rfl,t,y,B,rfl,hto t (List.mem_of_getElem? hti),TrV.kt (KT.trans (KT.same k1) I.tb.kt) htv,I.tb.t,fun H3 u d B3 hk hok hd=>?_⟩
   obtain ⟨h3,I3⟩ := I.step hl B3 hk hok hd
   rw [M5 hti]
   exact ⟨h3,P0 (by rw [I.size,List.length_take]; omega),I3⟩
  ·rw [hyl,List.take_length] at I
   refine ⟨_,rfl,a,_,_,_,rfl,rfl,I.tb.kt.t _ _ (k1.seqT hq),rfl,l,H1,zs,ts,m,rfl,I,fun H2 u d B2 hk hok hd=>q H2 u d (B1.more B2) hk hok hd⟩
 | @rc n' fn ms ts m l1 l2 l9 hnd hnm hto =>
  simp only [TrV] at hv
  obtain ⟨a,ll,ys,rfl,hq,hll,hBl,hts⟩ := hv
  refine ⟨_,rfl,a,_,_,_,rfl,rfl,hq,rfl,?_⟩
  refine ⟨_,rfl,M0,fun p1 hp1=>⟨p1,_,rfl,.inr (SqT.of A5),rfl,rfl,_,rfl,M9 (by decide +kernel) ?_⟩⟩
  have k1 := A8 hp1 (.tup [.str (Str.ofString "any"),.str (Str.ofString "nothing")])
  have B1 := B0.same k1
  generalize upd H p1 _ = H1 at k1 B1
  have esp := hsp n' rfl
  subst esp
  refine ⟨_,rfl,rfl,_,rfl,J9 (by decide +kernel) ⟨_,rfl,rfl,_,rfl,J9 (by decide +kernel) ⟨_,rfl,rfl,_,rfl,J9 (by decide +kernel) ⟨_,rfl,rfl,_,rfl,T7 rfl ?_⟩⟩⟩⟩
  refine ⟨_,rfl,a,_,_,_,rfl,rfl,k1.seqT hq,rfl,ll,rfl,⟨_,SqL.of (k1 _ _ hll)⟩,fun l hl=>?_⟩
  have hyl := hts.length
  refine cI (xs := ys) (fun i zs H'=>FsI K T H1 H' l zs (fn.take i) (ms.take i) (ts.take i)) (FsI.start B1.t hl) (fun i zs H' _ I=>SqL.of (I.tb.lst (k1 _ _ hll))) (fun i y zs H' hy I=>?_) (fun zs H' I=>?_)
  ·obtain ⟨nm,b,t,c,v,hni,hbi,hti,rfl,hc,htv⟩ := hts.get hy
   have hi9 : i < 9 := by have := (List.getElem?_eq_some_iff.mp hni).1; omega
   refine ⟨c,_,rfl,I.tb.kt.t _ _ (k1.seqT hc),rfl,_,_,rfl,_,_,rfl,_,_,rfl,rfl,aG ?_⟩
   refine ⟨_,rfl,_,rfl,t,v,B,rfl,hto t (List.mem_of_getElem? hti),TrV.kt (KT.trans (KT.same k1) I.tb.kt) htv,I.tb.t,fun H3 u d B3 hk hok hd=>⟨_,rfl,N4,fun p3 hp3=>?_⟩⟩
   obtain ⟨h3,I3⟩ := I.step hl B3 hk hok hd (hnm nm (List.mem_of_getElem? hni)).str (b := b) hp3 rfl
   rw [M5 hni,M5 hbi,M5 hti]
   exact ⟨h3,P0 (by rw [I.size,List.length_take]; omega),I3⟩
  ·rw [hyl.1,List.take_length,List.take_of_length_le (show ms.length ≤ fn.length by omega),List.take_of_length_le (show ts.length ≤ fn.length by omega)] at I
   refine ⟨_,rfl,a,_,_,_,rfl,rfl,I.tb.kt.t _ _ (k1.seqT hq),rfl,l,H1,zs,fn,ms,ts,m,rfl,I,hnd,by omega,fun H2 u d B2 hk hok hd=>q H2 u d (B1.more B2) hk hok hd⟩
 | @text _ s0 hss =>
  simp only [TrV] at hv
  obtain ⟨a,rfl,hq⟩ := hv
  refine ⟨_,rfl,a,_,_,_,rfl,rfl,hq,rfl,?_⟩
  refine ⟨_,rfl,M0,fun p1 hp1=>⟨p1,_,rfl,.inr (SqT.of A5),rfl,rfl,_,rfl,M9 (by decide +kernel) ?_⟩⟩
  have k1 := A8 hp1 (.tup [.str (Str.ofString "any"),.str (Str.ofString "nothing")])
  have B1 := B0.same k1
  generalize upd H p1 _ = H1 at k1 B1
  refine ⟨_,rfl,rfl,_,rfl,J9 (by decide +kernel) ⟨_,rfl,rfl,_,rfl,J9 (by decide +kernel) ⟨_,rfl,rfl,_,rfl,J9 (by decide +kernel) ⟨_,rfl,rfl,_,rfl,J9 (by decide +kernel) ⟨_,rfl,rfl,_,rfl,J9 (by decide +kernel) ?_⟩⟩⟩⟩⟩
  exact ⟨_,rfl,a,_,_,_,rfl,rfl,k1.seqT hq,rfl,s0,rfl,hss.ok,fun H2 u g hu=>q H2 u _ (B1.same g) (by simp only [G8]) (R1 (R4 (K5 (by decide +kernel)) (W8 (K5 hss.ok)))) hu⟩
 | @truth _ bb =>
  simp only [TrV] at hv
  obtain ⟨a,rfl,hq⟩ := hv
  refine ⟨_,rfl,a,_,_,_,rfl,rfl,hq,rfl,?_⟩
  refine ⟨_,rfl,M0,fun p1 hp1=>⟨p1,_,rfl,.inr (SqT.of A5),rfl,rfl,_,rfl,M9 (by decide +kernel) ?_⟩⟩
  have k1 := A8 hp1 (.tup [.str (Str.ofString "any"),.str (Str.ofString "nothing")])
  have B1 := B0.same k1
  generalize upd H p1 _ = H1 at k1 B1
  refine ⟨_,rfl,rfl,_,rfl,J9 (by decide +kernel) ⟨_,rfl,rfl,_,rfl,J9 (by decide +kernel) ⟨_,rfl,rfl,_,rfl,J9 (by decide +kernel) ⟨_,rfl,rfl,_,rfl,J9 (by decide +kernel) ⟨_,rfl,rfl,_,rfl,T7 rfl ?_⟩⟩⟩⟩⟩
  exact ⟨_,rfl,a,_,_,_,rfl,rfl,k1.seqT hq,rfl,bb,rfl,fun H2 u g hu=>q H2 u _ (B1.same g) (by simp only [G8]) (R1 (W8 T4)) hu⟩
theorem qK (nK : Nm K mg "_law_kind" bU ["_law_tree_here"]) (G : Gk K mg) (SO : Cal P w K mg base 2 "of_sort" ["word"] (cX K)) (TU : Cal P w K mg base 2 "of_truth" ["truth"] (hU K)) (NO : Cal P w K mg base 4 "of_numbers" ["low","high"] (kR K)) (TX : Cal P w K mg base 2 "of_text" ["text"] (hJ K)) (LK : Cal P w K mg base 3 "_law_list_kind" ["_law_kinds","_law_more"] (vC K T)) (RK : Cal P w K mg base 3 "_law_record_kind" ["_law_fields","_law_more"] (uX K T)) : ∀ n,Cal P w K mg base (n + 5) "_law_kind" ["_law_tree_here"] (fQ K T n)
 | 0=>nK.cal fun f fd F=>tG F (nK.no pJ 3) (fun n' e=>by omega) G SO TU NO TX LK RK (by decide)
 | n + 1=>nK.cal fun f fd F=>tG F (qK nK G SO TU NO TX LK RK n) (fun n' e=>congrArg (fQ K T) (Nat.succ.inj e)) G SO TU NO TX LK RK (by omega)
theorem qN (nJ : Nm K mg "just" bV ["thing"]) (SO : Cal P w K mg base 2 "of_sort" ["word"] (cX K)) (TU : Cal P w K mg base 2 "of_truth" ["truth"] (hU K)) (NO : Cal P w K mg base 4 "of_numbers" ["low","high"] (kR K)) (TX : Cal P w K mg base 2 "of_text" ["text"] (hJ K)) (OL : CalD P w K mg base 2 "of_list" ["kinds","more"] (aX K)) (OR : CalD P w K mg base 2 "of_record" ["fields","more"] (dY K T)) : ∀ n,Cal P w K mg base (n + 5) "just" ["thing"] (cZ K T n)
 | 0=>nJ.cal fun f fd F=>tH F (nJ.no xK 3) (fun n' e=>by omega) SO TU NO TX OL OR (by decide)
 | n + 1=>nJ.cal fun f fd F=>tH F (qN nJ SO TU NO TX OL OR n) (fun n' e=>congrArg (cZ K T) (Nat.succ.inj e)) SO TU NO TX OL OR (by omega)
end
end Law
namespace Law
open PySem L2 L2.Sp
theorem qJ : ∀ {xs ys : List Th},(∀ x ∈ xs,∀ y ∈ ys,E3 (P9 x) y = PyData.eqv (K0 x) (K0 y)) → M8 (V1 xs) false ys = PyData.eqvAll (S5 xs) (S5 ys)
 | [],[],_=>by simp [V1,S5,M8,R6,PyData.eqvAll]
 | [],y :: ys,_=>by simp only [V1,S5]; rw [yR]; simp [PyData.eqvAll]
 | x :: xs,[],_=>by simp only [V1,S5]; rw [mQ]; simp [PyData.eqvAll]
 | x :: xs,y :: ys,h=>by
  simp only [V1,S5]
  rw [eV,h x List.mem_cons_self y List.mem_cons_self,qJ fun a ha b hb=>h a (List.mem_cons_of_mem _ ha) b (List.mem_cons_of_mem _ hb)]
  simp only [PyData.eqvAll]
theorem AF8 {n : Str} {ns : List Str} {b : Bool} {bs : List Bool} {t : Tr} {ts : List Tr} : X5 (n :: ns) (b :: bs) (t :: ts) = (n,t,PyData.none,b) :: X5 ns bs ts := rfl
theorem sT : ∀ {ns : List Str} {xs : List Th} {fn : List Str} {fx : List Th},ns.length = xs.length → fn.length = fx.length → ns.Pairwise (fun a b=>T5 a b = true) → fn.Pairwise (fun a b=>T5 a b = true) → (∀ x ∈ xs,∀ y ∈ fx,E3 (P9 x) y = PyData.eqv (K0 x) (K0 y)) →
  N9 false (X5 ns (ns.map fun _=>true) (V1 xs)) (fn.zip fx) = PyData.eqvAll (Q3 ns xs) (Q3 fn fx)
 | [],[],[],[],_,_,_,_,_=>by simp [X5,Q2,N9,Q3,PyData.eqvAll]
 | [],[],m :: fn,y :: fx,_,_,_,_,_=>by simp [X5,Q2,N9,Q3,PyData.eqvAll]
 | n :: ns,x :: xs,fn,fx,h1,h2,h3,h4,ih=>by
  have hl : (X5 (n :: ns) ((n :: ns).map fun _=>true) (V1 (x :: xs))).map (·.1) = n :: ns := X0 (by rw [O5,List.length_map]; exact h1) (by rw [O5,List.length_map,List.length_map]; exact h1) (by rw [List.length_map])
  have hnd : (n :: ns).Nodup := h3.imp fun {a b} z e=>by subst e; rw [Y8] at z; cases z
  simp only [V1,List.map_cons,AF8] at hl ⊢
  simp only [Q3]
  match fn,fx,h2,h4 with
  | [],[],_,_ =>
   rw [List.zip_nil_left,U0 (e := (n,P9 x,PyData.none,true)) AE6]
   simp [Q3,PyData.eqvAll]
  | m :: fn,y :: fx,h2,h4 =>
   simp only [Q3,PyData.eqvAll,PyData.eqv]
   rw [List.zip_cons_cons]
   have h4' := List.pairwise_cons.mp h4
   have h3' := List.pairwise_cons.mp h3
   by_cases e : m = n
   ·subst e
    have hlook : O2 ((m,y) :: fn.zip fx) m = some y := by rw [T6,if_pos rfl]
    rw [mG (e := (m,P9 x,PyData.none,true)) (by simp only [List.map_cons]; rw [List.cons.inj hl |>.2]; exact hnd) hlook]
    have hdrop : T1 ((m,y) :: fn.zip fx) m = fn.zip fx := by
     unfold T1
     rw [List.filter_cons,if_neg (by simp)]
     refine List.filter_eq_self.mpr fun p hp=>decide_eq_true fun z=>?_
     have hm : p.1 ∈ fn := by have := List.mem_map_of_mem (f := fun p : Str × Th=>p.1) hp; rw [(gW (by simpa using h2)).1] at this; exact this
     have := h4'.1 p.1 hm
     rw [z,Y8] at this
     cases this
    show (E3 (P9 x) y && N9 false _ (T1 ((m,y) :: fn.zip fx) m)) = _
    rw [hdrop,ih x List.mem_cons_self y List.mem_cons_self,sT (by simpa using h1) (by simpa using h2) h3'.2 h4'.2 fun a ha b hb=>ih a (List.mem_cons_of_mem _ ha) b (List.mem_cons_of_mem _ hb)]
    simp
   ·have e0 : (n == m) = false := by simpa using fun z : n = m=>e z.symm
    rw [e0]
    simp only [Bool.false_and]
    cases hlk : O2 ((m,y) :: fn.zip fx) n with
    | none=>rw [U0 (e := (n,P9 x,PyData.none,true)) hlk]; rfl
    | some z =>
     unfold N9
     rw [Bool.false_or]
     have : (((m,y) :: fn.zip fx).all fun p=>decide (p.1 ∈ ((n,P9 x,PyData.none,true) :: X5 ns (ns.map fun _=>true) (V1 xs)).map (·.1))) = false := by
      rw [List.all_eq_false]
      refine ⟨(m,y),List.mem_cons_self,fun hz=>?_⟩
      have hz := of_decide_eq_true hz
      rw [List.map_cons,hl] at hz
      have hn : n ∈ fn := by
       have := gG hlk
       rcases List.mem_cons.mp this with z1 | z1
       ·exact absurd (congrArg Prod.fst z1).symm e
       ·have := List.mem_map_of_mem (f := fun p : Str × Th=>p.1) z1; rw [(gW (by simpa using h2)).1] at this; exact this
      have hmn := h4'.1 n hn
      rcases List.mem_cons.mp hz with z1 | z1
      ·exact e z1
      ·have := h3'.1 m z1
       rw [qF hmn] at this
       cases this
     rw [this,Bool.and_false]
 | [],_ :: _,_,_,h,_,_,_,_=>by simp at h
 | _ :: _,[],_,_,h,_,_,_,_=>by simp at h
 | [],[],[],_ :: _,_,h,_,_,_=>by simp at h
 | [],[],_ :: _,[],_,h,_,_,_=>by simp at h
theorem yZ : ∀ {n : Nat} {x : Th},ThOk n x → ∀ {m : Nat} {y : Th},ThOk m y → E3 (P9 x) y = PyData.eqv (K0 x) (K0 y) := by
 have e5 : ∀ {a b : Str} {c d : List PyData},(a == b) = false → PyData.eqv (.tuple (dS a :: c)) (.tuple (dS b :: d)) = false := fun {a b c d} h=>by simp only [PyData.eqv,PyData.eqvAll]; rw [h]; rfl
 have base : ∀ {x : Th} {m : Nat} {y : Th},(∀ xs,x ≠ .lst xs) → (∀ ns xs,x ≠ .rc ns xs) → E3 (P9 x) y = PyData.eqv (K0 x) (K0 y) := fun {x m y} n1 n2=>by
  cases x with
  | lst xs=>exact absurd rfl (n1 xs)
  | rc ns xs=>exact absurd rfl (n2 ns xs)
  | non=>cases y <;> simp only [P9,E3,J7,K0] <;> simp [PyData.eqv,PyData.eqvAll]
  | tru b =>
   simp only [P9]
   cases y with
   | tru c=>simp only [E3,K0,PyData.eqv,PyData.eqvAll]; cases b <;> cases c <;> simp
   | non=>simp only [E3,K0]; simp [PyData.eqv,PyData.eqvAll]
   | _=>simp only [E3,K0]; exact (e5 (by decide +kernel)).symm
  | num i =>
   simp only [P9]
   cases y with
   | num j =>
    simp only [E3,K0,PyData.eqv,PyData.eqvAll]
    rw [Bool.eq_iff_iff]
    simp [M4,U7,gI]
    omega
   | non=>simp only [E3,K0]; simp [PyData.eqv,PyData.eqvAll]
   | _=>simp only [E3,K0]; exact (e5 (by decide +kernel)).symm
  | txt s =>
   simp only [P9]
   cases y with
   | txt u=>simp only [E3,K0,PyData.eqv,PyData.eqvAll]; simp
   | non=>simp only [E3,K0]; simp [PyData.eqv,PyData.eqvAll]
   | _=>simp only [E3,K0]; exact (e5 (by decide +kernel)).symm
 intro n
 induction n with
 | zero =>
  intro x hx m y hy
  cases hx <;> exact base (m := m) (fun _ h=>by cases h) (fun _ _ h=>by cases h)
 | succ n ih =>
  intro x hx m y hy
  cases hx with
  | non=>exact base (m := m) (fun _ h=>by cases h) (fun _ _ h=>by cases h)
  | tru=>exact base (m := m) (fun _ h=>by cases h) (fun _ _ h=>by cases h)
  | num=>exact base (m := m) (fun _ h=>by cases h) (fun _ _ h=>by cases h)
  | txt=>exact base (m := m) (fun _ h=>by cases h) (fun _ _ h=>by cases h)
  | @lst _ xs l40 hxs =>
   simp only [P9]
   cases hy with
   | lst _ hys =>
    rename_i ys _
    simp only [E3,K0,PyData.eqv,PyData.eqvAll]
    have := qJ (xs := xs) (ys := ys) fun a ha b hb=>ih (hxs a ha) (hys b hb)
    unfold M8 at this
    rw [this]
    simp
   | non=>simp only [E3,K0]; simp [PyData.eqv,PyData.eqvAll]
   | _=>simp only [E3,K0]; exact (e5 (by decide +kernel)).symm
  | @rc _ ns xs hlx l40 hpw hst hxs =>
   simp only [P9]
   cases hy with
   | rc hly _ hpy _ hys =>
    rename_i fn fx
    rw [zD (by rw [O5,List.length_map]; exact hlx) (by rw [O5,List.length_map,List.length_map]; exact hlx) hly,sT hlx hly hpw hpy fun a ha b hb=>ih (hxs a ha) (hys b hb)]
    simp only [K0,PyData.eqv,PyData.eqvAll]
    simp
   | non=>simp only [E3,K0]; simp [PyData.eqv,PyData.eqvAll]
   | _=>simp only [E3,K0]; exact (e5 (by decide +kernel)).symm
mutual
theorem kN : ∀ x : Th,PyData.eqv (K0 x) (K0 x) = true
 | .non=>by simp [K0,PyData.eqv,PyData.eqvAll]
 | .tru b=>by simp [K0,PyData.eqv,PyData.eqvAll]
 | .num i=>by simp [K0,PyData.eqv,PyData.eqvAll]
 | .txt s=>by simp [K0,PyData.eqv,PyData.eqvAll]
 | .lst xs=>by simp only [K0,PyData.eqv,PyData.eqvAll,oR xs]; simp
 | .rc ns xs=>by simp only [K0,PyData.eqv,PyData.eqvAll,oS ns xs]; simp
theorem oR : ∀ xs : List Th,PyData.eqvAll (S5 xs) (S5 xs) = true
 | []=>by simp [S5,PyData.eqvAll]
 | x :: xs=>by simp only [S5,PyData.eqvAll,kN x,oR xs]; rfl
theorem oS : ∀ (ns : List Str) (xs : List Th),PyData.eqvAll (Q3 ns xs) (Q3 ns xs) = true
 | n :: ns,x :: xs=>by simp only [Q3,PyData.eqvAll,PyData.eqv,kN x,oS ns xs]; simp
 | [],_=>by simp [Q3,PyData.eqvAll]
 | _ :: _,[]=>by simp [Q3,PyData.eqvAll]
end
theorem TD.mono : ∀ {m n : Nat} {t : Tr},m ≤ n → TD m t → TD n t := by
 intro m n
 induction n generalizing m with
 | zero=>intro t h ht; rw [Nat.le_zero.mp h] at ht; exact ht
 | succ n ih =>
  intro t h ht
  cases ht with
  | lst hx=>exact .lst fun t ht=>ih (by omega) (hx t ht)
  | rc hx=>exact .rc fun t ht=>ih (by omega) (hx t ht)
  | any=>constructor
  | nothing=>constructor
  | sort=>constructor
  | span=>constructor
  | text=>constructor
  | truth=>constructor
section
variable {P : Program} {w : World} {K : PySem.W.Frag} {mg : Str → Option Value} {base : Heap} {f : Addr} {fd : FuncData} {T : Addr}
abbrev hZ : Stmt := N3 56
theorem xI : G0 ["_law_kind_here","_law_thing","_law_due","_law_found"] ["_law_kind_here","_law_thing","_law_due"] (B6 hZ) := ⟨rfl,rfl,rfl,by decide +kernel,rfl,by decide +kernel,by decide +kernel⟩
def oZ (K : PySem.W.Frag) (n : Nat) : Sp := fun args H Q _=>∃ (t : Tr) (d : PyData) (x : Th) (v u : V) (N : Nat) (due : Bool),args = [v,u,.bl due] ∧ TD n t ∧ G8 t d ∧ G6 d ∧ DatV K H d v ∧ ThOk N x ∧ ThV K H x u ∧ E3 t x = due ∧ ∀ H',Same H H' → Q (.bl true) H'
theorem AN2 {k n : Nat} (F : Fun K "_law_told" "_law_told" hZ f fd) (HO : Cal P w K mg base k "holds" ["kind","thing"] (aT K n)) (m1 : mg "isinstance" = none) (m2 : mg "bool" = none) : FnOk P w K mg base L9 (k + 1) f fd ["_law_kind_here","_law_thing","_law_due"] (oZ K n) := by
 refine F.ok xI (fun vs H Q E h=>?_) (fun cdv A outer s H vs Q E hr h=>?_)
 ·obtain ⟨t,d,x,v,u,N,due,rfl,_⟩ := h
  rfl
 obtain ⟨t,d,x,v,u,N,due,rfl,htd,hkd,hok,hv,hx,hu,hin,q⟩ := h
 refine ⟨_,B5 (G2 (i := 3) xI.nd rfl (Or.inl rfl) (B8 HO hr rfl (A0 (pv 0) (A0 (pv 1) A6))))
  (A9 (D8 (bE (K6 rD rfl m1 zX (A0 (pv 3) (A0 (sX (v := .ty "bool") rfl m2 AQ5 rfl) A6))) (T3 (J5 J4 (pv 3) (pv 2) (D7 _)))))),?_⟩
 refine ⟨_,rfl,_,rfl,t,d,x,v,u,N,rfl,htd,hkd,hok,hv,hx,hu,fun H2 g2=>?_⟩
 refine ⟨_,rfl,_,_,true,rfl,rfl,true,rfl,K8 ⟨_,rfl,_,rfl,rfl,?_⟩⟩
 rw [hin,decide_eq_true rfl]
 exact q _ g2
structure LB (K : PySem.W.Frag) (st T : Addr) (H1 H2 : Hp) : Prop where
 g : ∀ b o,b ≠ st → b ≠ T → H1 b = some o → H2 b = some o
 s : ∃ y : Int,H2 st = some (.lst [.int y])
 t : TabH H2 T Q5 Q4
 k : KT K H1 H2
theorem LB.ds {st : Addr} {H1 H2 H3 : Hp} (l : LB K st T H1 H2) (d : DS st H2 H3) : LB K st T H1 H3 := ⟨fun b o h1 h2 h=>d.g b o h1 (l.g b o h1 h2 h),d.s,oT l.t d,l.k.trans d.kt⟩
theorem LB.tb {st : Addr} {H1 H2 H3 : Hp} (l : LB K st T H1 H2) (d : TB T Q5 Q4 H2 H3) : LB K st T H1 H3 := ⟨fun b o h1 h2 h=>d.g b o h2 (l.g b o h1 h2 h),by obtain ⟨y,h⟩ := l.s; exact ⟨y,d.lst h⟩,d.t,l.k.trans d.kt⟩
theorem LB.same {st : Addr} {H1 H2 H3 : Hp} (l : LB K st T H1 H2) (d : Same H2 H3) : LB K st T H1 H3 := ⟨fun b o h1 h2 h=>d _ _ (l.g b o h1 h2 h),by obtain ⟨y,h⟩ := l.s; exact ⟨y,d _ _ h⟩,l.t.same d,l.k.trans (KT.same d)⟩
theorem AX4 : bootBuiltins "min" = some (.builtin "min") := by decide +kernel
def X9 : List Str := [97,98,99,100,101,102].map fun c=>S (List.replicate 8 c)
theorem BF3 : (Str.ofString "abcdef" : Str) = S [97,98,99,100,101,102] := by decide +kernel
theorem ns9 {ns : List Str} (hnd : ns.Nodup) (h3 : ns.length = 3) (hok : ∀ s ∈ ns,NmOk 6 s) : jG (ns ++ X9) := by
 have he : ∀ s ∈ X9,NmOk 8 s ∧ s.length = 8 := fun s hs=>by
  obtain ⟨c,hc,rfl⟩ := List.mem_map.mp hs
  refine ⟨⟨_,rfl,fun x hx=>?_,by rw [List.length_replicate]; exact Nat.le_refl _⟩,by rw [kK,List.length_replicate]⟩
  rw [(List.mem_replicate.mp hx).2]
  simp only [List.mem_cons,List.not_mem_nil,or_false] at hc
  omega
 refine ⟨?_,fun s hs=>?_,.inr (by rw [List.length_append,h3]; rfl)⟩
 ·rw [List.nodup_append]
  refine ⟨hnd,by decide +kernel,fun a ha b hb e=>?_⟩
  subst e
  obtain ⟨l,rfl,_,hl⟩ := hok a ha
  have := (he _ hb).2
  rw [kK] at this
  omega
 ·rcases List.mem_append.mp hs with z | z
  ·exact (hok s z).mono (by decide)
  ·exact (he s z).1
theorem vP : (["_law_letter"] : List Str).Nodup := by decide +kernel
abbrev eD : Stmt := N3 57
theorem U9 : G0 ["_law_script","_law_first","_law_names_here","_law_deep","_law_k","_law_state_here","_law_tree_here","_law_kind_here","_law_last","_law_look","_law_thing"] ["_law_script"] (B6 eD) := ⟨rfl,rfl,rfl,by decide +kernel,rfl,by decide +kernel,by decide +kernel⟩
def nY (K : PySem.W.Frag) (T : Addr) : Sp := fun vs H Q _=>∃ (a : Addr) (ns : List Int),vs = [.ref a] ∧ SqL K H a (ns.map V.int) ∧ ns.length ≤ 63 ∧ H T = some (aK T #[]) ∧ ∀ H',(∃ ps,H' T = some (aK T ps)) → Q (.bl true) H'
theorem AU7 (F : Fun K "law" "law" eD f fd) (CELL : Cal P w K mg base 1 "_law_cell_at" ["_law_script","_law_k"] (pC K)) (STATE : Cal P w K mg base 1 "_law_state" ["_law_cell","_law_k"] kO) (NAMES : Cal P w K mg base 2 "_law_names" ["_law_state_here"] kU) (N : Cal P w K mg base 1 "_law_next" ["_law_state_here","_law_many"] Q8)
  (TR : ∀ n,n ≤ 2 → Cal P w K mg base 8 "_law_tree" ["_law_state_here","_law_names_here","_law_deep"] (dX K n)) (KI : ∀ n,n ≤ 2 → Cal P w K mg base 7 "_law_kind" ["_law_tree_here"] (fQ K T n)) (NE : ∀ n,1 ≤ n → n ≤ 2 → Cal P w K mg base 10 "_law_near" ["_law_state_here","_law_tree_here","_law_names_here","_law_deep"] (cY K n n)) (IN : ∀ n,n ≤ 2 → Cal P w K mg base 6 "_law_in" ["_law_tree_here","_law_thing"] (hV K n)) (JU : Cal P w K mg base 9 "just" ["thing"] (cZ K T 4)) (TO : Cal P w K mg base 17 "_law_told" ["_law_kind_here","_law_thing","_law_due"] (oZ K 4))
  (m1 : mg "len" = none) (m2 : mg "range" = none) (m3 : mg "min" = none) : FnOk P w K mg base L9 18 f fd ["_law_script"] (nY K T) := by
 refine F.ok U9 (fun vs H Q E h=>?_) (fun cdv A outer s H vs Q E hr h=>?_)
 ·obtain ⟨a,ns,rfl,_⟩ := h
  rfl
 obtain ⟨a,ns,rfl,hq,h63,hT,q⟩ := h
 have hr1 := hr.mono (show 1 ≤ 17 by decide)
 have hr2 := hr.mono (show 2 ≤ 17 by decide)
 have hr6 := hr.mono (show 6 ≤ 17 by decide)
 have hr7 := hr.mono (show 7 ≤ 17 by decide)
 have hr8 := hr.mono (show 8 ≤ 17 by decide)
 have hr9 := hr.mono (show 9 ≤ 17 by decide)
 have hr10 := hr.mono (show 10 ≤ 17 by decide)
 refine ⟨_,B5 (G2 (i := 1) U9.nd rfl (Or.inl rfl) (B8 STATE hr1 rfl (A0 (B8 CELL hr1 rfl (A0 (pv 0) (A0 A7 A6))) (A0 A7 A6))))
  (B5 (G2 (i := 2) U9.nd rfl (Or.inl rfl) (B8 NAMES hr2 rfl (A0 (pv 1) A6)))
  (B5 (G2 (i := 3) U9.nd rfl (Or.inl rfl) A7)
  (X3 (G4 (E2 J4 (B8 N hr1 rfl (A0 (pv 1) (A0 A7 A6))) A7 (D7 _))
   (B5 (G2 (i := 3) U9.nd rfl (Or.inl rfl) A7)
   (A9 (G2 (i := 2) U9.nd rfl (Or.inl rfl) (J0 jT (pv 2) (U6 (N' := ["_law_letter"]) (fr := [none]) (own := [0]) ⟨rfl,rfl,rfl,rfl,rfl,rfl,rfl⟩ rfl (xT E1) (fun _ _ _ _=>G5 (i := 0) vP rfl (Or.inl rfl)) (U1 0) (fun _ _ _ _=>R7) (fun _ _ _ _=>J0 jR (pv 0) A7)))))) E7)
  lH))),?_⟩
 have tab0 : TabH H T Q5 Q4 := ⟨#[],hT,by trivial,.inl rfl⟩
 refine ⟨_,rfl,a,ns,0,rfl,hq,fun c=>⟨c,0,rfl,fun sf yf hsf=>?_⟩⟩
 have kf := A8 hsf (.lst [.int yf])
 refine ⟨_,rfl,sf,yf,rfl,A5,fun H2 nl nms d2 hnl0 hnl hnd h3 hnm=>?_⟩
 have D2 := d2
 have hq2 : SqL K H2 a (ns.map V.int) := by
  have h1 := kf.seq hq
  rcases hq with (z | ⟨o,z⟩) | z
  ·exact .inl (.inl (d2.g _ _ (E6 z hsf) (kf _ _ z)))
  ·exact .inl (.inr ⟨o,d2.g _ _ (E6 z hsf) (kf _ _ z)⟩)
  ·exact .inr z
 have tab2 : TabH H2 T Q5 Q4 := oT (tab0.same kf) d2
 obtain ⟨y2,hy2⟩ := d2.s
 have nsf : ∀ {b : Addr} {o : HO},H b = some o → b ≠ sf := fun h=>E6 h hsf
 have nnl : nl ≠ sf := d2.ne hnl0
 refine ⟨fun σ' H'=>∃ (l : Addr) (nn : List Str) (dp : Nat),1 ≤ dp ∧ dp ≤ 2 ∧ σ' = [some (.ref a),some (.ref sf),some (.ref l),some (.int (dp : Int)),none,none,none,none,none,none,none] ∧ SqL K H' a (ns.map V.int) ∧ TabH H' T Q5 Q4 ∧ H' l = some (.lst (nn.map V.str)) ∧ jG nn,?_,?_⟩
 ·refine ⟨_,rfl,sf,y2,8,rfl,hy2,by decide,fun y3 r b0 b1=>⟨rfl,_,rfl,M2 (fun _=>?_) (fun _=>?_)⟩⟩
  all_goals
   have dn : DS sf H2 (upd H2 sf (.lst [.int y3])) := (DS.start hy2).next y3
   have hq3 : SqL K (upd H2 sf (.lst [.int y3])) a (ns.map V.int) := by
    rcases hq with (z | ⟨o,z⟩) | z
    ·exact .inl (.inl (dn.g _ _ (nsf z) (d2.g _ _ (nsf z) (kf _ _ z))))
    ·exact .inl (.inr ⟨o,dn.g _ _ (nsf z) (d2.g _ _ (nsf z) (kf _ _ z))⟩)
    ·exact .inr z
   have tab3 := oT tab2 dn
   have hnl3 := dn.g _ _ nnl hnl
  ·refine ⟨_,rfl,?_⟩
   rw [BF3]
   refine ⟨_,rfl,fun l hl=>?_⟩
   have k4 := A8 hl (.lst [])
   refine qZ (x := S [97,98,99,100,101,102]) (fun i zs Hx=>Hx = upd (upd H2 sf (.lst [.int y3])) l (.lst zs) ∧ zs = (X9.take i).map V.str) ⟨rfl,rfl⟩ (fun i c zs Hx hc hinv=>?_) (fun zs Hx hinv=>?_)
   ·obtain ⟨rfl,ez⟩ := hinv
    have hc' : [97,98,99,100,101,102][i]? = some c := by simpa using hc
    have hi : i < 6 := (List.getElem?_eq_some_iff.mp hc').1
    have he : X9[i]? = some (S (List.replicate 8 c)) := by unfold X9; rw [List.getElem?_map,hc']; rfl
    dsimp only [V0,P6]
    refine aG ⟨_,rfl,_,_,rfl,rfl,(by show 1 ≤ 1000; decide),by decide,by decide,A5,P0 ?_,by rw [gX,mN],?_⟩
    ·rw [ez,List.length_map,List.length_take]; omega
    ·rw [M5 he,List.map_append,ez,mN]; rfl
   ·obtain ⟨rfl,ez⟩ := hinv
    have ez : zs = X9.map V.str := ez
    subst ez
    have k5 := A8 hl (.lst (X9.map V.str))
    refine ⟨nl,l,_,_,rfl,rfl,k5 _ _ hnl3,A5,T9 (by rw [List.length_map,List.length_map,h3]; decide),fun l2 hl2=>?_⟩
    have k6 := A8 hl2 (.lst (nms.map V.str ++ X9.map V.str))
    have k56 := k5.trans k6
    exact ⟨l2,nms ++ X9,1,by decide,by decide,rfl,k56.seq hq3,tab3.same k56,by rw [List.map_append]; exact A5,ns9 hnd h3 hnm⟩
  ·exact ⟨nl,nms,2,by decide,by decide,rfl,hq3,tab3,hnl3,⟨hnd,fun s hs=>(hnm s hs).mono (by decide),.inl h3⟩⟩
 clear hnl0 hnl hnd h3 hnm D2 hq2 tab2 d2 hy2 nsf nnl hsf kf tab0
 rintro σ0 H0 ⟨l,nn,dp,hd1,hd2,rfl,hq0,tab0,hl0,hns⟩
 refine ⟨_,B5 (R9 PassesOwn.never rfl (xU rfl m2 (A0 A7 (A0 (K6 (zV rfl) rfl m3 AX4 (A0 (K6 M6 rfl m1 PySem.boot_len (A0 (pv 0) A6)) (A0 A7 A6))) A6))) (G5 (i := 4) U9.nd rfl (Or.inl rfl))
   (B5 (G2 (i := 5) U9.nd rfl (Or.inl rfl) (B8 STATE hr1 rfl (A0 (B8 CELL hr1 rfl (A0 (pv 0) (A0 (pv 4) A6))) (A0 A7 A6))))
   (B5 (G2 (i := 6) U9.nd rfl (Or.inl rfl) (B8 (TR dp hd2) hr8 rfl (A0 (pv 5) (A0 (pv 2) (A0 (pv 3) A6)))))
   (B5 (G2 (i := 7) U9.nd rfl (Or.inl rfl) (B8 (KI dp hd2) hr7 rfl (A0 (pv 6) A6)))
   (B5 (G2 (i := 8) U9.nd rfl (Or.inl rfl) (G1 (A0 E1 A6)))
   (A9 (R9 PassesOwn.never rfl (X4 rfl m2 (A0 A7 A6)) (G5 (i := 9) U9.nd rfl (Or.inl rfl))
    (B5 (G2 (i := 10) U9.nd rfl (Or.inl rfl) (B8 (NE dp hd1 hd2) hr10 rfl (A0 (pv 5) (A0 (pv 6) (A0 (pv 2) (A0 (pv 3) A6))))))
    (B5 (G4 (Z8 (Q6 (B8 TO hr rfl (A0 (pv 7) (A0 (pv 10) (A0 (B8 (IN dp hd2) hr6 rfl (A0 (pv 6) (A0 (pv 10) A6))) A6)))))) (A9 (D8 W7)) E7)
    (B5 (G4 (PW.pt (aN (Z8 (Q6 (B8 TO hr rfl (A0 (B8 JU hr9 rfl (A0 (pv 10) A6)) (A0 (pv 10) (A0 W7 A6)))))) (X6 (Z8 (Q6 (B8 TO hr rfl (A0 (B8 JU hr9 rfl (A0 (pv 10) A6)) (A0 (pv 8) (A0 (J5 (W1 hr.units) (pv 10) (pv 8) (D7 _)) A6))))))))) (A9 (D8 W7)) E7)
    (A9 (G2 (i := 8) U9.nd rfl (Or.inl rfl) (pv 10)))))))))))))
  (A9 (D8 W7)),?_⟩
 refine ⟨_,rfl,a,_,rfl,.inl hq0,_,_,rfl,_,_,rfl,⟨by decide,by decide,?_,?_⟩,?_⟩
 ·rw [List.length_map]; split <;> omega
 ·rw [List.length_map]; split <;> omega
 refine cF (fun i σ Hx=>∃ (b4 b5 b6 b7 b8 b9 b10 : Option V),σ = [some (.ref a),some (.ref sf),some (.ref l),some (.int (dp : Int)),b4,b5,b6,b7,b8,b9,b10] ∧ TB T Q5 Q4 H0 Hx) ⟨none,none,none,none,none,none,none,rfl,TB.start tab0⟩ (fun i σ Hx hi hinv=>?_) (fun σ Hx hinv=>?_)
 ·obtain ⟨b4,b5,b6,b7,b8,b9,b10,rfl,B⟩ := hinv
  have hqx : SqL K Hx a (ns.map V.int) := by
   obtain ⟨ps,hTT,_⟩ := tab0.ex
   have nT : ∀ {b : Addr} {xs : List V},H0 b = some (.lst xs) → b ≠ T := fun h e=>by rw [e,hTT] at h; cases h
   rcases hq0 with (z | ⟨o,z⟩) | z
   ·exact .inl (.inl (B.g _ _ (nT z) z))
   ·exact .inl (.inr ⟨o,B.g _ _ (fun e=>by rw [e,hTT] at z; cases z) z⟩)
   ·exact .inr z
  refine ⟨_,rfl,_,rfl,a,ns,1 + i,by show [V.ref a,V.int (1 + (i : Int))] = _; rw [show ((1 + i : Nat) : Int) = 1 + (i : Int) by omega],hqx,fun c=>⟨c,1,rfl,fun st yst hst=>?_⟩⟩
  have k1 := A8 hst (.lst [.int yst])
  have L1 : LB K st T Hx (upd Hx st (.lst [.int yst])) := ⟨fun b o _ _ h=>k1 _ _ h,⟨yst,A5⟩,B.t.same k1,KT.same k1⟩
  have hlx : Hx l = some (.lst (nn.map V.str)) := B.lst hl0
  have nls : l ≠ st := E6 hlx hst
  have nlT : l ≠ T := B.neL hl0
  refine ⟨_,rfl,_,rfl,_,rfl,st,l,yst,nn,rfl,A5,k1 _ _ hlx,hns,fun H2 t v d2 ht hv=>?_⟩
  have L2' := L1.ds d2
  refine ⟨_,rfl,t,v,_,rfl,ht,hv,L2'.t,fun H3 kd d B3 hkd hok hdv=>?_⟩
  have L3 := L2'.tb B3
  refine ⟨X2,fun pl hpl=>?_⟩
  have k4 := A8 hpl (.tup [.str (Str.ofString "none")])
  have L4 := L3.same k4
  have hv4 := TrV.kt (B3.kt.trans (KT.same k4)) hv
  have hd4 := O7 k4 hok hdv
  have hlast : ThV K (upd H3 pl (.tup [.str (Str.ofString "none")])) .non (.ref pl) := by simp only [ThV]; exact ⟨pl,rfl,SqT.of A5⟩
  generalize upd H3 pl (.tup [.str (Str.ofString "none")]) = H4 at L4 hv4 hd4 hlast
  refine ⟨(4 : Int),rfl,by decide,by decide,?_⟩
  refine cF (fun j σ Hy=>∃ (b9 b10 : Option V) (lv : V) (lx : Th),σ = [some (.ref a),some (.ref sf),some (.ref l),some (.int (dp : Int)),some (.int (1 + (i : Int))),some (.ref st),some v,some kd,some lv,b9,b10] ∧ LB K st T Hx Hy ∧ TrV K Hy (upd Hx st (.lst [.int yst])) t v ∧ DatV K Hy d kd ∧ ThOk 4 lx ∧ ThV K Hy lx lv)
   ⟨b9,b10,.ref pl,.non,rfl,L4,hv4,hd4,.non,hlast⟩ (fun j σ Hy hj hinv=>?_) (fun σ Hy hinv=>?_)
  ·obtain ⟨c9,c10,lv,lx,rfl,L,hvy,hdy,hlo,hly⟩ := hinv
   obtain ⟨y5,hy5⟩ := L.s
   have hly5 : Hy l = some (.lst (nn.map V.str)) := L.g _ _ nls nlT hlx
   refine ⟨_,rfl,_,rfl,_,rfl,_,rfl,st,l,y5,nn,t,v,_,rfl,hy5,hly5,hns,ht,hvy,fun H6 x u d6 hx hu=>?_⟩
   have L6 := L.ds d6
   have hx4 : ThOk 4 x := hx.mono (by omega)
   have hv6 := TrV.kt d6.kt hvy
   have hd6 := DatV.kt d6.kt.toKF hok.nol hdy
   have hl6 := ThV.kt d6.kt.toKF hly
   refine ⟨_,rfl,_,rfl,_,rfl,_,rfl,t,x,v,u,_,_,rfl,ht,hv6,hx,hu,fun H7 g7=>?_⟩
   refine ⟨t,d,x,_,_,_,_,rfl,ht.td.mono (by omega),hkd,hok,O7 g7 hok hd6,hx,ThV.kt (KT.same g7).toKF hu,rfl,fun H8 g8=>⟨_,rfl,L5 ?_⟩⟩
   have g78 := g7.trans g8
   have L8 := L6.same g78
   have hu8 := ThV.kt (KT.same g78).toKF hu
   refine ⟨_,rfl,x,u,rfl,hx4,hu8,L8.t,fun H9 k9 d9 B9 hk9 ho9 hd9=>?_⟩
   have hu9 := ThV.kt B9.kt.toKF hu8
   refine ⟨_,rfl,P9 x,d9,x,k9,u,_,_,rfl,AH5 hx4,hk9,ho9,hd9,hx4,hu9,by rw [yZ hx4 hx4]; exact kN x,fun H10 g10=>⟨_,rfl,L5 ?_⟩⟩
   have L10 := (L8.tb B9).same g10
   have hu10 := ThV.kt (KT.same g10).toKF hu9
   refine ⟨_,rfl,x,u,rfl,hx4,hu10,L10.t,fun H11 k11 d11 B11 hk11 ho11 hd11=>?_⟩
   have L11 := L10.tb B11
   have kk : KT K H6 H11 := (KT.same g78).trans (B9.kt.trans ((KT.same g10).trans B11.kt))
   have hu11 := ThV.kt kk.toKF hu
   have hl11 := ThV.kt kk.toKF hl6
   have dpx := nX hx4
   refine ⟨_,rfl,_,rfl,_,rfl,K0 x,K0 lx,ThV.dat hu11,ThV.dat hl11,(dU hx4).lay,(dU hlo).lay,by omega,?_⟩
   refine ⟨P9 x,d11,lx,k11,lv,_,_,rfl,AH5 hx4,hk11,ho11,hd11,hlo,hl11,yZ hx4 hlo,fun H12 g12=>⟨_,rfl,L5 ⟨_,rfl,?_⟩⟩⟩
   have k12 : KT K H6 H12 := kk.trans (KT.same g12)
   exact ⟨_,_,u,x,rfl,L11.same g12,TrV.kt k12 hv6,DatV.kt k12.toKF hok.nol hd6,hx4,ThV.kt k12.toKF hu⟩
  ·obtain ⟨c9,c10,lv,lx,rfl,L,_⟩ := hinv
   refine ⟨_,_,_,_,_,_,_,rfl,fun b o hb h=>?_,L.t,B.b⟩
   have hbx := B.g b o hb h
   exact L.g b o (E6 hbx hst) hb hbx
 ·obtain ⟨b4,b5,b6,b7,b8,b9,b10,rfl,B⟩ := hinv
  obtain ⟨ps,h,_⟩ := B.t.ex
  exact q _ ⟨ps,h⟩
end
end Law
namespace Law
open PySem L2 L2.Sp
theorem all_mk {l : PySem.W.OpenLaw} {w : World} {K : PySem.W.Frag} {h : Heap} {mg : Str → Option Value} {fa T : Addr} (X : K.In h) (G : h.Ns mainGlobals mg) (hfa : mg "law" = some (.ref fa))
  {f1 : Addr} {od1 an1 : Option Addr} {sl1 : Array (Option Value)} {oc1 kV1 dc1 pm1 cd1 ct1 : Value}
  {f2 : Addr} {od2 an2 : Option Addr} {sl2 : Array (Option Value)} {oc2 kV2 dc2 pm2 cd2 ct2 : Value}
  {f4 : Addr} {od4 an4 : Option Addr} {sl4 : Array (Option Value)} {oc4 kV4 dc4 pm4 cd4 ct4 : Value}
  {f5 : Addr} {od5 an5 : Option Addr} {sl5 : Array (Option Value)} {oc5 kV5 dc5 pm5 cd5 ct5 : Value}
  {f3 : Addr} {od3 an3 : Option Addr} {sl3 : Array (Option Value)} {oc3 kV3 dc3 pm3 cd3 ct3 : Value}
  {f0 : Addr} {od0 an0 : Option Addr} {sl0 : Array (Option Value)} {oc0 kV0 dc0 pm0 cd0 ct0 : Value}
  {f7 : Addr} {od7 an7 : Option Addr} {sl7 : Array (Option Value)} {oc7 kV7 dc7 pm7 cd7 ct7 : Value}
  {f6 : Addr} {od6 an6 : Option Addr} {sl6 : Array (Option Value)} {oc6 kV6 dc6 pm6 cd6 ct6 : Value}
  {f8 : Addr} {od8 an8 : Option Addr} {sl8 : Array (Option Value)} {oc8 kV8 dc8 pm8 cd8 ct8 : Value}
  {f9 : Addr} {od9 an9 : Option Addr} {sl9 : Array (Option Value)} {oc9 kV9 dc9 pm9 cd9 ct9 : Value}
  {f10 : Addr} {od10 an10 : Option Addr} {sl10 : Array (Option Value)} {oc10 kV10 dc10 pm10 cd10 ct10 : Value}
  {f12 : Addr} {od12 an12 : Option Addr} {sl12 : Array (Option Value)} {oc12 kV12 dc12 pm12 cd12 ct12 : Value}
  {f11 : Addr} {od11 an11 : Option Addr} {sl11 : Array (Option Value)} {oc11 kV11 dc11 pm11 cd11 ct11 : Value}
  {f13 : Addr} {od13 an13 : Option Addr} {sl13 : Array (Option Value)} {oc13 kV13 dc13 pm13 cd13 ct13 : Value}
  {f14 : Addr} {od14 an14 : Option Addr} {sl14 : Array (Option Value)} {oc14 kV14 dc14 pm14 cd14 ct14 : Value}
  {f15 : Addr} {od15 an15 : Option Addr} {sl15 : Array (Option Value)} {oc15 kV15 dc15 pm15 cd15 ct15 : Value}
  {f18 : Addr} {od18 an18 : Option Addr} {sl18 : Array (Option Value)} {oc18 kV18 dc18 pm18 cd18 ct18 : Value}
  {f16 c16 dt_of_list : Addr} {od16 an16 dd_of_list : Option Addr} {sl16 sm_of_list : Array (Option Value)} {oc16 od2_of_list kV16 dc16 pm16 ct16 : Value} {nn_of_list : Nat}
  {f17 c17 dt_of_record : Addr} {od17 an17 dd_of_record : Option Addr} {sl17 sm_of_record : Array (Option Value)} {oc17 od2_of_record kV17 dc17 pm17 ct17 : Value} {nn_of_record : Nat}
  {f24 : Addr} {od24 an24 : Option Addr} {sl24 : Array (Option Value)} {oc24 kV24 dc24 pm24 cd24 ct24 : Value}
  {f25 : Addr} {od25 an25 : Option Addr} {sl25 : Array (Option Value)} {oc25 kV25 dc25 pm25 cd25 ct25 : Value}
  {f26 : Addr} {od26 an26 : Option Addr} {sl26 : Array (Option Value)} {oc26 kV26 dc26 pm26 cd26 ct26 : Value}
  {f27 : Addr} {od27 an27 : Option Addr} {sl27 : Array (Option Value)} {oc27 kV27 dc27 pm27 cd27 ct27 : Value}
  {f28 : Addr} {od28 an28 : Option Addr} {sl28 : Array (Option Value)} {oc28 kV28 dc28 pm28 cd28 ct28 : Value}
  {f29 : Addr} {od29 an29 : Option Addr} {sl29 : Array (Option Value)} {oc29 kV29 dc29 pm29 cd29 ct29 : Value}
  {f30 : Addr} {od30 an30 : Option Addr} {sl30 : Array (Option Value)} {oc30 kV30 dc30 pm30 cd30 ct30 : Value}
  {f36 : Addr} {od36 an36 : Option Addr} {sl36 : Array (Option Value)} {oc36 kV36 dc36 pm36 cd36 ct36 : Value}
  {f40 : Addr} {od40 an40 : Option Addr} {sl40 : Array (Option Value)} {oc40 kV40 dc40 pm40 cd40 ct40 : Value}
  {f41 : Addr} {od41 an41 : Option Addr} {sl41 : Array (Option Value)} {oc41 kV41 dc41 pm41 cd41 ct41 : Value}
  {f19 : Addr} {od19 an19 : Option Addr} {sl19 : Array (Option Value)} {oc19 kV19 dc19 pm19 cd19 ct19 : Value}
  {f20 : Addr} {od20 an20 : Option Addr} {sl20 : Array (Option Value)} {oc20 kV20 dc20 pm20 cd20 ct20 : Value}
  {f21 : Addr} {od21 an21 : Option Addr} {sl21 : Array (Option Value)} {oc21 kV21 dc21 pm21 cd21 ct21 : Value}
  {f22 : Addr} {od22 an22 : Option Addr} {sl22 : Array (Option Value)} {oc22 kV22 dc22 pm22 cd22 ct22 : Value}
  {f23 : Addr} {od23 an23 : Option Addr} {sl23 : Array (Option Value)} {oc23 kV23 dc23 pm23 cd23 ct23 : Value}
  {f31 : Addr} {od31 an31 : Option Addr} {sl31 : Array (Option Value)} {oc31 kV31 dc31 pm31 cd31 ct31 : Value}
  {f32 : Addr} {od32 an32 : Option Addr} {sl32 : Array (Option Value)} {oc32 kV32 dc32 pm32 cd32 ct32 : Value}
  {f33 : Addr} {od33 an33 : Option Addr} {sl33 : Array (Option Value)} {oc33 kV33 dc33 pm33 cd33 ct33 : Value}
  {f34 : Addr} {od34 an34 : Option Addr} {sl34 : Array (Option Value)} {oc34 kV34 dc34 pm34 cd34 ct34 : Value}
  {f35 : Addr} {od35 an35 : Option Addr} {sl35 : Array (Option Value)} {oc35 kV35 dc35 pm35 cd35 ct35 : Value}
  {f37 : Addr} {od37 an37 : Option Addr} {sl37 : Array (Option Value)} {oc37 kV37 dc37 pm37 cd37 ct37 : Value}
  {f38 : Addr} {od38 an38 : Option Addr} {sl38 : Array (Option Value)} {oc38 kV38 dc38 pm38 cd38 ct38 : Value}
  {f39 : Addr} {od39 an39 : Option Addr} {sl39 : Array (Option Value)} {oc39 kV39 dc39 pm39 cd39 ct39 : Value}
  {f42 : Addr} {od42 an42 : Option Addr} {sl42 : Array (Option Value)} {oc42 kV42 dc42 pm42 cd42 ct42 : Value}
  {f43 : Addr} {od43 an43 : Option Addr} {sl43 : Array (Option Value)} {oc43 kV43 dc43 pm43 cd43 ct43 : Value}
  {f44 : Addr} {od44 an44 : Option Addr} {sl44 : Array (Option Value)} {oc44 kV44 dc44 pm44 cd44 ct44 : Value}
  {g1 : Addr} {gd1 : Option Addr} {gs1 : Array (Option Value)} {gn1 : Nat}
  {g2 : Addr} {gd2 : Option Addr} {gs2 : Array (Option Value)} {gn2 : Nat}
  {g3 : Addr} {gd3 : Option Addr} {gs3 : Array (Option Value)} {gn3 : Nat}
  {g4 : Addr} {gd4 : Option Addr} {gs4 : Array (Option Value)} {gn4 : Nat}
  {t5 : Tok}
  {g6 : Addr} {gd6 : Option Addr} {gs6 : Array (Option Value)} {gn6 : Nat}
  {g7 : Addr} {gd7 : Option Addr} {gs7 : Array (Option Value)} {gn7 : Nat}
  {t8 : Tok}
  {g9 : Addr} {gd9 : Option Addr} {gs9 : Array (Option Value)} {gn9 : Nat}
  {t10 : Tok}
  {g11 : Addr} {gd11 : Option Addr} {gs11 : Array (Option Value)} {gn11 : Nat}
  {g12 : Addr} {gd12 : Option Addr} {gs12 : Array (Option Value)} {gn12 : Nat}
  {g13 : Addr} {gd13 : Option Addr} {gs13 : Array (Option Value)} {gn13 : Nat}
  {g14 : Addr} {gd14 : Option Addr} {gs14 : Array (Option Value)} {gn14 : Nat}
  {g15 : Addr} {gd15 : Option Addr} {gs15 : Array (Option Value)} {gn15 : Nat}
  {g16 : Addr} {gd16 : Option Addr} {gs16 : Array (Option Value)} {gn16 : Nat}
  {g17 : Addr} {gd17 : Option Addr} {gs17 : Array (Option Value)} {gn17 : Nat}
  {t18 : Tok}
  {g19 : Addr} {gd19 : Option Addr} {gs19 : Array (Option Value)} {gn19 : Nat}
  {g20 : Addr} {gd20 : Option Addr} {gs20 : Array (Option Value)} {gn20 : Nat}
  {t21 : Tok}
  {g22 : Addr} {gd22 : Option Addr} {gs22 : Array (Option Value)} {gn22 : Nat}
  {t23 : Tok}
  {g24 : Addr} {gd24 : Option Addr} {gs24 : Array (Option Value)} {gn24 : Nat}
  {t25 : Tok}
  {g26 : Addr} {gd26 : Option Addr} {gs26 : Array (Option Value)} {gn26 : Nat}
  {t27 : Tok}
  {g28 : Addr} {gd28 : Option Addr} {gs28 : Array (Option Value)} {gn28 : Nat}
  {t29 : Tok}
  {g30 : Addr} {gs30 : Array (Option Value)} {gn30 : Nat} {ts0 ts1 ts2 ts3 ts4 ts5 : Tok}
  {gt : Addr} {dN : Option Addr} {slN : Array (Option Value)} {tA tB : Tok} {nN : Nat}
  (a1 : PySem.W.nsIn K mainGlobals "has_numbers" = some (some (.ref f1))) (l1 : K.lookup f1 = some ⟨oc1,od1,.func (PySem.W.fnOf "has_numbers" "has_numbers" (E9 lC) (E4 lC) (B6 lC) .none kV1 dc1 pm1 an1 cd1 ct1),sl1⟩) (c1 : PySem.W.codeIn K cd1 "has_numbers" = true) (k1 : PySem.W.keepIn K (.ref f1) = true)
  (a2 : PySem.W.nsIn K mainGlobals "end_of" = some (some (.ref f2))) (l2 : K.lookup f2 = some ⟨oc2,od2,.func (PySem.W.fnOf "end_of" "end_of" (E9 lE) (E4 lE) (B6 lE) .none kV2 dc2 pm2 an2 cd2 ct2),sl2⟩) (c2 : PySem.W.codeIn K cd2 "end_of" = true) (k2 : PySem.W.keepIn K (.ref f2) = true)
  (a4 : PySem.W.nsIn K mainGlobals "reaches" = some (some (.ref f4))) (l4 : K.lookup f4 = some ⟨oc4,od4,.func (PySem.W.fnOf "reaches" "reaches" (E9 dD) (E4 dD) (B6 dD) .none kV4 dc4 pm4 an4 cd4 ct4),sl4⟩) (c4 : PySem.W.codeIn K cd4 "reaches" = true) (k4 : PySem.W.keepIn K (.ref f4) = true)
  (a5 : PySem.W.nsIn K mainGlobals "higher" = some (some (.ref f5))) (l5 : K.lookup f5 = some ⟨oc5,od5,.func (PySem.W.fnOf "higher" "higher" (E9 aU) (E4 aU) (B6 aU) .none kV5 dc5 pm5 an5 cd5 ct5),sl5⟩) (c5 : PySem.W.codeIn K cd5 "higher" = true) (k5 : PySem.W.keepIn K (.ref f5) = true)
  (a3 : PySem.W.nsIn K mainGlobals "put_together" = some (some (.ref f3))) (l3 : K.lookup f3 = some ⟨oc3,od3,.func (PySem.W.fnOf "put_together" "put_together" (E9 lA) (E4 lA) (B6 lA) .none kV3 dc3 pm3 an3 cd3 ct3),sl3⟩) (c3 : PySem.W.codeIn K cd3 "put_together" = true) (k3 : PySem.W.keepIn K (.ref f3) = true)
  (a0 : PySem.W.nsIn K mainGlobals "spans_of" = some (some (.ref f0))) (l0 : K.lookup f0 = some ⟨oc0,od0,.func (PySem.W.fnOf "spans_of" "spans_of" (E9 sN) (E4 sN) (B6 sN) .none kV0 dc0 pm0 an0 cd0 ct0),sl0⟩) (c0 : PySem.W.codeIn K cd0 "spans_of" = true) (k0 : PySem.W.keepIn K (.ref f0) = true)
  (a7 : PySem.W.nsIn K mainGlobals "is_between" = some (some (.ref f7))) (l7 : K.lookup f7 = some ⟨oc7,od7,.func (PySem.W.fnOf "is_between" "is_between" (E9 iG) (E4 iG) (B6 iG) .none kV7 dc7 pm7 an7 cd7 ct7),sl7⟩) (c7 : PySem.W.codeIn K cd7 "is_between" = true) (k7 : PySem.W.keepIn K (.ref f7) = true)
  (a6 : PySem.W.nsIn K mainGlobals "in_spans" = some (some (.ref f6))) (l6 : K.lookup f6 = some ⟨oc6,od6,.func (PySem.W.fnOf "in_spans" "in_spans" (E9 sQ) (E4 sQ) (B6 sQ) .none kV6 dc6 pm6 an6 cd6 ct6),sl6⟩) (c6 : PySem.W.codeIn K cd6 "in_spans" = true) (k6 : PySem.W.keepIn K (.ref f6) = true)
  (a8 : PySem.W.nsIn K mainGlobals "is_sign" = some (some (.ref f8))) (l8 : K.lookup f8 = some ⟨oc8,od8,.func (PySem.W.fnOf "is_sign" "is_sign" (E9 iB) (E4 iB) (B6 iB) .none kV8 dc8 pm8 an8 cd8 ct8),sl8⟩) (c8 : PySem.W.codeIn K cd8 "is_sign" = true) (k8 : PySem.W.keepIn K (.ref f8) = true)
  (a9 : PySem.W.nsIn K mainGlobals "is_text_of_signs" = some (some (.ref f9))) (l9 : K.lookup f9 = some ⟨oc9,od9,.func (PySem.W.fnOf "is_text_of_signs" "is_text_of_signs" (E9 dC) (E4 dC) (B6 dC) .none kV9 dc9 pm9 an9 cd9 ct9),sl9⟩) (c9 : PySem.W.codeIn K cd9 "is_text_of_signs" = true) (k9 : PySem.W.keepIn K (.ref f9) = true)
  (a10 : PySem.W.nsIn K mainGlobals "in_texts" = some (some (.ref f10))) (l10 : K.lookup f10 = some ⟨oc10,od10,.func (PySem.W.fnOf "in_texts" "in_texts" (E9 lB) (E4 lB) (B6 lB) .none kV10 dc10 pm10 an10 cd10 ct10),sl10⟩) (c10 : PySem.W.codeIn K cd10 "in_texts" = true) (k10 : PySem.W.keepIn K (.ref f10) = true)
  (a12 : PySem.W.nsIn K mainGlobals "with_part" = some (some (.ref f12))) (l12 : K.lookup f12 = some ⟨oc12,od12,.func (PySem.W.fnOf "with_part" "with_part" (E9 sK) (E4 sK) (B6 sK) .none kV12 dc12 pm12 an12 cd12 ct12),sl12⟩) (c12 : PySem.W.codeIn K cd12 "with_part" = true) (k12 : PySem.W.keepIn K (.ref f12) = true)
  (a11 : PySem.W.nsIn K mainGlobals "of_sort" = some (some (.ref f11))) (l11 : K.lookup f11 = some ⟨oc11,od11,.func (PySem.W.fnOf "of_sort" "of_sort" (E9 iA) (E4 iA) (B6 iA) .none kV11 dc11 pm11 an11 cd11 ct11),sl11⟩) (c11 : PySem.W.codeIn K cd11 "of_sort" = true) (k11 : PySem.W.keepIn K (.ref f11) = true)
  (a13 : PySem.W.nsIn K mainGlobals "of_truth" = some (some (.ref f13))) (l13 : K.lookup f13 = some ⟨oc13,od13,.func (PySem.W.fnOf "of_truth" "of_truth" (E9 kZ) (E4 kZ) (B6 kZ) .none kV13 dc13 pm13 an13 cd13 ct13),sl13⟩) (c13 : PySem.W.codeIn K cd13 "of_truth" = true) (k13 : PySem.W.keepIn K (.ref f13) = true)
  (a14 : PySem.W.nsIn K mainGlobals "of_numbers" = some (some (.ref f14))) (l14 : K.lookup f14 = some ⟨oc14,od14,.func (PySem.W.fnOf "of_numbers" "of_numbers" (E9 sO) (E4 sO) (B6 sO) .none kV14 dc14 pm14 an14 cd14 ct14),sl14⟩) (c14 : PySem.W.codeIn K cd14 "of_numbers" = true) (k14 : PySem.W.keepIn K (.ref f14) = true)
  (a15 : PySem.W.nsIn K mainGlobals "of_text" = some (some (.ref f15))) (l15 : K.lookup f15 = some ⟨oc15,od15,.func (PySem.W.fnOf "of_text" "of_text" (E9 kY) (E4 kY) (B6 kY) .none kV15 dc15 pm15 an15 cd15 ct15),sl15⟩) (c15 : PySem.W.codeIn K cd15 "of_text" = true) (k15 : PySem.W.keepIn K (.ref f15) = true)
  (a18 : PySem.W.nsIn K mainGlobals "with_field" = some (some (.ref f18))) (l18 : K.lookup f18 = some ⟨oc18,od18,.func (PySem.W.fnOf "with_field" "with_field" (E9 sL) (E4 sL) (B6 sL) .none kV18 dc18 pm18 an18 cd18 ct18),sl18⟩) (c18 : PySem.W.codeIn K cd18 "with_field" = true) (k18 : PySem.W.keepIn K (.ref f18) = true)
  (a16 : PySem.W.nsIn K mainGlobals "of_list" = some (some (.ref f16))) (l16 : K.lookup f16 = some ⟨oc16,od16,.func (PySem.W.fnOf "of_list" "of_list" (E9 iE) (E4 iE) (B6 iE) (.ref dt_of_list) kV16 dc16 pm16 an16 (.ref c16) ct16),sl16⟩) (c2_of_list : PySem.W.codeIn K (.ref c16) "of_list" = true) (k16 : PySem.W.keepIn K (.ref f16) = true) (d_of_list : K.lookup dt_of_list = some ⟨od2_of_list,dd_of_list,.seq #[.bool false] nn_of_list,sm_of_list⟩)
  (a17 : PySem.W.nsIn K mainGlobals "of_record" = some (some (.ref f17))) (l17 : K.lookup f17 = some ⟨oc17,od17,.func (PySem.W.fnOf "of_record" "of_record" (E9 iX) (E4 iX) (B6 iX) (.ref dt_of_record) kV17 dc17 pm17 an17 (.ref c17) ct17),sl17⟩) (c2_of_record : PySem.W.codeIn K (.ref c17) "of_record" = true) (k17 : PySem.W.keepIn K (.ref f17) = true) (d_of_record : K.lookup dt_of_record = some ⟨od2_of_record,dd_of_record,.seq #[.bool false] nn_of_record,sm_of_record⟩)
  (a24 : PySem.W.nsIn K mainGlobals "_law_cell_at" = some (some (.ref f24))) (l24 : K.lookup f24 = some ⟨oc24,od24,.func (PySem.W.fnOf "_law_cell_at" "_law_cell_at" (E9 iF) (E4 iF) (B6 iF) .none kV24 dc24 pm24 an24 cd24 ct24),sl24⟩) (c24 : PySem.W.codeIn K cd24 "_law_cell_at" = true) (k24 : PySem.W.keepIn K (.ref f24) = true)
  (a25 : PySem.W.nsIn K mainGlobals "_law_state" = some (some (.ref f25))) (l25 : K.lookup f25 = some ⟨oc25,od25,.func (PySem.W.fnOf "_law_state" "_law_state" (E9 dB) (E4 dB) (B6 dB) .none kV25 dc25 pm25 an25 cd25 ct25),sl25⟩) (c25 : PySem.W.codeIn K cd25 "_law_state" = true) (k25 : PySem.W.keepIn K (.ref f25) = true)
  (a26 : PySem.W.nsIn K mainGlobals "_law_next" = some (some (.ref f26))) (l26 : K.lookup f26 = some ⟨oc26,od26,.func (PySem.W.fnOf "_law_next" "_law_next" (E9 iD) (E4 iD) (B6 iD) .none kV26 dc26 pm26 an26 cd26 ct26),sl26⟩) (c26 : PySem.W.codeIn K cd26 "_law_next" = true) (k26 : PySem.W.keepIn K (.ref f26) = true)
  (a27 : PySem.W.nsIn K mainGlobals "_law_names" = some (some (.ref f27))) (l27 : K.lookup f27 = some ⟨oc27,od27,.func (PySem.W.fnOf "_law_names" "_law_names" (E9 dE) (E4 dE) (B6 dE) .none kV27 dc27 pm27 an27 cd27 ct27),sl27⟩) (c27 : PySem.W.codeIn K cd27 "_law_names" = true) (k27 : PySem.W.keepIn K (.ref f27) = true)
  (a28 : PySem.W.nsIn K mainGlobals "_law_number" = some (some (.ref f28))) (l28 : K.lookup f28 = some ⟨oc28,od28,.func (PySem.W.fnOf "_law_number" "_law_number" (E9 iC) (E4 iC) (B6 iC) .none kV28 dc28 pm28 an28 cd28 ct28),sl28⟩) (c28 : PySem.W.codeIn K cd28 "_law_number" = true) (k28 : PySem.W.keepIn K (.ref f28) = true)
  (a29 : PySem.W.nsIn K mainGlobals "_law_text" = some (some (.ref f29))) (l29 : K.lookup f29 = some ⟨oc29,od29,.func (PySem.W.fnOf "_law_text" "_law_text" (E9 eB) (E4 eB) (B6 eB) .none kV29 dc29 pm29 an29 cd29 ct29),sl29⟩) (c29 : PySem.W.codeIn K cd29 "_law_text" = true) (k29 : PySem.W.keepIn K (.ref f29) = true)
  (a30 : PySem.W.nsIn K mainGlobals "_law_leaf" = some (some (.ref f30))) (l30 : K.lookup f30 = some ⟨oc30,od30,.func (PySem.W.fnOf "_law_leaf" "_law_leaf" (E9 R3) (E4 R3) (B6 R3) .none kV30 dc30 pm30 an30 cd30 ct30),sl30⟩) (c30 : PySem.W.codeIn K cd30 "_law_leaf" = true) (k30 : PySem.W.keepIn K (.ref f30) = true)
  (a36 : PySem.W.nsIn K mainGlobals "_law_as_record" = some (some (.ref f36))) (l36 : K.lookup f36 = some ⟨oc36,od36,.func (PySem.W.fnOf "_law_as_record" "_law_as_record" (E9 sR) (E4 sR) (B6 sR) .none kV36 dc36 pm36 an36 cd36 ct36),sl36⟩) (c36 : PySem.W.codeIn K cd36 "_law_as_record" = true) (k36 : PySem.W.keepIn K (.ref f36) = true)
  (a40 : PySem.W.nsIn K mainGlobals "_law_list_kind" = some (some (.ref f40))) (l40 : K.lookup f40 = some ⟨oc40,od40,.func (PySem.W.fnOf "_law_list_kind" "_law_list_kind" (E9 sP) (E4 sP) (B6 sP) .none kV40 dc40 pm40 an40 cd40 ct40),sl40⟩) (c40 : PySem.W.codeIn K cd40 "_law_list_kind" = true) (k40 : PySem.W.keepIn K (.ref f40) = true)
  (a41 : PySem.W.nsIn K mainGlobals "_law_record_kind" = some (some (.ref f41))) (l41 : K.lookup f41 = some ⟨oc41,od41,.func (PySem.W.fnOf "_law_record_kind" "_law_record_kind" (E9 sM) (E4 sM) (B6 sM) .none kV41 dc41 pm41 an41 cd41 ct41),sl41⟩) (c41 : PySem.W.codeIn K cd41 "_law_record_kind" = true) (k41 : PySem.W.keepIn K (.ref f41) = true)
  (a19 : PySem.W.nsIn K mainGlobals "just" = some (some (.ref f19))) (l19 : K.lookup f19 = some ⟨oc19,od19,.func (PySem.W.fnOf "just" "just" (E9 bV) (E4 bV) (B6 bV) .none kV19 dc19 pm19 an19 cd19 ct19),sl19⟩) (c19 : PySem.W.codeIn K cd19 "just" = true) (k19 : PySem.W.keepIn K (.ref f19) = true)
  (a20 : PySem.W.nsIn K mainGlobals "holds" = some (some (.ref f20))) (l20 : K.lookup f20 = some ⟨oc20,od20,.func (PySem.W.fnOf "holds" "holds" (E9 Z6) (E4 Z6) (B6 Z6) .none kV20 dc20 pm20 an20 cd20 ct20),sl20⟩) (c20 : PySem.W.codeIn K cd20 "holds" = true) (k20 : PySem.W.keepIn K (.ref f20) = true)
  (a21 : PySem.W.nsIn K mainGlobals "lets_list_in" = some (some (.ref f21))) (l21 : K.lookup f21 = some ⟨oc21,od21,.func (PySem.W.fnOf "lets_list_in" "lets_list_in" (E9 mJ) (E4 mJ) (B6 mJ) .none kV21 dc21 pm21 an21 cd21 ct21),sl21⟩) (c21 : PySem.W.codeIn K cd21 "lets_list_in" = true) (k21 : PySem.W.keepIn K (.ref f21) = true)
  (a22 : PySem.W.nsIn K mainGlobals "lets_record_in" = some (some (.ref f22))) (l22 : K.lookup f22 = some ⟨oc22,od22,.func (PySem.W.fnOf "lets_record_in" "lets_record_in" (E9 mI) (E4 mI) (B6 mI) .none kV22 dc22 pm22 an22 cd22 ct22),sl22⟩) (c22 : PySem.W.codeIn K cd22 "lets_record_in" = true) (k22 : PySem.W.keepIn K (.ref f22) = true)
  (a23 : PySem.W.nsIn K mainGlobals "form_behind" = some (some (.ref f23))) (l23 : K.lookup f23 = some ⟨oc23,od23,.func (PySem.W.fnOf "form_behind" "form_behind" (E9 mK) (E4 mK) (B6 mK) .none kV23 dc23 pm23 an23 cd23 ct23),sl23⟩) (c23 : PySem.W.codeIn K cd23 "form_behind" = true) (k23 : PySem.W.keepIn K (.ref f23) = true)
  (a31 : PySem.W.nsIn K mainGlobals "_law_record" = some (some (.ref f31))) (l31 : K.lookup f31 = some ⟨oc31,od31,.func (PySem.W.fnOf "_law_record" "_law_record" (E9 bS) (E4 bS) (B6 bS) .none kV31 dc31 pm31 an31 cd31 ct31),sl31⟩) (c31 : PySem.W.codeIn K cd31 "_law_record" = true) (k31 : PySem.W.keepIn K (.ref f31) = true)
  (a32 : PySem.W.nsIn K mainGlobals "_law_tree" = some (some (.ref f32))) (l32 : K.lookup f32 = some ⟨oc32,od32,.func (PySem.W.fnOf "_law_tree" "_law_tree" (E9 bR) (E4 bR) (B6 bR) .none kV32 dc32 pm32 an32 cd32 ct32),sl32⟩) (c32 : PySem.W.codeIn K cd32 "_law_tree" = true) (k32 : PySem.W.keepIn K (.ref f32) = true)
  (a33 : PySem.W.nsIn K mainGlobals "_law_in_list" = some (some (.ref f33))) (l33 : K.lookup f33 = some ⟨oc33,od33,.func (PySem.W.fnOf "_law_in_list" "_law_in_list" (E9 fX) (E4 fX) (B6 fX) .none kV33 dc33 pm33 an33 cd33 ct33),sl33⟩) (c33 : PySem.W.codeIn K cd33 "_law_in_list" = true) (k33 : PySem.W.keepIn K (.ref f33) = true)
  (a34 : PySem.W.nsIn K mainGlobals "_law_in_record" = some (some (.ref f34))) (l34 : K.lookup f34 = some ⟨oc34,od34,.func (PySem.W.fnOf "_law_in_record" "_law_in_record" (E9 fW) (E4 fW) (B6 fW) .none kV34 dc34 pm34 an34 cd34 ct34),sl34⟩) (c34 : PySem.W.codeIn K cd34 "_law_in_record" = true) (k34 : PySem.W.keepIn K (.ref f34) = true)
  (a35 : PySem.W.nsIn K mainGlobals "_law_in" = some (some (.ref f35))) (l35 : K.lookup f35 = some ⟨oc35,od35,.func (PySem.W.fnOf "_law_in" "_law_in" (E9 fV) (E4 fV) (B6 fV) .none kV35 dc35 pm35 an35 cd35 ct35),sl35⟩) (c35 : PySem.W.codeIn K cd35 "_law_in" = true) (k35 : PySem.W.keepIn K (.ref f35) = true)
  (a37 : PySem.W.nsIn K mainGlobals "_law_any" = some (some (.ref f37))) (l37 : K.lookup f37 = some ⟨oc37,od37,.func (PySem.W.fnOf "_law_any" "_law_any" (E9 fY) (E4 fY) (B6 fY) .none kV37 dc37 pm37 an37 cd37 ct37),sl37⟩) (c37 : PySem.W.codeIn K cd37 "_law_any" = true) (k37 : PySem.W.keepIn K (.ref f37) = true)
  (a38 : PySem.W.nsIn K mainGlobals "_law_near_record" = some (some (.ref f38))) (l38 : K.lookup f38 = some ⟨oc38,od38,.func (PySem.W.fnOf "_law_near_record" "_law_near_record" (E9 mH) (E4 mH) (B6 mH) .none kV38 dc38 pm38 an38 cd38 ct38),sl38⟩) (c38 : PySem.W.codeIn K cd38 "_law_near_record" = true) (k38 : PySem.W.keepIn K (.ref f38) = true)
  (a39 : PySem.W.nsIn K mainGlobals "_law_near" = some (some (.ref f39))) (l39 : K.lookup f39 = some ⟨oc39,od39,.func (PySem.W.fnOf "_law_near" "_law_near" (E9 bT) (E4 bT) (B6 bT) .none kV39 dc39 pm39 an39 cd39 ct39),sl39⟩) (c39 : PySem.W.codeIn K cd39 "_law_near" = true) (k39 : PySem.W.keepIn K (.ref f39) = true)
  (a42 : PySem.W.nsIn K mainGlobals "_law_kind" = some (some (.ref f42))) (l42 : K.lookup f42 = some ⟨oc42,od42,.func (PySem.W.fnOf "_law_kind" "_law_kind" (E9 bU) (E4 bU) (B6 bU) .none kV42 dc42 pm42 an42 cd42 ct42),sl42⟩) (c42 : PySem.W.codeIn K cd42 "_law_kind" = true) (k42 : PySem.W.keepIn K (.ref f42) = true)
  (a43 : PySem.W.nsIn K mainGlobals "_law_told" = some (some (.ref f43))) (l43 : K.lookup f43 = some ⟨oc43,od43,.func (PySem.W.fnOf "_law_told" "_law_told" (E9 hZ) (E4 hZ) (B6 hZ) .none kV43 dc43 pm43 an43 cd43 ct43),sl43⟩) (c43 : PySem.W.codeIn K cd43 "_law_told" = true) (k43 : PySem.W.keepIn K (.ref f43) = true)
  (a44 : PySem.W.nsIn K mainGlobals "law" = some (some (.ref f44))) (l44 : K.lookup f44 = some ⟨oc44,od44,.func (PySem.W.fnOf "law" "law" (E9 eD) (E4 eD) (B6 eD) .none kV44 dc44 pm44 an44 cd44 ct44),sl44⟩) (c44 : PySem.W.codeIn K cd44 "law" = true) (k44 : PySem.W.keepIn K (.ref f44) = true)
  (z50 : PySem.W.nsIn K mainGlobals "all" = some none)
  (z51 : PySem.W.nsIn K mainGlobals "any" = some none)
  (z52 : PySem.W.nsIn K mainGlobals "bool" = some none)
  (z53 : PySem.W.nsIn K mainGlobals "dict" = some none)
  (z54 : PySem.W.nsIn K mainGlobals "int" = some none)
  (z55 : PySem.W.nsIn K mainGlobals "isinstance" = some none)
  (z56 : PySem.W.nsIn K mainGlobals "len" = some none)
  (z57 : PySem.W.nsIn K mainGlobals "list" = some none)
  (z58 : PySem.W.nsIn K mainGlobals "max" = some none)
  (z59 : PySem.W.nsIn K mainGlobals "min" = some none)
  (z60 : PySem.W.nsIn K mainGlobals "ord" = some none)
  (z61 : PySem.W.nsIn K mainGlobals "range" = some none)
  (z62 : PySem.W.nsIn K mainGlobals "reversed" = some none)
  (z63 : PySem.W.nsIn K mainGlobals "sorted" = some none)
  (z64 : PySem.W.nsIn K mainGlobals "str" = some none)
  (z65 : PySem.W.nsIn K mainGlobals "tuple" = some none)
  (z66 : PySem.W.nsIn K mainGlobals "zip" = some none)
  (ns_NOTHING : PySem.W.nsIn K mainGlobals "NOTHING" = some (some (.ref g1)))
  (ns_ANY : PySem.W.nsIn K mainGlobals "ANY" = some (some (.ref g11)))
  (ns_NO_LISTS : PySem.W.nsIn K mainGlobals "NO_LISTS" = some (some (.ref g24)))
  (ns_ALL_LISTS : PySem.W.nsIn K mainGlobals "ALL_LISTS" = some (some (.ref g26)))
  (ns_NO_RECORDS : PySem.W.nsIn K mainGlobals "NO_RECORDS" = some (some (.ref g28)))
  (ns_SORTS : PySem.W.nsIn K mainGlobals "SORTS" = some (some (.ref g30)))
  (a_NO : PySem.W.nsIn K mainGlobals "NO_SIGNS" = some (some (.ref gt)))
  (l_NO : K.lookup gt = some ⟨.type "tuple",dN,.seq #[.int 34 tA,.int 37 tB] nN,slN⟩)
  (hg1 : K.lookup g1 = some ⟨.type "tuple",gd1,.seq #[.bool false,.ref g2,.ref g3,.ref g4,.ref g7,.ref g9] gn1,gs1⟩)
  (hg2 : K.lookup g2 = some ⟨.type "tuple",gd2,.seq #[] gn2,gs2⟩)
  (hg3 : K.lookup g3 = some ⟨.type "tuple",gd3,.seq #[] gn3,gs3⟩)
  (hg4 : K.lookup g4 = some ⟨.type "tuple",gd4,.seq #[.str (Str.ofString "only") t5,.ref g6] gn4,gs4⟩)
  (hg6 : K.lookup g6 = some ⟨.type "tuple",gd6,.seq #[] gn6,gs6⟩)
  (hg7 : K.lookup g7 = some ⟨.type "tuple",gd7,.seq #[.str (Str.ofString "no") t8] gn7,gs7⟩)
  (hg9 : K.lookup g9 = some ⟨.type "tuple",gd9,.seq #[.str (Str.ofString "rest") t10,.bool false,.bool false] gn9,gs9⟩)
  (hg11 : K.lookup g11 = some ⟨.type "tuple",gd11,.seq #[.bool true,.ref g12,.ref g13,.ref g17,.ref g20,.ref g22] gn11,gs11⟩)
  (hg12 : K.lookup g12 = some ⟨.type "tuple",gd12,.seq #[.bool false,.bool true] gn12,gs12⟩)
  (hg13 : K.lookup g13 = some ⟨.type "tuple",gd13,.seq #[.ref g14] gn13,gs13⟩)
  (hg14 : K.lookup g14 = some ⟨.type "tuple",gd14,.seq #[.ref g15,.ref g16] gn14,gs14⟩)
  (hg15 : K.lookup g15 = some ⟨.type "tuple",gd15,.seq #[] gn15,gs15⟩)
  (hg16 : K.lookup g16 = some ⟨.type "tuple",gd16,.seq #[] gn16,gs16⟩)
  (hg17 : K.lookup g17 = some ⟨.type "tuple",gd17,.seq #[.str (Str.ofString "but") t18,.ref g19] gn17,gs17⟩)
  (hg19 : K.lookup g19 = some ⟨.type "tuple",gd19,.seq #[] gn19,gs19⟩)
  (hg20 : K.lookup g20 = some ⟨.type "tuple",gd20,.seq #[.str (Str.ofString "all") t21] gn20,gs20⟩)
  (hg22 : K.lookup g22 = some ⟨.type "tuple",gd22,.seq #[.str (Str.ofString "rest") t23,.bool true,.bool true] gn22,gs22⟩)
  (hg24 : K.lookup g24 = some ⟨.type "tuple",gd24,.seq #[.str (Str.ofString "no") t25] gn24,gs24⟩)
  (hg26 : K.lookup g26 = some ⟨.type "tuple",gd26,.seq #[.str (Str.ofString "all") t27] gn26,gs26⟩)
  (hg28 : K.lookup g28 = some ⟨.type "tuple",gd28,.seq #[.str (Str.ofString "rest") t29,.bool false,.bool false] gn28,gs28⟩)
  (hg30 : K.lookup g30 = some ⟨.type "tuple",none,.seq #[.str (Str.ofString "none") ts0,.str (Str.ofString "truth") ts1,.str (Str.ofString "number") ts2,.str (Str.ofString "text") ts3,.str (Str.ofString "list") ts4,.str (Str.ofString "record") ts5] gn30,gs30⟩)
  (hcd : PySem.W.codeHdIn K c17 T = true) :
  ∃ fd : FuncData,(∀ (s : Shared) (v : Value),BindsTo s fd ⟨[v],[]⟩ [("_law_script",v)]) ∧ ∀ base : Heap,K.In base → base.Ns mainGlobals mg → base.BuiltinsAt mg T → FnOk l.prog w K mg base L9 18 fa fd ["_law_script"] (nY K T) := by
 have e := hfa.symm.trans (PySem.W.mg_of X G a44)
 cases e
 have F1 := J2 (st := lC) l1 c1 k1
 have b1 := F1.binds (ps := ["low","high"]) fun _ _ _ _ _ _ us hl=>match us,hl with | [_,_],_=>rfl
 have F2 := J2 (st := lE) l2 c2 k2
 have b2 := F2.binds (ps := ["number"]) fun _ _ _ _ _ _ us hl=>match us,hl with | [_],_=>rfl
 have F4 := J2 (st := dD) l4 c4 k4
 have b4 := F4.binds (ps := ["high","low"]) fun _ _ _ _ _ _ us hl=>match us,hl with | [_,_],_=>rfl
 have F5 := J2 (st := aU) l5 c5 k5
 have b5 := F5.binds (ps := ["one","other"]) fun _ _ _ _ _ _ us hl=>match us,hl with | [_,_],_=>rfl
 have F3 := J2 (st := lA) l3 c3 k3
 have b3 := F3.binds (ps := ["found"]) fun _ _ _ _ _ _ us hl=>match us,hl with | [_],_=>rfl
 have F0 := J2 (st := sN) l0 c0 k0
 have b0 := F0.binds (ps := ["pairs"]) fun _ _ _ _ _ _ us hl=>match us,hl with | [_],_=>rfl
 have F7 := J2 (st := iG) l7 c7 k7
 have b7 := F7.binds (ps := ["low","number","high"]) fun _ _ _ _ _ _ us hl=>match us,hl with | [_,_,_],_=>rfl
 have F6 := J2 (st := sQ) l6 c6 k6
 have b6 := F6.binds (ps := ["spans","number"]) fun _ _ _ _ _ _ us hl=>match us,hl with | [_,_],_=>rfl
 have F8 := J2 (st := iB) l8 c8 k8
 have b8 := F8.binds (ps := ["letter"]) fun _ _ _ _ _ _ us hl=>match us,hl with | [_],_=>rfl
 have F9 := J2 (st := dC) l9 c9 k9
 have b9 := F9.binds (ps := ["found"]) fun _ _ _ _ _ _ us hl=>match us,hl with | [_],_=>rfl
 have F10 := J2 (st := lB) l10 c10 k10
 have b10 := F10.binds (ps := ["texts","text"]) fun _ _ _ _ _ _ us hl=>match us,hl with | [_,_],_=>rfl
 have F12 := J2 (st := sK) l12 c12 k12
 have b12 := F12.binds (ps := ["word","part"]) fun _ _ _ _ _ _ us hl=>match us,hl with | [_,_],_=>rfl
 have F11 := J2 (st := iA) l11 c11 k11
 have b11 := F11.binds (ps := ["word"]) fun _ _ _ _ _ _ us hl=>match us,hl with | [_],_=>rfl
 have F13 := J2 (st := kZ) l13 c13 k13
 have b13 := F13.binds (ps := ["truth"]) fun _ _ _ _ _ _ us hl=>match us,hl with | [_],_=>rfl
 have F14 := J2 (st := sO) l14 c14 k14
 have b14 := F14.binds (ps := ["low","high"]) fun _ _ _ _ _ _ us hl=>match us,hl with | [_,_],_=>rfl
 have F15 := J2 (st := kY) l15 c15 k15
 have b15 := F15.binds (ps := ["text"]) fun _ _ _ _ _ _ us hl=>match us,hl with | [_],_=>rfl
 have F18 := J2 (st := sL) l18 c18 k18
 have b18 := F18.binds (ps := ["name","kind","must","form","more"]) fun _ _ _ _ _ _ us hl=>match us,hl with | [_,_,_,_,_],_=>rfl
 have F16 : FunD K "of_list" "of_list" iE f16 c16 dt_of_list _ := ⟨⟨_,_,_,_,_,_,_,_,rfl,l16,c2_of_list⟩,⟨_,_,d_of_list,rfl⟩,k16⟩
 have b16 := F16.binds (ps := ["kinds","more"]) (ds := []) fun _ _ _ _ _ us hl=>match us,hl with | [_,_],_=>⟨_,rfl,rfl⟩
 have bd_of_list := F16.binds (ps := ["kinds","more"]) (ds := [.bool false]) fun _ _ _ _ _ us hl=>by
  have h1 : us.length = 1 := by simpa using hl
  match us,h1 with
  | [_],_=>exact ⟨_,rfl,rfl⟩
 have F17 : FunD K "of_record" "of_record" iX f17 c17 dt_of_record _ := ⟨⟨_,_,_,_,_,_,_,_,rfl,l17,c2_of_record⟩,⟨_,_,d_of_record,rfl⟩,k17⟩
 have b17 := F17.binds (ps := ["fields","more"]) (ds := []) fun _ _ _ _ _ us hl=>match us,hl with | [_,_],_=>⟨_,rfl,rfl⟩
 have bd_of_record := F17.binds (ps := ["fields","more"]) (ds := [.bool false]) fun _ _ _ _ _ us hl=>by
  have h1 : us.length = 1 := by simpa using hl
  match us,h1 with
  | [_],_=>exact ⟨_,rfl,rfl⟩
 have F24 := J2 (st := iF) l24 c24 k24
 have b24 := F24.binds (ps := ["_law_script","_law_k"]) fun _ _ _ _ _ _ us hl=>match us,hl with | [_,_],_=>rfl
 have F25 := J2 (st := dB) l25 c25 k25
 have b25 := F25.binds (ps := ["_law_cell","_law_k"]) fun _ _ _ _ _ _ us hl=>match us,hl with | [_,_],_=>rfl
 have F26 := J2 (st := iD) l26 c26 k26
 have b26 := F26.binds (ps := ["_law_state_here","_law_many"]) fun _ _ _ _ _ _ us hl=>match us,hl with | [_,_],_=>rfl
 have F27 := J2 (st := dE) l27 c27 k27
 have b27 := F27.binds (ps := ["_law_state_here"]) fun _ _ _ _ _ _ us hl=>match us,hl with | [_],_=>rfl
 have F28 := J2 (st := iC) l28 c28 k28
 have b28 := F28.binds (ps := ["_law_state_here"]) fun _ _ _ _ _ _ us hl=>match us,hl with | [_],_=>rfl
 have F29 := J2 (st := eB) l29 c29 k29
 have b29 := F29.binds (ps := ["_law_state_here"]) fun _ _ _ _ _ _ us hl=>match us,hl with | [_],_=>rfl
 have F30 := J2 (st := R3) l30 c30 k30
 have b30 := F30.binds (ps := ["_law_state_here"]) fun _ _ _ _ _ _ us hl=>match us,hl with | [_],_=>rfl
 have F36 := J2 (st := sR) l36 c36 k36
 have b36 := F36.binds (ps := ["_law_known"]) fun _ _ _ _ _ _ us hl=>match us,hl with | [_],_=>rfl
 have F40 := J2 (st := sP) l40 c40 k40
 have b40 := F40.binds (ps := ["_law_kinds","_law_more"]) fun _ _ _ _ _ _ us hl=>match us,hl with | [_,_],_=>rfl
 have F41 := J2 (st := sM) l41 c41 k41
 have b41 := F41.binds (ps := ["_law_fields","_law_more"]) fun _ _ _ _ _ _ us hl=>match us,hl with | [_,_],_=>rfl
 have F19 := J2 (st := bV) l19 c19 k19
 have b19 := F19.binds (ps := ["thing"]) fun _ _ _ _ _ _ us hl=>match us,hl with | [_],_=>rfl
 have F20 := J2 (st := Z6) l20 c20 k20
 have b20 := F20.binds (ps := ["kind","thing"]) fun _ _ _ _ _ _ us hl=>match us,hl with | [_,_],_=>rfl
 have F21 := J2 (st := mJ) l21 c21 k21
 have b21 := F21.binds (ps := ["form","items"]) fun _ _ _ _ _ _ us hl=>match us,hl with | [_,_],_=>rfl
 have F22 := J2 (st := mI) l22 c22 k22
 have b22 := F22.binds (ps := ["form","fields"]) fun _ _ _ _ _ _ us hl=>match us,hl with | [_,_],_=>rfl
 have F23 := J2 (st := mK) l23 c23 k23
 have b23 := F23.binds (ps := ["branches","thing","none"]) fun _ _ _ _ _ _ us hl=>match us,hl with | [_,_,_],_=>rfl
 have F31 := J2 (st := bS) l31 c31 k31
 have b31 := F31.binds (ps := ["_law_state_here","_law_names_here","_law_deep"]) fun _ _ _ _ _ _ us hl=>match us,hl with | [_,_,_],_=>rfl
 have F32 := J2 (st := bR) l32 c32 k32
 have b32 := F32.binds (ps := ["_law_state_here","_law_names_here","_law_deep"]) fun _ _ _ _ _ _ us hl=>match us,hl with | [_,_,_],_=>rfl
 have F33 := J2 (st := fX) l33 c33 k33
 have b33 := F33.binds (ps := ["_law_tree_here","_law_items"]) fun _ _ _ _ _ _ us hl=>match us,hl with | [_,_],_=>rfl
 have F34 := J2 (st := fW) l34 c34 k34
 have b34 := F34.binds (ps := ["_law_tree_here","_law_fields"]) fun _ _ _ _ _ _ us hl=>match us,hl with | [_,_],_=>rfl
 have F35 := J2 (st := fV) l35 c35 k35
 have b35 := F35.binds (ps := ["_law_tree_here","_law_thing"]) fun _ _ _ _ _ _ us hl=>match us,hl with | [_,_],_=>rfl
 have F37 := J2 (st := fY) l37 c37 k37
 have b37 := F37.binds (ps := ["_law_state_here","_law_names_here","_law_deep"]) fun _ _ _ _ _ _ us hl=>match us,hl with | [_,_,_],_=>rfl
 have F38 := J2 (st := mH) l38 c38 k38
 have b38 := F38.binds (ps := ["_law_state_here","_law_tree_here","_law_names_here","_law_deep"]) fun _ _ _ _ _ _ us hl=>match us,hl with | [_,_,_,_],_=>rfl
 have F39 := J2 (st := bT) l39 c39 k39
 have b39 := F39.binds (ps := ["_law_state_here","_law_tree_here","_law_names_here","_law_deep"]) fun _ _ _ _ _ _ us hl=>match us,hl with | [_,_,_,_],_=>rfl
 have F42 := J2 (st := bU) l42 c42 k42
 have b42 := F42.binds (ps := ["_law_tree_here"]) fun _ _ _ _ _ _ us hl=>match us,hl with | [_],_=>rfl
 have F43 := J2 (st := hZ) l43 c43 k43
 have b43 := F43.binds (ps := ["_law_kind_here","_law_thing","_law_due"]) fun _ _ _ _ _ _ us hl=>match us,hl with | [_,_,_],_=>rfl
 have F44 := J2 (st := eD) l44 c44 k44
 have m50 := PySem.W.mg_none_of X G z50
 have m51 := PySem.W.mg_none_of X G z51
 have m52 := PySem.W.mg_none_of X G z52
 have m53 := PySem.W.mg_none_of X G z53
 have m54 := PySem.W.mg_none_of X G z54
 have m55 := PySem.W.mg_none_of X G z55
 have m56 := PySem.W.mg_none_of X G z56
 have m57 := PySem.W.mg_none_of X G z57
 have m58 := PySem.W.mg_none_of X G z58
 have m59 := PySem.W.mg_none_of X G z59
 have m60 := PySem.W.mg_none_of X G z60
 have m61 := PySem.W.mg_none_of X G z61
 have m62 := PySem.W.mg_none_of X G z62
 have m63 := PySem.W.mg_none_of X G z63
 have m64 := PySem.W.mg_none_of X G z64
 have m65 := PySem.W.mg_none_of X G z65
 have m66 := PySem.W.mg_none_of X G z66
 have G_no := PySem.W.mg_of X G a_NO
 have K_no : ∀ H : Hp,SqT K H gt [.int 34,.int 37] := fun H=>.inr ⟨_,#[.int 34 tA,.int 37 tB],nN,l_NO,rfl,rfl,(by show 2 ≤ sizeLine; decide),.cons ⟨tA,rfl⟩ (.cons ⟨tB,rfl⟩ .nil)⟩
 have hGk : Gk K mg := ⟨⟨g1,[.bl false,.ref g2,.ref g3,.ref g4,.ref g7,.ref g9],PySem.W.mg_of X G ns_NOTHING,fun H=>⟨(show SqT K _ g1 [.bl false,.ref g2,.ref g3,.ref g4,.ref g7,.ref g9] from .inr ⟨_,#[.bool false,.ref g2,.ref g3,.ref g4,.ref g7,.ref g9],gn1,hg1,rfl,rfl,(by show 6 ≤ sizeLine; decide),.cons rfl (.cons rfl (.cons rfl (.cons rfl (.cons rfl (.cons rfl .nil)))))⟩),(E5 (P1.mpr rfl) (E5 (K2 (show SqT K _ g2 [] from .inr ⟨_,#[],gn2,hg2,rfl,rfl,(by show 0 ≤ sizeLine; decide),.nil⟩) L7) (E5 (K2 (show SqT K _ g3 [] from .inr ⟨_,#[],gn3,hg3,rfl,rfl,(by show 0 ≤ sizeLine; decide),.nil⟩) L7) (E5 (K2 (show SqT K _ g4 [.str (Str.ofString "only"),.ref g6] from .inr ⟨_,#[.str (Str.ofString "only") t5,.ref g6],gn4,hg4,rfl,rfl,(by show 2 ≤ sizeLine; decide),.cons ⟨t5,rfl⟩ (.cons rfl .nil)⟩) (E5 (G9.mpr rfl) (E5 (K2 (show SqT K _ g6 [] from .inr ⟨_,#[],gn6,hg6,rfl,rfl,(by show 0 ≤ sizeLine; decide),.nil⟩) L7) L7))) (E5 (K2 (show SqT K _ g7 [.str (Str.ofString "no")] from .inr ⟨_,#[.str (Str.ofString "no") t8],gn7,hg7,rfl,rfl,(by show 1 ≤ sizeLine; decide),.cons ⟨t8,rfl⟩ .nil⟩) (E5 (G9.mpr rfl) L7)) (E5 (K2 (show SqT K _ g9 [.str (Str.ofString "rest"),.bl false,.bl false] from .inr ⟨_,#[.str (Str.ofString "rest") t10,.bool false,.bool false],gn9,hg9,rfl,rfl,(by show 3 ≤ sizeLine; decide),.cons ⟨t10,rfl⟩ (.cons rfl (.cons rfl .nil))⟩) (E5 (G9.mpr rfl) (E5 (P1.mpr rfl) (E5 (P1.mpr rfl) L7)))) L7))))))⟩⟩,
  ⟨g11,[.bl true,.ref g12,.ref g13,.ref g17,.ref g20,.ref g22],PySem.W.mg_of X G ns_ANY,fun H=>⟨(show SqT K _ g11 [.bl true,.ref g12,.ref g13,.ref g17,.ref g20,.ref g22] from .inr ⟨_,#[.bool true,.ref g12,.ref g13,.ref g17,.ref g20,.ref g22],gn11,hg11,rfl,rfl,(by show 6 ≤ sizeLine; decide),.cons rfl (.cons rfl (.cons rfl (.cons rfl (.cons rfl (.cons rfl .nil)))))⟩),(E5 (P1.mpr rfl) (E5 (K2 (show SqT K _ g12 [.bl false,.bl true] from .inr ⟨_,#[.bool false,.bool true],gn12,hg12,rfl,rfl,(by show 2 ≤ sizeLine; decide),.cons rfl (.cons rfl .nil)⟩) (E5 (P1.mpr rfl) (E5 (P1.mpr rfl) L7))) (E5 (K2 (show SqT K _ g13 [.ref g14] from .inr ⟨_,#[.ref g14],gn13,hg13,rfl,rfl,(by show 1 ≤ sizeLine; decide),.cons rfl .nil⟩) (E5 (K2 (show SqT K _ g14 [.ref g15,.ref g16] from .inr ⟨_,#[.ref g15,.ref g16],gn14,hg14,rfl,rfl,(by show 2 ≤ sizeLine; decide),.cons rfl (.cons rfl .nil)⟩) (E5 (K2 (show SqT K _ g15 [] from .inr ⟨_,#[],gn15,hg15,rfl,rfl,(by show 0 ≤ sizeLine; decide),.nil⟩) L7) (E5 (K2 (show SqT K _ g16 [] from .inr ⟨_,#[],gn16,hg16,rfl,rfl,(by show 0 ≤ sizeLine; decide),.nil⟩) L7) L7))) L7)) (E5 (K2 (show SqT K _ g17 [.str (Str.ofString "but"),.ref g19] from .inr ⟨_,#[.str (Str.ofString "but") t18,.ref g19],gn17,hg17,rfl,rfl,(by show 2 ≤ sizeLine; decide),.cons ⟨t18,rfl⟩ (.cons rfl .nil)⟩) (E5 (G9.mpr rfl) (E5 (K2 (show SqT K _ g19 [] from .inr ⟨_,#[],gn19,hg19,rfl,rfl,(by show 0 ≤ sizeLine; decide),.nil⟩) L7) L7))) (E5 (K2 (show SqT K _ g20 [.str (Str.ofString "all")] from .inr ⟨_,#[.str (Str.ofString "all") t21],gn20,hg20,rfl,rfl,(by show 1 ≤ sizeLine; decide),.cons ⟨t21,rfl⟩ .nil⟩) (E5 (G9.mpr rfl) L7)) (E5 (K2 (show SqT K _ g22 [.str (Str.ofString "rest"),.bl true,.bl true] from .inr ⟨_,#[.str (Str.ofString "rest") t23,.bool true,.bool true],gn22,hg22,rfl,rfl,(by show 3 ≤ sizeLine; decide),.cons ⟨t23,rfl⟩ (.cons rfl (.cons rfl .nil))⟩) (E5 (G9.mpr rfl) (E5 (P1.mpr rfl) (E5 (P1.mpr rfl) L7)))) L7))))))⟩⟩,
  ⟨g24,PySem.W.mg_of X G ns_NO_LISTS,fun H=>K2 (show SqT K _ g24 [.str (Str.ofString "no")] from .inr ⟨_,#[.str (Str.ofString "no") t25],gn24,hg24,rfl,rfl,(by show 1 ≤ sizeLine; decide),.cons ⟨t25,rfl⟩ .nil⟩) (E5 (G9.mpr rfl) L7)⟩,⟨g26,PySem.W.mg_of X G ns_ALL_LISTS,fun H=>K2 (show SqT K _ g26 [.str (Str.ofString "all")] from .inr ⟨_,#[.str (Str.ofString "all") t27],gn26,hg26,rfl,rfl,(by show 1 ≤ sizeLine; decide),.cons ⟨t27,rfl⟩ .nil⟩) (E5 (G9.mpr rfl) L7)⟩,⟨g28,PySem.W.mg_of X G ns_NO_RECORDS,fun H=>K2 (show SqT K _ g28 [.str (Str.ofString "rest"),.bl false,.bl false] from .inr ⟨_,#[.str (Str.ofString "rest") t29,.bool false,.bool false],gn28,hg28,rfl,rfl,(by show 3 ≤ sizeLine; decide),.cons ⟨t29,rfl⟩ (.cons rfl (.cons rfl .nil))⟩) (E5 (G9.mpr rfl) (E5 (P1.mpr rfl) (E5 (P1.mpr rfl) L7)))⟩,
  ⟨g30,_,PySem.W.mg_of X G ns_SORTS,hg30,rfl,rfl,fun H=>.inr ⟨_,#[.str (Str.ofString "none") ts0,.str (Str.ofString "truth") ts1,.str (Str.ofString "number") ts2,.str (Str.ofString "text") ts3,.str (Str.ofString "list") ts4,.str (Str.ofString "record") ts5],gn30,hg30,rfl,rfl,(by show 6 ≤ sizeLine; decide),.cons ⟨ts0,rfl⟩ (.cons ⟨ts1,rfl⟩ (.cons ⟨ts2,rfl⟩ (.cons ⟨ts3,rfl⟩ (.cons ⟨ts4,rfl⟩ (.cons ⟨ts5,rfl⟩ .nil)))))⟩⟩⟩
 refine ⟨PySem.W.fnOf "law" "law" (E9 eD) (E4 eD) (B6 eD) .none kV44 dc44 pm44 an44 cd44 ct44,fun s v=>.of_eq rfl,fun base bK bN hBu=>?_⟩
 have hCd : PySem.W.CodeHd base c17 T := PySem.W.codeHd_of_K bK hcd
 have C1 : Cal l.prog w K mg base 1 "has_numbers" ["low","high"] vE := ⟨_,_,AV1 F1,PySem.W.mg_of X G a1,k1,b1⟩
 have C2 : Cal l.prog w K mg base 1 "end_of" ["number"] (vF K) := ⟨_,_,AV2 F2,PySem.W.mg_of X G a2,k2,b2⟩
 have C4 : Cal l.prog w K mg base 1 "reaches" ["high","low"] (kQ K) := ⟨_,_,AD6 F4,PySem.W.mg_of X G a4,k4,b4⟩
 have C5 : Cal l.prog w K mg base 1 "higher" ["one","other"] (iW K) := ⟨_,_,yD F5 m58,PySem.W.mg_of X G a5,k5,b5⟩
 have C3 : Cal l.prog w K mg base 2 "put_together" ["found"] (uY K) := ⟨_,_,AU6 F3 C4 C5 m63 m56 m65,PySem.W.mg_of X G a3,k3,b3⟩
 have C0 : Cal l.prog w K mg base 3 "spans_of" ["pairs"] (AB9 K) := ⟨_,_,BA9 F0 C1 C2 C3,PySem.W.mg_of X G a0,k0,b0⟩
 have C7 : Cal l.prog w K mg base 1 "is_between" ["low","number","high"] (pD K) := ⟨_,_,AO2 F7,PySem.W.mg_of X G a7,k7,b7⟩
 have C6 : Cal l.prog w K mg base 2 "in_spans" ["spans","number"] (vD K) := ⟨_,_,BB2 F6 C7 m51,PySem.W.mg_of X G a6,k6,b6⟩
 have C8 : Cal l.prog w K mg base 1 "is_sign" ["letter"] pA := ⟨_,_,AN5 F8 m60 G_no K_no,PySem.W.mg_of X G a8,k8,b8⟩
 have C9 : Cal l.prog w K mg base 2 "is_text_of_signs" ["found"] kP := ⟨_,_,AD5 F9 C8 m55 m64 m50,PySem.W.mg_of X G a9,k9,b9⟩
 have C10 : Cal l.prog w K mg base 3 "in_texts" ["texts","text"] (nZ K) := ⟨_,_,AU8 F10 C9,PySem.W.mg_of X G a10,k10,b10⟩
 have C12 : Cal l.prog w K mg base 1 "with_part" ["word","part"] (fN K) := ⟨_,_,BA7 F12 hGk,PySem.W.mg_of X G a12,k12,b12⟩
 have C11 : Cal l.prog w K mg base 2 "of_sort" ["word"] (cX K) := ⟨_,_,AN4 F11 hGk C12,PySem.W.mg_of X G a11,k11,b11⟩
 have C13 : Cal l.prog w K mg base 2 "of_truth" ["truth"] (hU K) := ⟨_,_,AU4 F13 C12,PySem.W.mg_of X G a13,k13,b13⟩
 have C14 : Cal l.prog w K mg base 4 "of_numbers" ["low","high"] (kR K) := ⟨_,_,BB1 F14 C12 C0,PySem.W.mg_of X G a14,k14,b14⟩
 have C15 : Cal l.prog w K mg base 2 "of_text" ["text"] (hJ K) := ⟨_,_,AU3 F15 C12,PySem.W.mg_of X G a15,k15,b15⟩
 have C18 : Cal l.prog w K mg base 1 "with_field" ["name","kind","must","form","more"] (AB8 K) := ⟨_,_,BA8 F18 hGk,PySem.W.mg_of X G a18,k18,b18⟩
 have C16 : CalD l.prog w K mg base 2 "of_list" ["kinds","more"] (aX K) := ⟨_,_,AN9 F16 hGk C12 m62,PySem.W.mg_of X G a16,k16,b16,bd_of_list⟩
 have C17 : CalD l.prog w K mg base 2 "of_record" ["fields","more"] (dY K T) := ⟨_,_,AU5 F17 hCd hBu C12 C18 m63,PySem.W.mg_of X G a17,k17,b17,bd_of_record⟩
 have C24 : Cal l.prog w K mg base 1 "_law_cell_at" ["_law_script","_law_k"] (pC K) := ⟨_,_,AO1 F24 m56,PySem.W.mg_of X G a24,k24,b24⟩
 have C25 : Cal l.prog w K mg base 1 "_law_state" ["_law_cell","_law_k"] kO := ⟨_,_,AD4 F25,PySem.W.mg_of X G a25,k25,b25⟩
 have C26 : Cal l.prog w K mg base 1 "_law_next" ["_law_state_here","_law_many"] Q8 := ⟨_,_,AN8 F26,PySem.W.mg_of X G a26,k26,b26⟩
 have C27 : Cal l.prog w K mg base 2 "_law_names" ["_law_state_here"] kU := ⟨_,_,AD7 F27 C26 m61 m54,PySem.W.mg_of X G a27,k27,b27⟩
 have C28 : Cal l.prog w K mg base 2 "_law_number" ["_law_state_here"] fO := ⟨_,_,AN7 F28 C26,PySem.W.mg_of X G a28,k28,b28⟩
 have C29 : Cal l.prog w K mg base 2 "_law_text" ["_law_state_here"] cW := ⟨_,_,AN3 F29 C26,PySem.W.mg_of X G a29,k29,b29⟩
 have C30 : Cal l.prog w K mg base 3 "_law_leaf" ["_law_state_here"] (fP K) := ⟨_,_,AO0 F30 C26 C28 C29,PySem.W.mg_of X G a30,k30,b30⟩
 have C36 : Cal l.prog w K mg base 1 "_law_as_record" ["_law_known"] (kW K) := ⟨_,_,BB3 F36 m65 m63,PySem.W.mg_of X G a36,k36,b36⟩
 have C40 : Cal l.prog w K mg base 3 "_law_list_kind" ["_law_kinds","_law_more"] (vC K T) := ⟨_,_,AD8 F40 hGk C16 m57 m56 m54,PySem.W.mg_of X G a40,k40,b40⟩
 have C41 : Cal l.prog w K mg base 3 "_law_record_kind" ["_law_fields","_law_more"] (uX K T) := ⟨_,_,vM F41 hGk C17 m57 m56 m54,PySem.W.mg_of X G a41,k41,b41⟩
 have N19 : Nm K mg "just" bV ["thing"] := ⟨_,_,F19,PySem.W.mg_of X G a19,k19,b19⟩
 have N20 : Nm K mg "holds" Z6 ["kind","thing"] := ⟨_,_,F20,PySem.W.mg_of X G a20,k20,b20⟩
 have N21 : Nm K mg "lets_list_in" mJ ["form","items"] := ⟨_,_,F21,PySem.W.mg_of X G a21,k21,b21⟩
 have N22 : Nm K mg "lets_record_in" mI ["form","fields"] := ⟨_,_,F22,PySem.W.mg_of X G a22,k22,b22⟩
 have N23 : Nm K mg "form_behind" mK ["branches","thing","none"] := ⟨_,_,F23,PySem.W.mg_of X G a23,k23,b23⟩
 have N31 : Nm K mg "_law_record" bS ["_law_state_here","_law_names_here","_law_deep"] := ⟨_,_,F31,PySem.W.mg_of X G a31,k31,b31⟩
 have N32 : Nm K mg "_law_tree" bR ["_law_state_here","_law_names_here","_law_deep"] := ⟨_,_,F32,PySem.W.mg_of X G a32,k32,b32⟩
 have N33 : Nm K mg "_law_in_list" fX ["_law_tree_here","_law_items"] := ⟨_,_,F33,PySem.W.mg_of X G a33,k33,b33⟩
 have N34 : Nm K mg "_law_in_record" fW ["_law_tree_here","_law_fields"] := ⟨_,_,F34,PySem.W.mg_of X G a34,k34,b34⟩
 have N35 : Nm K mg "_law_in" fV ["_law_tree_here","_law_thing"] := ⟨_,_,F35,PySem.W.mg_of X G a35,k35,b35⟩
 have N37 : Nm K mg "_law_any" fY ["_law_state_here","_law_names_here","_law_deep"] := ⟨_,_,F37,PySem.W.mg_of X G a37,k37,b37⟩
 have N38 : Nm K mg "_law_near_record" mH ["_law_state_here","_law_tree_here","_law_names_here","_law_deep"] := ⟨_,_,F38,PySem.W.mg_of X G a38,k38,b38⟩
 have N39 : Nm K mg "_law_near" bT ["_law_state_here","_law_tree_here","_law_names_here","_law_deep"] := ⟨_,_,F39,PySem.W.mg_of X G a39,k39,b39⟩
 have N42 : Nm K mg "_law_kind" bU ["_law_tree_here"] := ⟨_,_,F42,PySem.W.mg_of X G a42,k42,b42⟩
 have hHolds : Cal l.prog w K mg base 16 "holds" ["kind","thing"] (aT K 4) := mT N20 N23 N21 N22 hGk C6 C10 m53 m56 4
 have hTold : Cal l.prog w K mg base 17 "_law_told" ["_law_kind_here","_law_thing","_law_due"] (oZ K 4) := ⟨_,_,AN2 F43 hHolds m55 m52,PySem.W.mg_of X G a43,k43,b43⟩
 have hJust : Cal l.prog w K mg base 9 "just" ["thing"] (cZ K T 4) := qN N19 C11 C13 C14 C15 C16 C17 4
 have hTree := fun n (hn : n ≤ 2)=>(oQ N32 N31 C26 C30 m61 m54 m56 n hn).mono (show 2 * n + 4 ≤ 8 by omega)
 have hKind := fun n (hn : n ≤ 2)=>(qK N42 hGk C11 C13 C14 C15 C40 C41 n).mono (show n + 5 ≤ 7 by omega)
 have hAny := fun n (hn : n ≤ 3)=>uI N37 C26 C28 C29 C36 m61 m65 n hn
 have hNear := fun n (h1 : 1 ≤ n) (hn : n ≤ 2)=>(qB (d := n) N39 N38 ((hAny n (by omega)).mono (show n + 3 ≤ 5 by omega)) (hAny 1 (by decide)) C26 C36 m56 m65 h1 hn n hn).mono (show 2 * n + 6 ≤ 10 by omega)
 have hIn := fun n (hn : n ≤ 2)=>(zC (P := l.prog) (w := w) (base := base) N35 N33 N34 m56 m50 m66 n).mono (show 2 * n + 2 ≤ 6 by omega)
 exact AU7 F44 C24 C25 C27 C26 hTree hKind hNear hIn hJust hTold m56 m61 m59
end Law
namespace Law
open PySem L2 L2.Sp
theorem walk {l : PySem.W.OpenLaw} {q : Program} {loose : List Str} {XP : (Str → Option Value) → Heap → Prop} {YP : World → Heap → Prop} {d : DefRec} {K : Params → PySem.W.Frag} {T c : Addr} (hn : l.most = some 63) (hdf : d.params.defaults = [])
  (hY : ∀ (w : World) (h : Heap),YP w h → (K w.params).In h ∧ h.get? T = some (PySem.W.tabObj #[])) (KT : ∀ w : World,(K w.params).lookup T = none) (HC : ∀ w : World,PySem.W.codeHdIn (K w.params) c T = true)
  (F : ∀ (w : World) (mg : Str → Option Value) (fa : Addr) (h : Heap),(K w.params).In h → h.Ns mainGlobals mg → mg d.name = some (.ref fa) →
   ∃ fd : FuncData,(∀ (s : Shared) (u : Value),BindsTo s fd ⟨[u],[]⟩ [("_law_script",u)]) ∧ ∀ base : Heap,(K w.params).In base → base.Ns mainGlobals mg → base.BuiltinsAt mg T → FnOk l.prog w (K w.params) mg base L9 18 fa fd ["_law_script"] (nY (K w.params) T)) :
  PySem.W.WalkO q loose XP YP l.row.toRowW d [] (fun f vs=>PySem.call f vs) :=
 L2.walk_ofT (n := 63) (k := 18) (x := "_law_script") (T := T) (c := c) (sp := fun w=>nY (K w.params) T) hn (by decide) hdf ⟨rfl,by decide,by decide⟩ hY KT HC F fun w H a ns hl hT hS=>⟨a,ns,rfl,hS,hl,hT,fun H' hp=>⟨rfl,hp⟩⟩
end Law
def PySem.W.Fast.tw485321803866154038 : Unit := ()
def PySem.W.Fast.tw5485590815810229834 : Unit := ()
def PySem.W.Fast.tw14714846082319867671 : Unit := ()
def PySem.W.Fast.tw9876106322360938523 : Unit := ()
def PySem.W.Fast.tw11681342652618482022 : Unit := ()
def PySem.W.Fast.tw440165664772279247 : Unit := ()
def PySem.W.Fast.tw3166841126538644350 : Unit := ()
def PySem.W.Fast.tw3100317102561791002 : Unit := ()
def PySem.W.Fast.tw6499113431796639612 : Unit := ()
def PySem.W.Fast.tw2712324269468034091 : Unit := ()
def PySem.W.Fast.tw14477684897746264631 : Unit := ()
def PySem.W.Fast.tw19386326145338999 : Unit := ()
def PySem.W.Fast.tw9847388511182784332 : Unit := ()
def PySem.W.Fast.tw3797096901151061379 : Unit := ()
def PySem.W.Fast.tw10461569361276012490 : Unit := ()
def PySem.W.Fast.tw7194342453848856201 : Unit := ()
def PySem.W.Fast.tw9413371474660574688 : Unit := ()
def PySem.W.Fast.tw12834684435081588091 : Unit := ()
open PySem PySem.W PyProof.Rows
set_option maxRecDepth 100000 in
set_option maxHeartbeats 0 in
theorem PySem.Challenge.cw_meetvalue_k11_made_kinds_hold_holds : PySem.Challenge.rw_meetvalue_k11_made_kinds_hold.Holds := by
 w_on; o_law; k_head; (case hw=>w_witness2)
 k_fill
 refine Law.walk (l := PySem.Challenge.rw_meetvalue_k11_made_kinds_hold) (T := 153) (c := 157) rfl rfl (fun w h Y=>⟨PySem.W.km_in_of Y,PySem.W.km_tabs_of Y 153 (by simp)⟩) ?KT ?HC ?F
 case KT=>intro w; first | k_is | rfl
 case HC=>intro w; first | k_is | rfl
 case F =>
  intro w mg fa h KX G hmg
  refine' Law.all_mk (T := 153) KX G hmg ?a1 ?l1 ?c1 ?k1 ?a2 ?l2 ?c2 ?k2 ?a4 ?l4 ?c4 ?k4 ?a5 ?l5 ?c5 ?k5 ?a3 ?l3 ?c3 ?k3 ?a0 ?l0 ?c0 ?k0 ?a7 ?l7 ?c7 ?k7 ?a6 ?l6 ?c6 ?k6 ?a8 ?l8 ?c8 ?k8 ?a9 ?l9 ?c9 ?k9 ?a10 ?l10 ?c10 ?k10 ?a12 ?l12 ?c12 ?k12 ?a11 ?l11 ?c11 ?k11 ?a13 ?l13 ?c13 ?k13 ?a14 ?l14 ?c14 ?k14 ?a15 ?l15 ?c15 ?k15 ?a18 ?l18 ?c18 ?k18 ?a16 ?l16 ?c2_of_list ?k16 ?d_of_list ?a17 ?l17 ?c2_of_record ?k17 ?d_of_record ?a24 ?l24 ?c24 ?k24 ?a25 ?l25 ?c25 ?k25 ?a26 ?l26 ?c26 ?k26 ?a27 ?l27 ?c27 ?k27 ?a28 ?l28 ?c28 ?k28 ?a29 ?l29 ?c29 ?k29 ?a30 ?l30 ?c30 ?k30 ?a36 ?l36 ?c36 ?k36 ?a40 ?l40 ?c40 ?k40 ?a41 ?l41 ?c41 ?k41 ?a19 ?l19 ?c19 ?k19 ?a20 ?l20 ?c20 ?k20 ?a21 ?l21 ?c21 ?k21 ?a22 ?l22 ?c22 ?k22 ?a23 ?l23 ?c23 ?k23 ?a31 ?l31 ?c31 ?k31 ?a32 ?l32 ?c32 ?k32 ?a33 ?l33 ?c33 ?k33 ?a34 ?l34 ?c34 ?k34 ?a35 ?l35 ?c35 ?k35 ?a37 ?l37 ?c37 ?k37 ?a38 ?l38 ?c38 ?k38 ?a39 ?l39 ?c39 ?k39 ?a42 ?l42 ?c42 ?k42 ?a43 ?l43 ?c43 ?k43 ?a44 ?l44 ?c44 ?k44 ?z_all ?z_any ?z_bool ?z_dict ?z_int ?z_isinstance ?z_len ?z_list ?z_max ?z_min ?z_ord ?z_range ?z_reversed ?z_sorted ?z_str ?z_tuple ?z_zip ?ns_NOTHING ?ns_ANY ?ns_NO_LISTS ?ns_ALL_LISTS ?ns_NO_RECORDS ?ns_SORTS ?a_NO ?l_NO ?hg1 ?hg2 ?hg3 ?hg4 ?hg6 ?hg7 ?hg9 ?hg11 ?hg12 ?hg13 ?hg14 ?hg15 ?hg16 ?hg17 ?hg19 ?hg20 ?hg22 ?hg24 ?hg26 ?hg28 ?hg30 ?hcd
  (case a1=>first | k_is | rfl)
  (case l1=>first | k_is | rfl)
  (case c1=>first | k_is | rfl)
  (case k1=>first | k_is | rfl)
  (case a2=>first | k_is | rfl)
  (case l2=>first | k_is | rfl)
  (case c2=>first | k_is | rfl)
  (case k2=>first | k_is | rfl)
  (case a4=>first | k_is | rfl)
  (case l4=>first | k_is | rfl)
  (case c4=>first | k_is | rfl)
  (case k4=>first | k_is | rfl)
  (case a5=>first | k_is | rfl)
  (case l5=>first | k_is | rfl)
  (case c5=>first | k_is | rfl)
  (case k5=>first | k_is | rfl)
  (case a3=>first | k_is | rfl)
  (case l3=>first | k_is | rfl)
  (case c3=>first | k_is | rfl)
  (case k3=>first | k_is | rfl)
  (case a0=>first | k_is | rfl)
  (case l0=>first | k_is | rfl)
  (case c0=>first | k_is | rfl)
  (case k0=>first | k_is | rfl)
  (case a7=>first | k_is | rfl)
  (case l7=>first | k_is | rfl)
  (case c7=>first | k_is | rfl)
  (case k7=>first | k_is | rfl)
  (case a6=>first | k_is | rfl)
  (case l6=>first | k_is | rfl)
  (case c6=>first | k_is | rfl)
  (case k6=>first | k_is | rfl)
  (case a8=>first | k_is | rfl)
  (case l8=>first | k_is | rfl)
  (case c8=>first | k_is | rfl)
  (case k8=>first | k_is | rfl)
  (case a9=>first | k_is | rfl)
  (case l9=>first | k_is | rfl)
  (case c9=>first | k_is | rfl)
  (case k9=>first | k_is | rfl)
  (case a10=>first | k_is | rfl)
  (case l10=>first | k_is | rfl)
  (case c10=>first | k_is | rfl)
  (case k10=>first | k_is | rfl)
  (case a12=>first | k_is | rfl)
  (case l12=>first | k_is | rfl)
  (case c12=>first | k_is | rfl)
  (case k12=>first | k_is | rfl)
  (case a11=>first | k_is | rfl)
  (case l11=>first | k_is | rfl)
  (case c11=>first | k_is | rfl)
  (case k11=>first | k_is | rfl)
  (case a13=>first | k_is | rfl)
  (case l13=>first | k_is | rfl)
  (case c13=>first | k_is | rfl)
  (case k13=>first | k_is | rfl)
  (case a14=>first | k_is | rfl)
  (case l14=>first | k_is | rfl)
  (case c14=>first | k_is | rfl)
  (case k14=>first | k_is | rfl)
  (case a15=>first | k_is | rfl)
  (case l15=>first | k_is | rfl)
  (case c15=>first | k_is | rfl)
  (case k15=>first | k_is | rfl)
  (case a18=>first | k_is | rfl)
  (case l18=>first | k_is | rfl)
  (case c18=>first | k_is | rfl)
  (case k18=>first | k_is | rfl)
  (case a16=>first | k_is | rfl)
  (case l16=>first | k_is | rfl)
  (case c2_of_list=>first | k_is | rfl)
  (case k16=>first | k_is | rfl)
  (case d_of_list=>first | k_is | rfl)
  (case a17=>first | k_is | rfl)
  (case l17=>first | k_is | rfl)
  (case c2_of_record=>first | k_is | rfl)
  (case k17=>first | k_is | rfl)
  (case d_of_record=>first | k_is | rfl)
  (case a24=>first | k_is | rfl)
  (case l24=>first | k_is | rfl)
  (case c24=>first | k_is | rfl)
  (case k24=>first | k_is | rfl)
  (case a25=>first | k_is | rfl)
  (case l25=>first | k_is | rfl)
  (case c25=>first | k_is | rfl)
  (case k25=>first | k_is | rfl)
  (case a26=>first | k_is | rfl)
  (case l26=>first | k_is | rfl)
  (case c26=>first | k_is | rfl)
  (case k26=>first | k_is | rfl)
  (case a27=>first | k_is | rfl)
  (case l27=>first | k_is | rfl)
  (case c27=>first | k_is | rfl)
  (case k27=>first | k_is | rfl)
  (case a28=>first | k_is | rfl)
  (case l28=>first | k_is | rfl)
  (case c28=>first | k_is | rfl)
  (case k28=>first | k_is | rfl)
  (case a29=>first | k_is | rfl)
  (case l29=>first | k_is | rfl)
  (case c29=>first | k_is | rfl)
  (case k29=>first | k_is | rfl)
  (case a30=>first | k_is | rfl)
  (case l30=>first | k_is | rfl)
  (case c30=>first | k_is | rfl)
  (case k30=>first | k_is | rfl)
  (case a36=>first | k_is | rfl)
  (case l36=>first | k_is | rfl)
  (case c36=>first | k_is | rfl)
  (case k36=>first | k_is | rfl)
  (case a40=>first | k_is | rfl)
  (case l40=>first | k_is | rfl)
  (case c40=>first | k_is | rfl)
  (case k40=>first | k_is | rfl)
  (case a41=>first | k_is | rfl)
  (case l41=>first | k_is | rfl)
  (case c41=>first | k_is | rfl)
  (case k41=>first | k_is | rfl)
  (case a19=>first | k_is | rfl)
  (case l19=>first | k_is | rfl)
  (case c19=>first | k_is | rfl)
  (case k19=>first | k_is | rfl)
  (case a20=>first | k_is | rfl)
  (case l20=>first | k_is | rfl)
  (case c20=>first | k_is | rfl)
  (case k20=>first | k_is | rfl)
  (case a21=>first | k_is | rfl)
  (case l21=>first | k_is | rfl)
  (case c21=>first | k_is | rfl)
  (case k21=>first | k_is | rfl)
  (case a22=>first | k_is | rfl)
  (case l22=>first | k_is | rfl)
  (case c22=>first | k_is | rfl)
  (case k22=>first | k_is | rfl)
  (case a23=>first | k_is | rfl)
  (case l23=>first | k_is | rfl)
  (case c23=>first | k_is | rfl)
  (case k23=>first | k_is | rfl)
  (case a31=>first | k_is | rfl)
  (case l31=>first | k_is | rfl)
  (case c31=>first | k_is | rfl)
  (case k31=>first | k_is | rfl)
  (case a32=>first | k_is | rfl)
  (case l32=>first | k_is | rfl)
  (case c32=>first | k_is | rfl)
  (case k32=>first | k_is | rfl)
  (case a33=>first | k_is | rfl)
  (case l33=>first | k_is | rfl)
  (case c33=>first | k_is | rfl)
  (case k33=>first | k_is | rfl)
  (case a34=>first | k_is | rfl)
  (case l34=>first | k_is | rfl)
  (case c34=>first | k_is | rfl)
  (case k34=>first | k_is | rfl)
  (case a35=>first | k_is | rfl)
  (case l35=>first | k_is | rfl)
  (case c35=>first | k_is | rfl)
  (case k35=>first | k_is | rfl)
  (case a37=>first | k_is | rfl)
  (case l37=>first | k_is | rfl)
  (case c37=>first | k_is | rfl)
  (case k37=>first | k_is | rfl)
  (case a38=>first | k_is | rfl)
  (case l38=>first | k_is | rfl)
  (case c38=>first | k_is | rfl)
  (case k38=>first | k_is | rfl)
  (case a39=>first | k_is | rfl)
  (case l39=>first | k_is | rfl)
  (case c39=>first | k_is | rfl)
  (case k39=>first | k_is | rfl)
  (case a42=>first | k_is | rfl)
  (case l42=>first | k_is | rfl)
  (case c42=>first | k_is | rfl)
  (case k42=>first | k_is | rfl)
  (case a43=>first | k_is | rfl)
  (case l43=>first | k_is | rfl)
  (case c43=>first | k_is | rfl)
  (case k43=>first | k_is | rfl)
  (case a44=>first | k_is | rfl)
  (case l44=>first | k_is | rfl)
  (case c44=>first | k_is | rfl)
  (case k44=>first | k_is | rfl)
  (case z_all=>first | k_is | rfl)
  (case z_any=>first | k_is | rfl)
  (case z_bool=>first | k_is | rfl)
  (case z_dict=>first | k_is | rfl)
  (case z_int=>first | k_is | rfl)
  (case z_isinstance=>first | k_is | rfl)
  (case z_len=>first | k_is | rfl)
  (case z_list=>first | k_is | rfl)
  (case z_max=>first | k_is | rfl)
  (case z_min=>first | k_is | rfl)
  (case z_ord=>first | k_is | rfl)
  (case z_range=>first | k_is | rfl)
  (case z_reversed=>first | k_is | rfl)
  (case z_sorted=>first | k_is | rfl)
  (case z_str=>first | k_is | rfl)
  (case z_tuple=>first | k_is | rfl)
  (case z_zip=>first | k_is | rfl)
  (case ns_NOTHING=>first | k_is | rfl)
  (case ns_ANY=>first | k_is | rfl)
  (case ns_NO_LISTS=>first | k_is | rfl)
  (case ns_ALL_LISTS=>first | k_is | rfl)
  (case ns_NO_RECORDS=>first | k_is | rfl)
  (case ns_SORTS=>first | k_is | rfl)
  (case a_NO=>first | k_is | rfl)
  (case l_NO=>first | k_is | rfl)
  (case hg1=>first | k_is | rfl)
  (case hg2=>first | k_is | rfl)
  (case hg3=>first | k_is | rfl)
  (case hg4=>first | k_is | rfl)
  (case hg6=>first | k_is | rfl)
  (case hg7=>first | k_is | rfl)
  (case hg9=>first | k_is | rfl)
  (case hg11=>first | k_is | rfl)
  (case hg12=>first | k_is | rfl)
  (case hg13=>first | k_is | rfl)
  (case hg14=>first | k_is | rfl)
  (case hg15=>first | k_is | rfl)
  (case hg16=>first | k_is | rfl)
  (case hg17=>first | k_is | rfl)
  (case hg19=>first | k_is | rfl)
  (case hg20=>first | k_is | rfl)
  (case hg22=>first | k_is | rfl)
  (case hg24=>first | k_is | rfl)
  (case hg26=>first | k_is | rfl)
  (case hg28=>first | k_is | rfl)
  (case hg30=>first | k_is | rfl)
  (case hcd=>first | k_is | rfl)
